package tests

import (
	"fmt"
	"slices"
	"strconv"
	"testing"

	"loop.example/g00050/impl"
)

func textAt(group, num int64, text string) []impl.Elem {
	return []impl.Elem{{Group: group, Num: num, Kind: impl.ElText, Text: text}}
}

func bytesAt(group, num int64, text string) []impl.Elem {
	return []impl.Elem{{Group: group, Num: num, Kind: impl.ElBytes, Text: text}}
}

func wholesAt(group, num int64, nums ...int64) []impl.Elem {
	return []impl.Elem{{Group: group, Num: num, Kind: impl.ElWhole, Nums: nums}}
}

func realsAt(group, num int64, nums ...int64) []impl.Elem {
	return []impl.Elem{{Group: group, Num: num, Kind: impl.ElReal, Nums: nums}}
}

func seqAt(group, num int64, items ...[]impl.Elem) []impl.Elem {
	return holderOf(impl.Elem{Group: group, Num: num, Kind: impl.ElSeq}, items)
}

func itemOf(parts ...[]impl.Elem) []impl.Elem {
	return holderOf(impl.Elem{Kind: impl.ElItem}, parts)
}

func holderOf(e impl.Elem, parts [][]impl.Elem) []impl.Elem {
	inside := slices.Concat(parts...)
	e.Size = int64(len(inside))
	return append([]impl.Elem{e}, inside...)
}

func elemsOf(parts ...[]impl.Elem) []impl.Elem { return slices.Concat(parts...) }

// nestOf has so many elements one within the other, the innermost being what may stand there.
func nestOf(deep int64) []impl.Elem {
	list := seqAt(2, 3)
	if deep%2 == 0 {
		list = seqAt(2, 3, itemOf())
	}
	for int64(len(list)) < deep {
		list = seqAt(2, 3, itemOf(list))
	}
	return list
}

// richList has every kind in every place, by the dictionary; its files are short.
func richList() []impl.Elem {
	return elemsOf(
		textAt(0, 0, "a"),
		wholesAt(2, 1, -2147483648, -1, 0, 258, 2147483647),
		realsAt(2, 2, leastInt, -2, mostInt),
		seqAt(2, 3, itemOf(), itemOf(bytesAt(1, 3, "\xff\xff\x02\x00"), seqAt(4, 8, itemOf(wholesAt(0, 1)), itemOf(textAt(6, 5, "b")))), itemOf(textAt(0, 0, ""))),
		bytesAt(2, 4, "\x00\x1b"),
		seqAt(2, 8),
		bytesAt(3, 1, ""),
		textAt(65534, 65535, "end"))
}

func sameElem(a, b impl.Elem) bool {
	return a.Group == b.Group && a.Num == b.Num && a.Kind == b.Kind && a.Text == b.Text && slices.Equal(a.Nums, b.Nums) && a.Size == b.Size
}

func sameElems(a, b []impl.Elem) bool { return slices.EqualFunc(a, b, sameElem) }

func briefElems(list []impl.Elem) string {
	if len(list) > 20 {
		return fmt.Sprint(len(list), " elements")
	}
	told := fmt.Sprintf("%+v", list)
	return told[:min(len(told), 1000)]
}

func wantElems(t *testing.T, what any, got, want []impl.Elem) {
	t.Helper()
	if !sameElems(got, want) {
		t.Errorf("%v: %s, want %s", what, briefElems(got), briefElems(want))
	}
}

func wantRight(t *testing.T, what any, list []impl.Elem, want bool) {
	t.Helper()
	if got := impl.ElemsOk(list); got != want {
		t.Errorf("%v: %v for %s", what, got, briefElems(list))
	}
	if got := plainRight(list); got != want {
		t.Errorf("%v: the test's own reckoning tells %v for %s", what, got, briefElems(list))
	}
}

// holdersOf are the places of the elements in which the one at a place stands, the outermost first.
func holdersOf(list []impl.Elem, place int) []int {
	var holders []int
	for ahead := range place {
		if list[ahead].Size >= int64(place-ahead) {
			holders = append(holders, ahead)
		}
	}
	return holders
}

// holderAt is the place of the element in which the one at a place stands next, or -1.
func holderAt(list []impl.Elem, place int) int {
	if holders := holdersOf(list, place); len(holders) > 0 {
		return holders[len(holders)-1]
	}
	return -1
}

func plainRight(list []impl.Elem) bool {
	if len(list) > 2000 || !sizesFit(list) {
		return false
	}
	last := map[int]impl.Elem{} // of each holder what was seen in it last
	for place, e := range list {
		holders := holdersOf(list, place)
		holder := holderAt(list, place)
		inSeq := holder >= 0 && list[holder].Kind == impl.ElSeq
		if len(holders)+1 > 8 || inSeq != (e.Kind == impl.ElItem) || !isPlainElem(e) {
			return false
		}
		if before, seen := last[holder]; seen && !inSeq && (before.Group > e.Group || before.Group == e.Group && before.Num >= e.Num) {
			return false
		}
		last[holder] = e
	}
	return true
}

// sizesFit asks whether what stands in an element ends within what that element stands in.
func sizesFit(list []impl.Elem) bool {
	for place, e := range list {
		if e.Size < 0 || e.Size > int64(len(list)-1-place) {
			return false
		}
		for _, holder := range holdersOf(list, place) {
			if int64(place)+e.Size > int64(holder)+list[holder].Size {
				return false
			}
		}
	}
	return true
}

func isPlainElem(e impl.Elem) bool {
	holds := e.Kind == impl.ElSeq || e.Kind == impl.ElItem
	hasText := e.Kind == impl.ElText || e.Kind == impl.ElBytes
	hasNums := e.Kind == impl.ElWhole || e.Kind == impl.ElReal
	switch {
	case e.Kind < 1 || e.Kind > 6, e.Group < 0, e.Group > 65534, e.Num < 0, e.Num > 65535:
		return false
	case e.Kind == impl.ElItem && (e.Group != 0 || e.Num != 0):
		return false
	case !holds && e.Size != 0, !hasText && len(e.Text) > 0, !hasNums && len(e.Nums) > 0:
		return false
	case len(e.Text) > 4096, len(e.Nums) > 4096:
		return false
	}
	return e.Kind != impl.ElWhole || allLieFrom(e.Nums, -2147483648, 2147483647)
}

func plainKind(group, num int64) int64 {
	switch {
	case group < 0 || group > 65534 || num < 0 || num > 65535:
		return 0
	case group&1 == 1:
		return 2
	}
	for _, kind := range []int64{1, 3, 4, 5, 2} {
		if num%5 == 0 {
			return kind
		}
		num--
	}
	return -1
}

// lowFirst has the bytes of a number, the lowest first.
func lowFirst(n int64, count int) string {
	var out []byte
	for range count {
		out = append(out, byte(n&255))
		n >>= 8
	}
	return string(out)
}

func sealed(form byte, body string) []byte {
	whole := "LNTH" + string([]byte{form}) + body
	return []byte(whole + sumBytesOf(whole))
}

// sumBytesOf reckons the two numbers as sums and takes them modulo 65521 at last.
func sumBytesOf(text string) string {
	first, second := uint64(1), uint64(0)
	for i := range len(text) {
		first += uint64(text[i])
		second += first
	}
	return lowFirst(int64(first%65521), 2) + lowFirst(int64(second%65521), 2)
}

func plainFile(list []impl.Elem, form int64) []byte {
	if !plainRight(list) || form < 0 || form > 3 {
		return nil
	}
	for _, e := range list {
		if form%2 == 0 && e.Kind != impl.ElItem && e.Kind != plainKind(e.Group, e.Num) {
			return nil
		}
	}
	file := sealed(byte(form), plainBody(list, form))
	if len(file) > 1048576 {
		return nil
	}
	return file
}

func plainBody(list []impl.Elem, form int64) string {
	body := ""
	for len(list) > 0 {
		e := list[0]
		value := plainValue(e, plainBody(list[1:1+e.Size], form))
		head := lowFirst(e.Group, 2) + lowFirst(e.Num, 2)
		if form%2 == 1 {
			head += lowFirst(e.Kind, 1)
		}
		end := "\xff\xff\x03\x00"
		if e.Kind == impl.ElItem {
			head, end = "\xff\xff\x01\x00", "\xff\xff\x02\x00"
		}
		if form >= 2 && e.Kind >= impl.ElSeq {
			body += head + "\xff\xff\xff\xff" + value + end + "\x00\x00\x00\x00"
		} else {
			body += head + lowFirst(int64(len(value)), 4) + value
		}
		list = list[1+e.Size:]
	}
	return body
}

func plainValue(e impl.Elem, inside string) string {
	value := []byte(e.Text + inside)
	for _, n := range e.Nums {
		if e.Kind == impl.ElWhole {
			value = append(value, lowFirst(n, 4)...)
		} else {
			value = append(value, lowFirst(n, 8)...)
		}
	}
	return string(value)
}

// plainRead looks at every byte as it comes and writes nothing.
func plainRead(b []byte) ([]impl.Elem, impl.FileFault) {
	fault := func(code, at int) ([]impl.Elem, impl.FileFault) {
		return nil, impl.FileFault{Code: int64(code), At: int64(at)}
	}
	end := len(b) - 4
	switch {
	case len(b) > 1048576:
		return fault(1, 0)
	case len(b) < 9 || b[0] != 'L' || b[1] != 'N' || b[2] != 'T' || b[3] != 'H':
		return fault(2, 0)
	case b[4] > 3:
		return fault(2, 4)
	case string(b[end:]) != sumBytesOf(string(b[:end])):
		return fault(3, end)
	}
	p := plainParser{told: b[4]%2 == 1, open: b[4] >= 2, body: string(b[5:end])}
	for p.at < len(p.body) && !p.broken {
		p.elem(len(p.body), 1)
	}
	if p.broken || !plainRight(p.list) {
		return fault(4, 0)
	}
	return p.list, impl.FileFault{}
}

type plainParser struct {
	told, open, broken bool
	body               string
	at                 int
	list               []impl.Elem
}

// cut has the next bytes, if they end no later than end.
func (p *plainParser) cut(count int64, end int) string {
	if p.broken || count > int64(end-p.at) {
		p.broken = true
		return ""
	}
	piece := p.body[p.at : p.at+int(count)]
	p.at += int(count)
	return piece
}

func (p *plainParser) whole(count int64, end int) int64 {
	piece, n := p.cut(count, end), int64(0)
	for i := len(piece) - 1; i >= 0; i-- {
		n = n<<8 + int64(piece[i])
	}
	return n
}

func (p *plainParser) elem(end, depth int) {
	e := impl.Elem{Group: p.whole(2, end), Num: p.whole(2, end)}
	e.Kind = plainKind(e.Group, e.Num)
	if p.told {
		e.Kind = p.whole(1, end)
	}
	if p.broken || e.Group == 65535 || e.Kind < 1 || e.Kind > 5 || len(p.list) == 2000 {
		p.broken = true
		return
	}
	if e.Kind == impl.ElSeq {
		p.holder(e, end, depth, "\xff\xff\x03\x00\x00\x00\x00\x00")
		return
	}
	value := p.cut(p.whole(4, end), end)
	width := 1
	switch e.Kind {
	case impl.ElWhole:
		width = 4
	case impl.ElReal:
		width = 8
	default:
		e.Text = value
	}
	if p.broken = p.broken || len(value)%width != 0; width == 1 || p.broken {
		p.list = append(p.list, e)
		return
	}
	for at := 0; at < len(value); at += width {
		n := int64(int8(value[at+width-1]))
		for k := width - 2; k >= 0; k-- {
			n = n*256 + int64(value[at+k])
		}
		e.Nums = append(e.Nums, n)
	}
	p.list = append(p.list, e)
}

func (p *plainParser) item(end, depth int) {
	if p.cut(4, end) != "\xff\xff\x01\x00" || len(p.list) == 2000 {
		p.broken = true
		return
	}
	p.holder(impl.Elem{Kind: impl.ElItem}, end, depth, "\xff\xff\x02\x00\x00\x00\x00\x00")
}

func (p *plainParser) holder(e impl.Elem, end, depth int, mark string) {
	place, length := len(p.list), p.whole(4, end)
	p.list = append(p.list, e)
	stop := end
	if p.open {
		p.broken = p.broken || length != 4294967295
	} else if p.broken = p.broken || length > int64(end-p.at); !p.broken {
		stop = p.at + int(length)
	}
	for !p.broken && depth <= 8 {
		if p.open && p.at+8 <= end && p.body[p.at:p.at+8] == mark {
			p.at += 8
			break
		}
		if !p.open && p.at == stop {
			break
		}
		if e.Kind == impl.ElSeq {
			p.item(stop, depth+1)
		} else {
			p.elem(stop, depth+1)
		}
	}
	p.broken = p.broken || depth > 8
	p.list[place].Size = int64(len(p.list) - place - 1)
}

// plainForm has the sign whose shortest form stands at the beginning of a text, and how long it is; 0 where there is none.
func plainForm(text string) (int64, int) {
	for length, least := range []int64{0, 0, 128, 2048, 65536} {
		if length == 0 || length > len(text) {
			continue
		}
		head := []int64{0, 0, 192, 224, 240}[length]
		room := []int64{0, 128, 32, 16, 8}[length]
		sign := int64(text[0]) - head
		if sign < 0 || sign >= room {
			continue
		}
		for _, part := range []byte(text[1:length]) {
			if part < 128 || part > 191 {
				return 0, 0
			}
			sign = sign*64 + int64(part) - 128
		}
		if sign < least || sign > 1114111 || liesFrom(sign, 55296, 57343) {
			return 0, 0
		}
		return sign, length
	}
	return 0, 0
}

func plainSigns(name string) []int64 {
	if len(name) > 4096 {
		return nil
	}
	var signs []int64
	set := 0
	for at := 0; at < len(name); {
		part := name[at]
		form, length := plainForm(name[at:])
		switch {
		case part == 27 && at+1 < len(name) && name[at+1] >= '0' && name[at+1] <= '2':
			set = int(name[at+1]) - '0'
			at += 2
			continue
		case part == 27, set == 0 && part > 127, set == 2 && length == 0:
			signs = append(signs, 65533)
		case set == 2:
			signs = append(signs, form)
			at += length - 1
		default:
			signs = append(signs, int64(part))
		}
		at++
	}
	return signs
}

// formOfSign has the bytes of a sign of set 2, by its number.
func formOfSign(sign int64) string {
	later := func(k int64) byte { return byte(128 + sign/k%64) }
	switch {
	case sign < 128:
		return string([]byte{byte(sign)})
	case sign < 2048:
		return string([]byte{byte(192 + sign/64), later(1)})
	case sign < 65536:
		return string([]byte{byte(224 + sign/4096), later(64), later(1)})
	}
	return string([]byte{byte(240 + sign/262144), later(4096), later(64), later(1)})
}

func isTellable(sign int64) bool {
	return liesFrom(sign, 0, 55295) && sign != 27 || liesFrom(sign, 57344, 1114111)
}

func plainName(signs []int64) string {
	if len(signs) > 4096 {
		return ""
	}
	var name []byte
	wide := false
	for _, sign := range signs {
		if !isTellable(sign) {
			return ""
		}
		if sign > 127 && !wide {
			name, wide = append(name, "\x1b2"...), true
		}
		name = append(name, formOfSign(sign)...)
	}
	if len(name) > 4096 {
		return ""
	}
	return string(name)
}

func plainIdentifies(group, num int64) bool {
	return liesFrom(group, 0, 65534) && liesFrom(num, 0, 65535) && (group == 16 || group&1 == 1)
}

// isLeftOut asks whether an element is left out for its own sake or for that of one in which it stands.
func isLeftOut(list []impl.Elem, place int) bool {
	for _, at := range append(holdersOf(list, place), place) {
		e := list[at]
		if e.Group&1 == 1 || e.Group == 16 && e.Kind != impl.ElText {
			return true
		}
	}
	return false
}

func plainAnonymous(files [][]impl.Elem, coins []int64) ([][]impl.Elem, []string) {
	wrong := len(files) > 4 || len(coins) > 4096 || !allLieFrom(coins, 0, 1000000000)
	for _, list := range files {
		wrong = wrong || !plainRight(list)
	}
	if wrong {
		return nil, nil
	}
	var texts []string
	out := make([][]impl.Elem, len(files))
	for k, list := range files {
		for place, e := range list {
			if isLeftOut(list, place) {
				continue
			}
			for at := range int(e.Size) {
				e.Size -= oneIf(isLeftOut(list, place+1+at))
			}
			if e.Group == 16 && !slices.Contains(texts, e.Text) {
				texts = append(texts, e.Text)
			}
			out[k] = append(out[k], e)
		}
	}
	told := plainOrder(texts, coins)
	for _, list := range out {
		for k, e := range list {
			if e.Group == 16 {
				list[k].Text = "A" + strconv.Itoa(slices.Index(told, e.Text)+1)
			}
		}
	}
	return out, told
}

// plainOrder lets the texts themselves change places.
func plainOrder(texts []string, coins []int64) []string {
	told := slices.Clone(texts)
	for k := len(told) - 1; k >= 1; k-- {
		with := int64(0)
		if number := len(told) - 1 - k; number < len(coins) {
			with = coins[number] % int64(k+1)
		}
		told[k], told[with] = told[with], told[k]
	}
	return told
}

// tree is a right list of elements, of kinds by the dictionary or of any; deep is how many more may stand one within the other.
func (m *mixer) tree(count int64, deep int64, known bool) []impl.Elem {
	var list []impl.Elem
	tag := int64(-1)
	for range count {
		tag += m.pick(1, 65536*2)
		if m.pick(0, 2) == 0 && tag < 16*65536 {
			tag = 16*65536 + m.pick(0, 5)
		}
		group, num := tag/65536, tag%65536
		kind := m.pick(1, 5)
		if known {
			kind = plainKind(group, num)
		}
		if kind == impl.ElSeq && deep < 2 {
			continue
		}
		list = append(list, m.elem(group, num, kind, deep, known)...)
	}
	return list
}

func (m *mixer) elem(group, num, kind, deep int64, known bool) []impl.Elem {
	text := string([]string{"", "amy", "bob", "\xff\xff\x03", "eve"}[m.pick(0, 4)])
	switch kind {
	case impl.ElText:
		return textAt(group, num, text)
	case impl.ElBytes:
		return bytesAt(group, num, text)
	case impl.ElWhole:
		return wholesAt(group, num, m.list(int(m.pick(0, 3)), -2147483648, 2147483647)...)
	case impl.ElReal:
		return realsAt(group, num, m.list(int(m.pick(0, 3)), -1<<62, 1<<62)...)
	}
	var items [][]impl.Elem
	for range m.pick(0, 3) {
		if deep < 3 {
			items = append(items, itemOf())
		} else {
			items = append(items, itemOf(m.tree(m.pick(0, 3), deep-2, known)))
		}
	}
	return seqAt(group, num, items...)
}
