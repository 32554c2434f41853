package tests

import (
	"bytes"
	"slices"
	"strings"
	"testing"

	"loop.example/g00050/impl"
)

// markElem stands in the spare room behind lists of elements.
func markElem() impl.Elem {
	return impl.Elem{Group: 16, Num: 77, Kind: impl.ElText, Text: "room", Size: 3}
}

// roomyElems has spare room behind the list and behind each list of numbers in it.
func roomyElems(list []impl.Elem) []impl.Elem {
	own := roomy(list, markElem())
	for k := range own {
		own[k].Nums = roomy(own[k].Nums, 77)
	}
	return own
}

func elemsStay(list, was []impl.Elem) bool {
	for _, e := range list[:len(list)+8][len(list):] {
		if !sameElem(e, markElem()) {
			return false
		}
	}
	for k := range list {
		if !stays(list[k].Nums, was[k].Nums, 77) {
			return false
		}
	}
	return sameElems(list, was)
}

func copyOfElems(list []impl.Elem) []impl.Elem {
	own := slices.Clone(list)
	for k := range own {
		own[k].Nums = slices.Clone(own[k].Nums)
	}
	return own
}

// spoilElems writes over a list and all that it holds.
func spoilElems(list []impl.Elem) {
	for _, e := range list {
		spoil(e.Nums)
	}
	fillWith(list, impl.Elem{Group: -1, Nums: []int64{-12345}, Text: "spoilt"})
}

func TestWrittenFilesAreNewMemory(t *testing.T) {
	was := richList()
	for form := int64(0); form <= 3; form++ {
		list := roomyElems(was)
		first, second := impl.WriteFile(list, form), impl.WriteFile(list, form)
		wantAnswer(t, "right", impl.ElemsOk(list), true)
		if !elemsStay(list, was) {
			t.Error("a list changes")
		}
		want := slices.Clone(second)
		fillWith(first, 0xee)
		spoilElems(list)
		wantFile(t, "shared memory", second, want)
	}
	// Two elements may have one list of numbers.
	nums := []int64{1, 2, 3}
	list := elemsOf(wholesAt(2, 1, nums...), wholesAt(2, 6, nums...), realsAt(2, 7, nums...))
	wantFile(t, "one list thrice", impl.WriteFile(list, 0), plainFile(list, 0))
	wantLists(t, "one list thrice", nums, []int64{1, 2, 3})
	empty, other := impl.WriteFile(nil, 0), impl.WriteFile(nil, 0)
	fillWith(empty, 0xee)
	wantFile(t, "no element", other, []byte("LNTH\x00\x37\x01\x45\x04"))
}

func TestReadListsAreNewMemory(t *testing.T) {
	want := richList()
	for form := int64(0); form <= 3; form++ {
		was := impl.WriteFile(want, form)
		file := roomy(was, 0xee)
		first, fault := impl.ReadFile(file)
		second, again := impl.ReadFile(file)
		if !stays(file, was, 0xee) || fault != again || fault != (impl.FileFault{}) {
			t.Error("a file changes", fault, again)
		}
		spoilElems(first)
		fillWith(file, 0xdd)
		wantElems(t, "shared memory", second, want)
		// No two lists of one answer are one.
		for k := range second {
			spoil(second[k].Nums)
			for later := k + 1; later < len(second); later++ {
				wantLists(t, "two lists are one", second[later].Nums, want[later].Nums)
			}
		}
	}
	for _, file := range [][]byte{{}, []byte("LNTH"), sealed(0, "abc"), sealed(2, "\x02\x00\x03\x00\xff\xff\xff\xff"), sealed(9, "")} {
		own := roomy(file, 0xee)
		impl.ReadFile(own)
		if !stays(own, file, 0xee) {
			t.Errorf("a refused file changes: %x", own)
		}
	}
}

func TestSignsAreNewMemory(t *testing.T) {
	first, second := impl.Signs("a\x1b2\xc3\xa9\x1b1\xff"), impl.Signs("a\x1b2\xc3\xa9\x1b1\xff")
	spoil(first)
	wantLists(t, "signs", second, []int64{97, 233, 255})
	for _, was := range [][]int64{{97, 233, 98, 8364}, {97, 27}, {}, {-1}, slices.Repeat([]int64{97}, 4097), slices.Repeat([]int64{233}, 4000)} {
		signs := roomy(was, 77)
		name := impl.NameOf(signs)
		if !stays(signs, was, 77) {
			t.Error("signs change", brief(was))
		}
		spoil(signs)
		if name != plainName(was) {
			t.Error("a name changes", name)
		}
	}
}

func TestAnonymousListsAreNewMemory(t *testing.T) {
	was := [][]impl.Elem{elemsOf(wholesAt(2, 1, 4, 5), namesAt("amy", "bob"), realsAt(18, 1, 6), seqAt(18, 3, itemOf(realsAt(2, 0, 7, 8), bytesAt(17, 0, "x")))), namesAt("bob"), realsAt(2, 2, 1, 2)}
	coins := []int64{1, 0}
	files := [][]impl.Elem{roomyElems(was[0]), roomyElems(was[1]), roomyElems(was[2])}
	own, ownCoins := roomy(files, []impl.Elem{markElem()}), roomy(coins, 77)
	first, told := impl.Anonymous(own, ownCoins)
	second, again := impl.Anonymous(own, ownCoins)
	for k := range own {
		if !elemsStay(own[k], was[k]) {
			t.Error("a list changes", k)
		}
	}
	for _, room := range own[:11][3:] {
		wantElems(t, "the room behind the lists", room, []impl.Elem{markElem()})
	}
	if len(own) != 3 || !stays(ownCoins, coins, 77) {
		t.Error("an argument changes")
	}
	want, wantTold := plainAnonymous(was, coins)
	for k := range first {
		spoilElems(first[k])
		spoilElems(own[k])
	}
	fillWith(first, nil)
	fillWith(told, "spoilt")
	fillWith(ownCoins, 9)
	for k := range want {
		wantElems(t, "shared memory", second[k], want[k])
	}
	if !slices.Equal(again, wantTold) {
		t.Error("shared memory", again)
	}
	// No two lists of one answer are one.
	for k := range second {
		spoilElems(second[k])
		for later := k + 1; later < len(second); later++ {
			wantElems(t, "two lists are one", second[later], want[later])
		}
	}
}

// One list may be handed in twice, and one list of numbers may stand in many elements.
func TestSharedElements(t *testing.T) {
	nums := []int64{1, 2}
	list := elemsOf(realsAt(2, 2, nums...), namesAt("amy"), wholesAt(18, 1, nums...))
	out, told := impl.Anonymous([][]impl.Elem{list, list, list, list}, nums)
	wantNumber(t, "lists", int64(len(out)), 4)
	if !slices.Equal(told, []string{"amy"}) {
		t.Error(told)
	}
	for k := range out {
		wantElems(t, k, out[k], elemsOf(realsAt(2, 2, 1, 2), namesAt("A1"), wholesAt(18, 1, 1, 2)))
		for n := range out[k] {
			spoil(out[k][n].Nums)
		}
		spoilElems(out[k])
	}
	wantLists(t, "numbers", nums, []int64{1, 2})
	wantElems(t, "list", list, elemsOf(realsAt(2, 2, 1, 2), namesAt("amy"), wholesAt(18, 1, 1, 2)))
	// Within one list too.
	out, _ = impl.Anonymous([][]impl.Elem{list}, nil)
	spoil(out[0][0].Nums)
	wantLists(t, "numbers of one list", out[0][2].Nums, []int64{1, 2})
}

// What lies behind a list's length is not read.
func TestElementsBehindTheLength(t *testing.T) {
	list := elemsOf(textAt(2, 0, "a"), textAt(2, 0, "b"))
	wantAnswer(t, "one of two", impl.ElemsOk(list[:1]), true)
	wantAnswer(t, "both", impl.ElemsOk(list), false)
	wantFile(t, "one of two", impl.WriteFile(list[:1], 0), plainFile(textAt(2, 0, "a"), 0))
	seq := seqAt(2, 3, itemOf())
	wantAnswer(t, "a sequence cut", impl.ElemsOk(seq[:1]), false)
	file := append(impl.WriteFile(list[:1], 0), "more"...)
	wantRead(t, "a file with more behind", file[:len(file)-4], list[:1])
	wantFault(t, "all of it", file, impl.FileSum, int64(len(file)-4))
	wantRead(t, "no element", []byte("LNTH\x00\x37\x01\x45\x04\x00\x00")[:9], nil)
	signs := []int64{97, 27}
	if impl.NameOf(signs[:1]) != "a" || impl.NameOf(signs) != "" {
		t.Error("signs behind the length")
	}
	coins := []int64{1, -1}
	_, told := impl.Anonymous([][]impl.Elem{namesAt("a", "b", "c"), itemOf()}[:1], coins[:1])
	if !slices.Equal(told, []string{"c", "a", "b"}) {
		t.Error("coins behind the length", told)
	}
}

// Answers hang on nothing but what they are given: neither on what was asked ahead nor on what is asked meanwhile.
func TestFilesAskedAtOnce(t *testing.T) {
	done := make(chan bool)
	want := richList()
	for worker := range 8 {
		go func() {
			defer func() { done <- true }()
			for k := range 50 {
				form := int64((worker + k) % 4)
				file := plainFile(want, form)
				if !bytes.Equal(impl.WriteFile(want, form), file) {
					t.Error("written", form)
				}
				if k%3 == 0 {
					file = sealed(byte(form), "abc")
				}
				list, fault := impl.ReadFile(file)
				if k%3 == 0 && (len(list) > 0 || fault.Code != impl.FileForm) || k%3 > 0 && !sameElems(list, want) {
					t.Error("read", form, fault)
				}
			}
		}()
	}
	for range 8 {
		<-done
	}
}

func TestElementsNeverPanic(t *testing.T) {
	m := mixer(219)
	wild := []int64{leastInt, leastInt + 1, -1 << 32, -65536, -6, -1, 0, 0, 0, 1, 1, 2, 3, 5, 6, 7, 15, 16, 17, 27, 48, 127, 128, 255, 256, 4096, 4097, 55295, 55296, 57343, 57344, 65533, 65534, 65535, 65536, 1114111, 1114112, 1000000000, 1000000001, 1 << 31, 1<<31 - 1, 1 << 32, 1<<32 + 1, 1 << 62, mostInt - 1, mostInt}
	pick := func() int64 {
		if m.pick(0, 2) > 0 {
			return m.pick(0, 6)
		}
		return wild[m.pick(0, int64(len(wild)-1))]
	}
	list := func(n int64) []int64 {
		var out []int64
		for range n {
			out = append(out, pick())
		}
		return out
	}
	elems := func(n int64) []impl.Elem {
		var out []impl.Elem
		for range n {
			out = append(out, impl.Elem{Group: pick(), Num: pick(), Kind: pick(), Text: []string{"", "", "", "a", "\x1b2"}[m.pick(0, 4)], Nums: list(max(0, m.pick(-3, 2))), Size: pick()})
		}
		return out
	}
	for range 30000 {
		some := elems(m.pick(0, 4))
		askElems(t, some, pick())
		askElems(t, twisted(&m), m.pick(-1, 4))
		askNames(t, list(m.pick(0, 5)), pick(), pick())
		askNobody(t, [][]impl.Elem{some, elems(m.pick(0, 2))}, list(m.pick(0, 3)))
		askNobody(t, [][]impl.Elem{twisted(&m), m.tree(m.pick(0, 3), 4, false)}, m.list(int(m.pick(0, 3)), 0, 9))
		var b []byte
		for range m.pick(0, 30) {
			b = append(b, byte(pick()))
		}
		askFile(t, b)
		askFile(t, sealed(byte(m.pick(0, 4)), string(b)))
	}
	askElems(t, nil, 0)
	askNames(t, nil, 0, 0)
	askNobody(t, nil, nil)
	askFile(t, nil)
	askElems(t, make([]impl.Elem, 1<<16), 0)
	askElems(t, []impl.Elem{{Kind: 1, Text: strings.Repeat("a", 1<<20)}}, 0)
	askElems(t, []impl.Elem{{Kind: 4, Num: 2, Nums: make([]int64, 1<<20)}}, 0)
	askNames(t, make([]int64, 1<<20), 0, 0)
	askNobody(t, make([][]impl.Elem, 1<<16), make([]int64, 1<<16))
	askFile(t, make([]byte, 1<<22))
}

// twisted is a right list with one thing else, which may be right still.
func twisted(m *mixer) []impl.Elem {
	list := copyOfElems(m.tree(m.pick(0, 4), 8, m.pick(0, 1) == 0))
	if len(list) == 0 {
		return list
	}
	e := &list[m.pick(0, int64(len(list)-1))]
	switch m.pick(0, 4) {
	case 0:
		e.Group += m.pick(-2, 2)
	case 1:
		e.Num += m.pick(-2, 2)
	case 2:
		e.Kind = m.pick(0, 7)
	case 3:
		e.Size += m.pick(-2, 2)
	case 4:
		e.Text += "x"
	}
	return list
}

func askElems(t *testing.T, list []impl.Elem, form int64) {
	defer wantNoPanic(t, []any{briefElems(list), form})
	wantAnswer(t, briefElems(list), impl.ElemsOk(list), plainRight(list))
	wantFile(t, briefElems(list), impl.WriteFile(list, form), plainFile(list, form))
}

func askNames(t *testing.T, signs []int64, group, num int64) {
	defer wantNoPanic(t, []any{brief(signs), group, num})
	name := impl.NameOf(signs)
	if name != plainName(signs) {
		t.Errorf("%s: %q", brief(signs), name)
	}
	var b []byte
	for _, sign := range signs {
		b = append(b, byte(sign))
	}
	wantLists(t, name, impl.Signs(string(b)), plainSigns(string(b)))
	wantNumber(t, []int64{group, num}, impl.KindOf(group, num), plainKind(group, num))
	wantAnswer(t, []int64{group, num}, impl.Identifies(group, num), plainIdentifies(group, num))
}

func askNobody(t *testing.T, files [][]impl.Elem, coins []int64) {
	defer wantNoPanic(t, []any{len(files), brief(coins)})
	wantNobody(t, "wild", files, coins)
}

func askFile(t *testing.T, b []byte) {
	defer wantNoPanic(t, len(b))
	wantAsPlain(t, len(b), b)
}
