package tests

import (
	"slices"
	"strings"
	"testing"

	"loop.example/g00050/impl"
)

func wantFault(t *testing.T, what any, b []byte, code, at int64) {
	t.Helper()
	list, fault := impl.ReadFile(b)
	if len(list) != 0 || fault.Code != code || fault.At != at {
		t.Errorf("%v: %s, %+v, want nothing and the fault %d at %d", what, briefElems(list), fault, code, at)
	}
}

func wantRead(t *testing.T, what any, b []byte, want []impl.Elem) {
	t.Helper()
	list, fault := impl.ReadFile(b)
	if fault != (impl.FileFault{}) || !sameElems(list, want) {
		t.Errorf("%v: %s, %+v, want %s", what, briefElems(list), fault, briefElems(want))
	}
}

// wantAsPlain reads a file both ways, and tells whether it is one.
func wantAsPlain(t *testing.T, what any, b []byte) bool {
	t.Helper()
	want, fault := plainRead(b)
	if fault.Code != 0 {
		wantFault(t, what, b, fault.Code, fault.At)
		return false
	}
	wantRead(t, what, b, want)
	return true
}

func wantNoFile(t *testing.T, what any, form byte, body string) {
	t.Helper()
	wantFault(t, what, sealed(form, body), impl.FileForm, 0)
	if _, fault := plainRead(sealed(form, body)); fault.Code != impl.FileForm {
		t.Error("the test's own reading takes", what)
	}
}

func TestListsComeBack(t *testing.T) {
	m := mixer(212)
	lists := [][]impl.Elem{nil, richList(), nestOf(8), nestOf(7), textAt(0, 0, ""), seqAt(2, 3), seqAt(2, 3, itemOf())}
	for k := range 500 {
		lists = append(lists, m.tree(m.pick(0, 6), 8, k%2 == 0))
	}
	for _, list := range lists {
		for form := int64(0); form <= 3; form++ {
			if file := impl.WriteFile(list, form); len(file) > 0 {
				wantRead(t, form, file, list)
			} else if form%2 == 1 {
				t.Error("not written", form, briefElems(list))
			}
		}
	}
}

func TestLongListsComeBack(t *testing.T) {
	items := seqAt(2, 3, slices.Repeat([][]impl.Elem{itemOf()}, 1999)...)
	full := elemsOf(textAt(0, 0, strings.Repeat("\xff", 4096)), wholesAt(0, 1, slices.Repeat([]int64{-2147483648, 2147483647}, 2048)...), realsAt(0, 2, slices.Repeat([]int64{leastInt, mostInt}, 2048)...), bytesAt(0, 4, strings.Repeat("\x00", 4096)))
	texts := []impl.Elem{}
	for k := range int64(2000) {
		texts = append(texts, textAt(2, 5*k, "")...)
	}
	for form := int64(0); form <= 3; form++ {
		for _, list := range [][]impl.Elem{items, full, texts} {
			file := impl.WriteFile(list, form)
			wantRead(t, form, file, list)
		}
		list := listOfLength(1048576, form)
		wantRead(t, "the longest file", impl.WriteFile(list, form), list)
	}
}

func TestFilesTooShort(t *testing.T) {
	file := impl.WriteFile(textAt(0, 0, "a"), 0)
	for n := range 9 {
		wantFault(t, n, file[:n], impl.FileMagic, 0)
		wantFault(t, n, []byte("LNTH\x09\xff\xff\xff\xff")[:n], impl.FileMagic, 0)
		wantFault(t, n, make([]byte, n), impl.FileMagic, 0)
	}
	wantFault(t, "nil", nil, impl.FileMagic, 0)
	wantFault(t, "cut in its sum", file[:9], impl.FileSum, 5)
	wantRead(t, "the shortest", []byte("LNTH\x00\x37\x01\x45\x04"), nil)
	for n := 9; n < len(file); n++ {
		wantFault(t, n, file[:n], impl.FileSum, int64(n-4))
	}
}

func TestFilesTooLong(t *testing.T) {
	for form := int64(0); form <= 3; form++ {
		// One byte more, with the sum that it has: FileLong all the same.
		list := listOfLength(1048577, form)
		file := sealed(byte(form), plainBody(list, form))
		wantNumber(t, "its length", int64(len(file)), 1048577)
		wantFault(t, "a byte too many", file, impl.FileLong, 0)
		right := sealed(byte(form), plainBody(listOfLength(1048576, form), form))
		wantFault(t, "a byte behind", append(right, 0), impl.FileLong, 0)
	}
	for _, n := range []int{1048576, 1048577, 1 << 21} {
		code, place := int64(impl.FileLong), int64(0)
		if n == 1048576 {
			code = impl.FileMagic
		}
		wantFault(t, n, make([]byte, n), code, place)
		long := make([]byte, n)
		copy(long, "LNTH\x04")
		if n == 1048576 {
			place = 4
		}
		wantFault(t, n, long, code, place)
		copy(long, "LNTH\x03")
		if n == 1048576 {
			code, place = impl.FileSum, 1048572
		}
		wantFault(t, n, long, code, place)
	}
}

func TestMagicIsAsked(t *testing.T) {
	for place := range 4 {
		for other := range 256 {
			file := impl.WriteFile(richList(), 2)
			if byte(other) == file[place] {
				continue
			}
			file[place] = byte(other)
			wantFault(t, place, file, impl.FileMagic, 0)
			// With a sum that is right, or a form that is none, it is the same.
			copy(file[len(file)-4:], sumBytesOf(string(file[:len(file)-4])))
			wantFault(t, place, file, impl.FileMagic, 0)
			file[4] = 4
			wantFault(t, place, file, impl.FileMagic, 0)
		}
	}
	for form := 4; form < 256; form++ {
		wantFault(t, form, sealed(byte(form), ""), impl.FileMagic, 4)
		wantFault(t, form, sealed(byte(form), plainBody(richList(), 0)), impl.FileMagic, 4)
		wantFault(t, form, []byte("LNTH"+string([]byte{byte(form)})+"\x00\x00\x00\x00"), impl.FileMagic, 4)
	}
	wantFault(t, "small letters", []byte("lnth\x00\x37\x01\x45\x04"), impl.FileMagic, 0)
}

func TestSumIsAsked(t *testing.T) {
	for form := int64(0); form <= 3; form++ {
		file := impl.WriteFile(richList(), form)
		end := len(file) - 4
		for place := end; place < len(file); place++ {
			for other := range 256 {
				wrong := slices.Clone(file)
				if wrong[place] = byte(other); wrong[place] != file[place] {
					wantFault(t, place, wrong, impl.FileSum, int64(end))
				}
			}
		}
	}
	// A sum that is the same modulo 65521 is another one still.
	empty := []byte("LNTH\x00\x37\x01\x45\x04")
	wantFault(t, "more by 65521", []byte("LNTH\x00"+lowFirst(0x137+65521, 2)+"\x45\x04"), impl.FileSum, 5)
	for k := range 32 {
		other := slices.Clone(empty)
		other[5+k/8] ^= 1 << (k % 8)
		wantFault(t, k, other, impl.FileSum, 5)
	}
	// A body that can't be read is told behind a sum that is wrong.
	wantFault(t, "both", []byte("LNTH\x00\x01\x02\x03\x04\x05\x06"), impl.FileSum, 7)
}

// TestOneByteTurned is the promise: no byte of a file can be another one unseen.
func TestOneByteTurned(t *testing.T) {
	files := [][]byte{impl.WriteFile(nil, 0), impl.WriteFile(listOfLength(9000, 3), 3)}
	for form := int64(0); form <= 3; form++ {
		files = append(files, impl.WriteFile(richList(), form))
	}
	for _, file := range files {
		step := 1 + len(file)/1000*40
		for place := 0; place < len(file); place++ {
			was := file[place]
			for other := 0; other < 256; other += step {
				if byte(other) == was {
					continue
				}
				file[place] = byte(other)
				if list, fault := impl.ReadFile(file); fault.Code == 0 || len(list) > 0 {
					t.Fatal(place, was, other)
				}
			}
			file[place] = was
		}
		if _, fault := impl.ReadFile(file); fault.Code != 0 {
			t.Error("not a file any more", fault)
		}
	}
}

// TestOneByteTurnedAndSealed has the sum of what was turned: a file is taken just if it is the file of a list.
func TestOneByteTurnedAndSealed(t *testing.T) {
	for form := int64(0); form <= 3; form++ {
		body, taken := []byte(plainBody(richList(), form)), 0
		for place, was := range body {
			for _, other := range turnsOf(was) {
				body[place] = other
				file := sealed(byte(form), string(body))
				taken += int(oneIf(wantAsPlain(t, []any{place, other}, file)))
				if list, fault := impl.ReadFile(file); fault.Code == 0 {
					wantFile(t, "written again", impl.WriteFile(list, form), file)
				}
			}
			body[place] = was
		}
		if taken < 512 {
			t.Error("hardly any is taken", form, taken)
		}
	}
}

// turnsOf are the bytes that one may be turned into: small ones, great ones, near ones and those of one bit else.
func turnsOf(was byte) []byte {
	turns := []byte{127, 128, 254, 255, was - 1, was, was + 1}
	for k := range byte(18) {
		turns = append(turns, k)
	}
	for bit := range 8 {
		turns = append(turns, was^1<<bit)
	}
	return turns
}

func TestFilesCutShort(t *testing.T) {
	for form := int64(0); form <= 3; form++ {
		list := richList()
		body := plainBody(list, form)
		whole := map[int][]impl.Elem{}
		for rest := list; ; rest = rest[1+rest[0].Size:] {
			ahead := list[:len(list)-len(rest)]
			whole[len(plainBody(ahead, form))] = ahead
			if len(rest) == 0 {
				break
			}
		}
		for n := range len(body) + 1 {
			if ahead, ends := whole[n]; ends {
				wantRead(t, n, sealed(byte(form), body[:n]), ahead)
			} else {
				wantNoFile(t, n, byte(form), body[:n])
			}
		}
	}
}

func TestBytesBehindTheEnd(t *testing.T) {
	for form := byte(0); form <= 3; form++ {
		for _, list := range [][]impl.Elem{nil, textAt(0, 0, "a"), seqAt(2, 3, itemOf()), richList()} {
			body := plainBody(list, int64(form))
			for n := 1; n < 8; n++ {
				wantNoFile(t, n, form, body+strings.Repeat("\xff", n))
				wantNoFile(t, n, form, body+strings.Repeat("\x00", n))
			}
			for _, behind := range []string{"\xff\xff\x01\x00\x00\x00\x00\x00", "\xff\xff\x02\x00\x00\x00\x00\x00", "\xff\xff\x03\x00\x00\x00\x00\x00", "\xff\xff\x00\x00\x00\x00\x00\x00\x00", "LNTH"} {
				wantNoFile(t, behind, form, body+behind)
			}
		}
	}
}

func TestLengthsAreAsked(t *testing.T) {
	lengths := []int64{0, 1, 2, 3, 4, 5, 6, 7, 8, 9, 15, 16, 17, 255, 256, 257, 1 << 16, 1<<24 + 8, 1<<31 - 1, 1 << 31, 1<<31 + 8, 1<<32 - 9, 1<<32 - 8, 1<<32 - 2, 1<<32 - 1}
	heads := []string{"\x02\x00\x00\x00\x01", "\x02\x00\x04\x00\x02", "\x02\x00\x01\x00\x03", "\x02\x00\x02\x00\x04", "\x02\x00\x03\x00\x05"}
	for form := byte(0); form <= 3; form++ {
		for _, head := range heads {
			if form%2 == 0 {
				head = head[:4]
			}
			for _, length := range lengths {
				for n := range 18 {
					body := head + lowFirst(length, 4) + strings.Repeat("\x00", n)
					taken := wantAsPlain(t, []any{head, length, n}, sealed(form, body))
					if length > int64(n) && taken {
						t.Error("too great", head, length, n)
					}
				}
			}
		}
	}
	wantNoFile(t, "a text one short", 0, "\x00\x00\x00\x00\x03\x00\x00\x00ab")
	wantNoFile(t, "a text one long", 0, "\x00\x00\x00\x00\x01\x00\x00\x00ab")
	for n := range 20 {
		value := strings.Repeat("\x01", n)
		for _, form := range []byte{0, 2} {
			wholes, reals := sealed(form, "\x00\x00\x01\x00"+lowFirst(int64(n), 4)+value), sealed(form, "\x00\x00\x02\x00"+lowFirst(int64(n), 4)+value)
			if n%4 == 0 {
				wantRead(t, n, wholes, wholesAt(0, 1, slices.Repeat([]int64{0x01010101}, n/4)...))
			} else {
				wantFault(t, n, wholes, impl.FileForm, 0)
			}
			if n%8 == 0 {
				wantRead(t, n, reals, realsAt(0, 2, slices.Repeat([]int64{0x0101010101010101}, n/8)...))
			} else {
				wantFault(t, n, reals, impl.FileForm, 0)
			}
		}
	}
}

func TestLengthsOfWhatHolds(t *testing.T) {
	const item, text = "\xff\xff\x01\x00", "\x00\x00\x00\x00\x01\x00\x00\x00a"
	want := seqAt(2, 3, itemOf(textAt(0, 0, "a")))
	for seq := int64(0); seq < 40; seq++ {
		for inner := int64(0); inner < 20; inner++ {
			body := "\x02\x00\x03\x00" + lowFirst(seq, 4) + item + lowFirst(inner, 4) + text
			if seq == 17 && inner == 9 {
				wantRead(t, "just so", sealed(0, body), want)
				wantNoFile(t, "lengths in an open form", 2, body+"\xff\xff\x02\x00\x00\x00\x00\x00\xff\xff\x03\x00\x00\x00\x00\x00")
			} else {
				wantNoFile(t, []int64{seq, inner}, 0, body)
			}
		}
	}
	for _, great := range []int64{1 << 16, 1 << 31, 1<<31 - 1, 1<<32 - 1, 1<<32 - 17, 1<<32 - 9} {
		wantNoFile(t, great, 0, "\x02\x00\x03\x00"+lowFirst(great, 4)+item+lowFirst(9, 4)+text)
		wantNoFile(t, great, 0, "\x02\x00\x03\x00"+lowFirst(17, 4)+item+lowFirst(great, 4)+text)
	}
	// A text whose value goes past its item, or past its sequence.
	wantNoFile(t, "past its item", 0, "\x02\x00\x03\x00\x10\x00\x00\x00"+item+"\x08\x00\x00\x00"+text)
	wantNoFile(t, "past its item", 0, "\x02\x00\x03\x00\x11\x00\x00\x00"+item+"\x08\x00\x00\x00"+text)
	wantNoFile(t, "past both", 0, "\x02\x00\x03\x00\x11\x00\x00\x00"+item+"\x09\x00\x00\x00\x00\x00\x00\x00\x0a\x00\x00\x00"+strings.Repeat("a", 10))
	// What goes past its item ends just where the next one begins.
	wantNoFile(t, "into the next", 0, "\x02\x00\x03\x00\x19\x00\x00\x00"+item+"\x08\x00\x00\x00"+text+item+"\x00\x00\x00\x00")
}

func TestEndsAreAsked(t *testing.T) {
	const item, itemEnd, seqEnd, open = "\xff\xff\x01\x00", "\xff\xff\x02\x00\x00\x00\x00\x00", "\xff\xff\x03\x00\x00\x00\x00\x00", "\xff\xff\xff\xff"
	const seq, text = "\x02\x00\x03\x00" + open, "\x00\x00\x00\x00\x01\x00\x00\x00a"
	one := seqAt(2, 3, itemOf(textAt(0, 0, "a")))
	wantRead(t, "just so", sealed(2, seq+item+open+text+itemEnd+seqEnd), one)
	wantRead(t, "empty", sealed(2, seq+seqEnd), seqAt(2, 3))
	wantRead(t, "two", sealed(2, seq+item+open+itemEnd+item+open+text+itemEnd+seqEnd), seqAt(2, 3, itemOf(), itemOf(textAt(0, 0, "a"))))
	bodies := map[string]string{
		"no end of the sequence":             seq + item + open + text + itemEnd,
		"no end of the item":                 seq + item + open + text + seqEnd,
		"no end at all":                      seq + item + open + text,
		"no end of an empty one":             seq,
		"two ends of the item":               seq + item + open + text + itemEnd + itemEnd + seqEnd,
		"two ends of the sequence":           seq + item + open + text + itemEnd + seqEnd + seqEnd,
		"ends changed":                       seq + item + open + text + seqEnd + itemEnd,
		"an item's end for a sequence's":     seq + item + open + text + itemEnd + itemEnd,
		"a sequence's end for an item's":     seq + item + open + text + seqEnd + seqEnd,
		"an item's end in a sequence":        seq + itemEnd + seqEnd,
		"an item's end at the top":           itemEnd,
		"a sequence's end at the top":        seqEnd,
		"an end ahead":                       seqEnd + seq + seqEnd,
		"an end behind a text":               text + itemEnd,
		"an item at the top":                 item + open + itemEnd,
		"an item in an item":                 seq + item + open + item + open + itemEnd + itemEnd + seqEnd,
		"an item's end that is none":         seq + item + open + "\xff\xff\x02\x01\x00\x00\x00\x00" + seqEnd,
		"a text in a sequence":               seq + text + seqEnd,
		"a mark 4":                           seq + item + open + "\xff\xff\x04\x00\x00\x00\x00\x00" + seqEnd,
		"a mark 0":                           seq + "\xff\xff\x00\x00" + open + itemEnd + seqEnd,
		"an item of length 0":                seq + item + "\x00\x00\x00\x00" + itemEnd + seqEnd,
		"a sequence of length 0":             "\x02\x00\x03\x00\x00\x00\x00\x00" + seqEnd,
		"lengths and no ends":                "\x02\x00\x03\x00\x11\x00\x00\x00" + item + "\x09\x00\x00\x00" + text,
		"a length one less":                  "\x02\x00\x03\x00\xfe\xff\xff\xff" + seqEnd,
		"an item whose length is one less":   seq + item + "\xff\xff\xff\x7f" + itemEnd + seqEnd,
		"an end cut short":                   seq + item + open + itemEnd + seqEnd[:7],
		"an end of its tag alone":            seq + item + open + itemEnd + seqEnd[:4],
		"an end with a byte more":            seq + item + open + itemEnd + seqEnd + "\x00",
		"an item's end cut short, then more": seq + item + open + itemEnd[:7] + seqEnd,
		"a text without a length":            "\x00\x00\x00\x00" + open + "a",
	}
	for what, body := range bodies {
		wantNoFile(t, what, 2, body)
	}
	for k := 4; k < 8; k++ {
		for bit := range 8 {
			for _, end := range []string{itemEnd, seqEnd} {
				other := []byte(end)
				other[k] = 1 << bit
				body := seq + item + open + text + itemEnd + seqEnd
				wantNoFile(t, "four bytes that are not 0", 2, strings.Replace(body, end, string(other), 1))
			}
		}
	}
	// A form with lengths has no ends.
	for _, body := range []string{seq + seqEnd, seq + item + open + text + itemEnd + seqEnd, "\x02\x00\x03\x00\x08\x00\x00\x00" + seqEnd, "\x02\x00\x03\x00\x10\x00\x00\x00" + item + "\x08\x00\x00\x00" + itemEnd, seq, seq + item + open, itemEnd, seqEnd, "\x02\x00\x03\x00\x00\x00\x00\x00" + seqEnd} {
		wantNoFile(t, "an end and a length", 0, body)
	}
}

func TestKindsAreAsked(t *testing.T) {
	for kind := range 256 {
		for _, form := range []byte{1, 3} {
			plain := sealed(form, "\x02\x00\x09\x00"+string([]byte{byte(kind)})+"\x00\x00\x00\x00")
			open := sealed(form, "\x02\x00\x09\x00"+string([]byte{byte(kind)})+"\xff\xff\xff\xff\xff\xff\x03\x00\x00\x00\x00\x00")
			within := sealed(1, "\x02\x00\x03\x00\x05\x11\x00\x00\x00\xff\xff\x01\x00\x09\x00\x00\x00\x02\x00\x09\x00"+string([]byte{byte(kind)})+"\x00\x00\x00\x00")
			wantAnswer(t, kind, wantAsPlain(t, kind, plain), kind >= 1 && kind <= 4 || kind == 5 && form == 1)
			wantAnswer(t, kind, wantAsPlain(t, kind, open), kind == 5 && form == 3)
			wantAnswer(t, kind, wantAsPlain(t, kind, within), kind >= 1 && kind <= 5)
		}
	}
	wantRead(t, "any kind where it is told", sealed(1, "\x02\x00\x09\x00\x03\x00\x00\x00\x00"), wholesAt(2, 9))
	wantRead(t, "the dictionary's where it is not", sealed(0, "\x02\x00\x09\x00\x00\x00\x00\x00"), bytesAt(2, 9, ""))
	wantNoFile(t, "a kind where none is told", 0, "\x02\x00\x09\x00\x02\x00\x00\x00\x00")
	wantNoFile(t, "none where it is told", 1, "\x02\x00\x09\x00\x00\x00\x00\x00")
	// An item has no kind in any form.
	wantNoFile(t, "an item with a kind", 1, "\x02\x00\x03\x00\x05\x09\x00\x00\x00\xff\xff\x01\x00\x06\x00\x00\x00\x00")
}

func TestOrderOfTagsIsAsked(t *testing.T) {
	tags := []string{"\x00\x00\x00\x00", "\x00\x00\x05\x00", "\x00\x00\x00\x05", "\x02\x00\x00\x00", "\x00\x02\x00\x00", "\xfe\xff\x00\x00", "\xff\xff\x00\x00"}
	for i, a := range tags {
		for j, b := range tags {
			pair := a + "\x00\x00\x00\x00" + b + "\x00\x00\x00\x00"
			rises := i < j && j < len(tags)-1
			wantAnswer(t, "at the top", wantAsPlain(t, "at the top", sealed(0, pair)), rises)
			wantAnswer(t, "at the top", wantAsPlain(t, "at the top", sealed(2, pair)), rises)
			told := a + "\x01\x00\x00\x00\x00" + b + "\x02\x00\x00\x00\x00"
			wantAnswer(t, "told", wantAsPlain(t, "told", sealed(1, told)), rises)
			inside := "\x02\x00\x03\x00\x18\x00\x00\x00\xff\xff\x01\x00\x10\x00\x00\x00" + pair
			wantAnswer(t, "in an item", wantAsPlain(t, "in an item", sealed(0, inside)), rises)
			apart := "\x02\x00\x03\x00\x20\x00\x00\x00\xff\xff\x01\x00\x08\x00\x00\x00" + a + "\x00\x00\x00\x00\xff\xff\x01\x00\x08\x00\x00\x00" + b + "\x00\x00\x00\x00"
			wantAnswer(t, "in two items", wantAsPlain(t, "in two items", sealed(0, apart)), i < len(tags)-1 && j < len(tags)-1)
		}
	}
}

func TestLimitsAreAskedOfFiles(t *testing.T) {
	texts := []impl.Elem{}
	for k := range int64(2001) {
		texts = append(texts, textAt(2, 5*k, "")...)
	}
	items := seqAt(2, 3, slices.Repeat([][]impl.Elem{itemOf()}, 2000)...)
	fewer := seqAt(2, 3, slices.Repeat([][]impl.Elem{itemOf()}, 1999)...)
	long := strings.Repeat("x", 4097)
	nums := make([]int64, 4097)
	for form := int64(0); form <= 3; form++ {
		met := [][]impl.Elem{texts[:2000], fewer, nestOf(8), nestOf(7), textAt(0, 0, long[:4096]), bytesAt(1, 0, long[:4096]), wholesAt(0, 1, nums[:4096]...), realsAt(0, 2, nums[:4096]...), textAt(65534, 65535, "")}
		passed := [][]impl.Elem{texts, items, nestOf(9), nestOf(10), nestOf(11), nestOf(40), textAt(0, 0, long), bytesAt(1, 0, long), wholesAt(0, 1, nums...), realsAt(0, 2, nums...), itemsAround(textAt(0, 0, long)...)}
		for k, list := range met {
			wantRead(t, []int64{form, int64(k)}, sealed(byte(form), plainBody(list, form)), list)
		}
		for k, list := range passed {
			wantNoFile(t, []int64{form, int64(k)}, byte(form), plainBody(list, form))
		}
		if form%2 == 1 {
			wantNoFile(t, "a group of marks", byte(form), plainBody(textAt(65535, 0, "a"), form))
			wantNoFile(t, "a group of marks", byte(form), plainBody(itemsAround(textAt(65535, 5, "a")...), form))
			wantNoFile(t, "a sequence of marks", byte(form), plainBody(seqAt(65535, 1, itemOf()), form))
		}
	}
}

// TestVeryDeepFiles are as deep as a file may be long.
func TestVeryDeepFiles(t *testing.T) {
	for _, pair := range []string{"\x02\x00\x03\x00\xff\xff\xff\xff\xff\xff\x01\x00\xff\xff\xff\xff", "\x02\x00\x03\x00\x05\xff\xff\xff\xff\xff\xff\x01\x00\xff\xff\xff\xff"} {
		for form := byte(0); form <= 3; form++ {
			body := strings.Repeat(pair, 1048567/len(pair))
			wantSoon(t, "a deep file", func() { wantFault(t, form, sealed(form, body), impl.FileForm, 0) })
		}
	}
	for form := byte(0); form <= 3; form++ {
		for _, part := range []string{"\x00", "\xff", "\x02\x00\x03\x00\x00\x00\x00\x00", "\xff\xff\x01\x00\x00\x00\x00\x00", "\xff\xff\x03\x00\x00\x00\x00\x00", "\x02\x00\x03\x00\x05\x00\x00\x00\x00"} {
			body := strings.Repeat(part, 1048567/len(part))
			wantSoon(t, "a long file", func() { wantFault(t, form, sealed(form, body), impl.FileForm, 0) })
		}
	}
}

// TestFilesOfPieces puts pieces of files together as they come.
func TestFilesOfPieces(t *testing.T) {
	m := mixer(213)
	pieces := []string{"\x00\x00\x00\x00", "\x02\x00\x03\x00", "\x02\x00\x03\x00\x05", "\x02\x00\x05\x00\x01", "\x02\x00\x06\x00", "\x03\x00\x00\x00\x02", "\xff\xff\x01\x00", "\xff\xff\x02\x00\x00\x00\x00\x00", "\xff\xff\x03\x00\x00\x00\x00\x00", "\xff\xff\xff\xff", "\x00\x00\x00\x00", "\x08\x00\x00\x00", "\x04\x00\x00\x00", "\x10\x00\x00\x00", "\x09\x00\x00\x00", "abcd", "\xff\xff\x01\x00\xff\xff\xff\xff\xff\xff\x02\x00\x00\x00\x00\x00", "\xff\xff\x01\x00\x00\x00\x00\x00"}
	taken := 0
	for range 200000 {
		body := ""
		for range m.pick(0, 7) {
			body += pieces[m.pick(0, int64(len(pieces)-1))]
		}
		file := sealed(byte(m.pick(0, 3)), body)
		taken += int(oneIf(wantAsPlain(t, body, file) && body != ""))
	}
	if taken < 1000 {
		t.Error("hardly any is taken", taken)
	}
}

// TestFilesOfOtherForms reads the bytes of one form as those of another.
func TestFilesOfOtherForms(t *testing.T) {
	m := mixer(214)
	for k := range 300 {
		list := m.tree(m.pick(0, 4), 8, k%3 > 0)
		for form := int64(0); form <= 3; form++ {
			for other := byte(0); other <= 3; other++ {
				body := []byte(plainBody(list, form))
				wantAsPlain(t, briefElems(list), sealed(other, string(body)))
				if len(body) > 0 { // and with some bytes turned, left out or doubled
					at := m.pick(0, int64(len(body)-1))
					body[at] ^= 1 << m.pick(0, 7)
					wantAsPlain(t, briefElems(list), sealed(other, string(body)))
					wantAsPlain(t, briefElems(list), sealed(other, string(slices.Delete(slices.Clone(body), int(at), int(at)+1))))
					wantAsPlain(t, briefElems(list), sealed(other, string(slices.Insert(slices.Clone(body), int(at), body[at]))))
				}
			}
		}
	}
}

func TestNumbersComeBack(t *testing.T) {
	for _, n := range []int64{0, 1, -1, 127, 128, 255, 256, -128, -129, -256, 32767, 32768, -32768, 65535, 65536, 1<<31 - 1, -1 << 31, -1<<31 + 1, 1<<24 + 5, -1 << 24} {
		for form := int64(0); form <= 3; form++ {
			wantRead(t, n, impl.WriteFile(wholesAt(2, 1, n, 7, n), form), wholesAt(2, 1, n, 7, n))
		}
	}
	for k := range 63 {
		for _, n := range []int64{1 << k, -1 << k, 1<<k - 1, -1<<k - 1, mostInt - 1<<k, leastInt + 1<<k} {
			for form := int64(0); form <= 3; form++ {
				wantRead(t, n, impl.WriteFile(realsAt(2, 2, n, 7, n), form), realsAt(2, 2, n, 7, n))
			}
		}
	}
	for other := range 256 {
		text := string([]byte{byte(other), 0, byte(other)})
		for form := int64(0); form <= 3; form++ {
			list := elemsOf(textAt(2, 0, text), bytesAt(2, 4, text))
			wantRead(t, text, impl.WriteFile(list, form), list)
		}
	}
}
