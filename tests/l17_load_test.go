package tests

import (
	"fmt"
	"slices"
	"strings"
	"testing"

	"loop.example/g00050/impl"
)

// packedAs is the text that a codec makes of tones.
func packedAs(codec string, tones ...int64) string {
	b, _ := plainCompress(codec, tones)
	return string(b)
}

// wantListsNotLoaded asks that no file of these elements, in no form that can write them, is a saved image; and that some form can.
func wantListsNotLoaded(t *testing.T, what any, list []impl.Elem) {
	t.Helper()
	written := 0
	for _, form := range everyForm() {
		if b := plainFile(list, form); len(b) > 0 {
			written++
			wantNotLoaded(t, []any{what, "form", form}, b, ldImage)
		}
	}
	if written == 0 {
		t.Errorf("%v: no form writes %s", what, briefElems(list))
	}
}

func TestLoadOfNoFile(t *testing.T) {
	wantNotLoaded(t, "nil", nil, ldFile)
	wantNotLoaded(t, "none", []byte{}, ldFile)
	for _, text := range []string{"x", "LNTH", "LNTH\x00", "LNTH\x00\x00\x00\x00", "lnth\x00\x00\x00\x00\x00", "bad", strings.Repeat("\x00", 50), strings.Repeat("L", 50)} {
		wantNotLoaded(t, text, []byte(text), ldFile)
	}
	good := plainSave(imageOf(2, 1, 3, 900), "amy", 0, "steps")
	wantLoaded(t, "good", good, imageOf(2, 1, 3, 900), "amy")
	body := string(good[5 : len(good)-4])
	for form := byte(4); form < 255; form++ {
		wantNotLoaded(t, form, sealed(form, body), ldFile)
	}
	// Each other fault of ReadFile: too long, another sum, the file of no list.
	wantNotLoaded(t, "long", sealed(0, body+strings.Repeat("x", 1048576)), ldFile)
	wantNotLoaded(t, "sum", slices.Concat(good[:len(good)-4], []byte{1, 2, 3, 4}), ldFile)
	wantNotLoaded(t, "another form", sealed(1, body), ldFile)
	wantNotLoaded(t, "more", sealed(0, body+"x"), ldFile)
	wantNotLoaded(t, "less", sealed(0, body[:len(body)-1]), ldFile)
	wantNotLoaded(t, "a beginning", sealed(0, body[1:]), ldFile)
	wantNotLoaded(t, "twice", sealed(0, body+body), ldFile)
	for _, form := range everyForm() {
		wantNotLoaded(t, "no elements", sealed(byte(form), ""), ldImage)
		wantNotLoaded(t, "no list", impl.WriteFile(nil, form), ldImage)
	}
}

// A saved image's file with one byte turned into another one is not loaded, nor one that is cut or longer.
func TestLoadOfTurnedBytes(t *testing.T) {
	for _, form := range everyForm() {
		good := plainSave(imageOf(3, 1, 1, 2, 258), "al", form, codecNames()[form])
		for at := range good {
			wantNotLoaded(t, at, good[:at], ldFile)
			wantNotLoaded(t, at, good[at+1:], ldFile)
			turnedOne := slices.Clone(good)
			for b := range 256 {
				if turnedOne[at] = byte(b); turnedOne[at] != good[at] {
					wantNotLoaded(t, []any{form, at, b}, turnedOne, ldFile)
				}
			}
		}
		for b := range 256 {
			wantNotLoaded(t, []any{form, b}, append(slices.Clone(good), byte(b)), ldFile)
		}
	}
	big := plainSave(mixedTones(), strings.Repeat("n", 4096), 3, "rice")
	for at := 0; at < len(big); at += 7 {
		turnedOne := slices.Clone(big)
		turnedOne[at] ^= byte(1 + at%255)
		wantNotLoaded(t, at, turnedOne, ldFile)
	}
}

func mixedTones() impl.Image {
	m := mixer(302)
	return m.tonesImage(40, 40, 400)
}

// One byte turned and the sum made anew: what is then loaded, if it is, has just these bytes.
func TestLoadOfTurnedBytesSealed(t *testing.T) {
	loaded := 0
	for _, form := range everyForm() {
		for _, codec := range codecNames() {
			good := plainSave(imageOf(2, 2, 5, 5, 7, 300), "al", form, codec)
			body := good[5 : len(good)-4]
			for at := range body {
				for b := range 256 {
					turnedOne := slices.Clone(body)
					turnedOne[at] = byte(b)
					file := sealed(byte(form), string(turnedOne))
					im, name, code := load(t, []any{form, codec, at, b}, file)
					if code == 0 && len(impl.SaveImage(im, name, form, codec)) > 0 {
						loaded++
					}
				}
			}
		}
	}
	if loaded < 1000 {
		t.Error("too few are loaded", loaded)
	}
}

func TestLoadOfOtherCounts(t *testing.T) {
	whole := savedList(2, 1, "amy", "plain", packedAs("plain", 3, 900))
	for count := range whole {
		wantListsNotLoaded(t, count, whole[:count])
		wantListsNotLoaded(t, count, whole[count+1:])
		wantListsNotLoaded(t, []any{"without", count}, slices.Delete(slices.Clone(whole), count, count+1))
	}
	// One too many: at each place where its tag may stand, of each kind.
	for _, tag := range [][2]int64{{0, 0}, {15, 5}, {16, 1}, {16, 5}, {17, 0}, {39, 1}, {40, 0}, {40, 2}, {40, 4}, {40, 6}, {40, 8}, {40, 10}, {41, 0}, {65534, 65535}} {
		for _, more := range [][]impl.Elem{textAt(tag[0], tag[1], ""), bytesAt(tag[0], tag[1], "x"), wholesAt(tag[0], tag[1], 2, 1), wholesAt(tag[0], tag[1]), realsAt(tag[0], tag[1], 0), seqAt(tag[0], tag[1]), seqAt(tag[0], tag[1], itemOf(whole))} {
			wantListsNotLoaded(t, more[0], inTagOrder(append(slices.Clone(whole), more...)))
		}
	}
	// What stands in a sequence is no image.
	wantListsNotLoaded(t, "inside", seqAt(40, 3, itemOf(whole)))
	wantListsNotLoaded(t, "four in all", elemsOf(textAt(16, 0, "amy"), wholesAt(40, 1, 2, 1), seqAt(40, 3, itemOf())))
}

// inTagOrder sorts elements at the top by their tags; what stands in the last of them stays behind it.
func inTagOrder(list []impl.Elem) []impl.Elem {
	var parts [][]impl.Elem
	for len(list) > 0 {
		parts = append(parts, list[:1+list[0].Size])
		list = list[1+list[0].Size:]
	}
	slices.SortFunc(parts, func(a, b []impl.Elem) int {
		return int(65536*(a[0].Group-b[0].Group) + a[0].Num - b[0].Num)
	})
	return elemsOf(parts...)
}

func TestLoadOfOtherTags(t *testing.T) {
	whole := savedList(2, 1, "amy", "plain", packedAs("plain", 3, 900))
	for place := range whole {
		for _, tag := range [][2]int64{{0, 0}, {8, 0}, {14, 0}, {15, 0}, {16, 0}, {16, 1}, {16, 5}, {17, 0}, {18, 0}, {38, 1}, {38, 9}, {39, 9}, {40, 0}, {40, 1}, {40, 2}, {40, 4}, {40, 5}, {40, 6}, {40, 8}, {40, 9}, {40, 10}, {40, 11}, {40, 14}, {40, 265}, {41, 9}, {42, 0}, {42, 9}, {296, 9}, {65534, 65535}} {
			list := slices.Clone(whole)
			if list[place].Group == tag[0] && list[place].Num == tag[1] {
				continue
			}
			list[place].Group, list[place].Num = tag[0], tag[1]
			if plainRight(list) { // the others are of no file, and asked for below
				wantListsNotLoaded(t, []any{place, tag}, list)
			}
		}
	}
	// The same elements in another order, by their tags or not.
	body := func(list []impl.Elem) string { return plainBody(list, 0) }
	for one := range 4 {
		for other := range one {
			list := slices.Clone(whole)
			list[one], list[other] = list[other], list[one]
			wantNotLoaded(t, []any{one, other}, sealed(0, body(list)), ldFile)
			list[one].Group, list[one].Num, list[other].Group, list[other].Num = list[other].Group, list[other].Num, list[one].Group, list[one].Num
			wantListsNotLoaded(t, []any{one, other}, list)
		}
	}
}

func TestLoadOfOtherKinds(t *testing.T) {
	whole := savedList(2, 1, "amy", "plain", packedAs("plain", 3, 900))
	for place, e := range whole {
		for kind := int64(1); kind <= 5; kind++ {
			list := slices.Clone(whole)
			list[place].Kind = kind
			if kind == e.Kind {
				continue
			}
			if !plainRight(list) {
				list[place].Text, list[place].Nums = "", nil
			}
			if kind == impl.ElWhole || kind == impl.ElReal {
				list[place].Nums = []int64{2, 1}
			}
			wantListsNotLoaded(t, []any{place, kind}, list)
		}
	}
	// The two texts and the bytes as one another's kind, with their values.
	for _, place := range []int{0, 2, 3} {
		list := slices.Clone(whole)
		list[place].Kind = 3 - list[place].Kind
		wantListsNotLoaded(t, place, list)
	}
	real := slices.Clone(whole)
	real[1] = realsAt(40, 1, 2, 1)[0]
	wantListsNotLoaded(t, "floats", real)
}

func TestLoadOfOtherSides(t *testing.T) {
	pixels := packedAs("runs", make([]int64, 64)...)
	for _, nums := range [][]int64{{}, {64}, {8}, {8, 8, 0}, {8, 8, 8}, {4, 4, 4}, {0, 8, 8}, {1, 8, 8}, {64, 1, 1}, {0, 0}, {0, 64}, {64, 0}, {-8, -8}, {-1, -64}, {8, -8}, {8, 7}, {7, 8}, {9, 8}, {8, 9}, {16, 8}, {1, 1}, {65, 1}, {1, 65}, {128, 1}, {2147483647, 2147483647}, {-2147483648, -2147483648}, {65536, 65536}, {2147483647, 1}, {8, 8 + 65536}} {
		list := savedList(0, 0, "amy", "runs", pixels)
		list[1].Nums = nums
		wantListsNotLoaded(t, nums, list)
	}
	for _, size := range [][2]int64{{8, 8}, {64, 1}, {1, 64}, {2, 32}, {16, 4}} {
		for _, form := range everyForm() {
			b := plainFile(savedList(size[0], size[1], "amy", "runs", pixels), form)
			wantLoaded(t, size, b, imageOf(size[0], size[1], make([]int64, 64)...), "amy")
		}
	}
	// No pixel fits no side; 65 and 128 columns fit no image.
	for _, size := range [][2]int64{{0, 0}, {0, 5}, {5, 0}, {65, 1}, {1, 65}, {128, 32}, {32, 128}, {65, 64}} {
		for _, codec := range codecNames() {
			if packed := packedAs(codec, make([]int64, size[0]*size[1])...); len(packed) <= 4096 {
				wantListsNotLoaded(t, []any{size, codec}, savedList(size[0], size[1], "amy", codec, packed))
			}
		}
	}
}

func TestLoadOfOtherCodecs(t *testing.T) {
	tones := []int64{5, 5, 7, 300}
	for _, codec := range noCodecs() {
		for _, packing := range codecNames() {
			wantListsNotLoaded(t, codec, savedList(2, 2, "amy", codec, packedAs(packing, tones...)))
		}
	}
	for _, codec := range codecNames() {
		packed := packedAs(codec, tones...)
		for _, other := range codecNames() {
			if other != codec {
				wantListsNotLoaded(t, []any{codec, other}, savedList(2, 2, "amy", other, packed))
			}
		}
		wantListsNotLoaded(t, codec, savedList(2, 2, "amy", codec, ""))
		wantListsNotLoaded(t, codec, savedList(2, 2, "amy", codec, packed+"\x00"))
		wantListsNotLoaded(t, codec, savedList(2, 2, "amy", codec, packed[:len(packed)-1]))
		wantListsNotLoaded(t, codec, savedList(2, 2, "amy", codec, packed[1:]))
		wantListsNotLoaded(t, codec, savedList(2, 2, "amy", codec, "\x84\x00"+packed[1:]))
		wantListsNotLoaded(t, codec, savedList(2, 2, "amy", codec, packedAs(codec, 5, 5, 7)))
		wantListsNotLoaded(t, codec, savedList(2, 2, "amy", codec, packedAs(codec, 5, 5, 7, 300, 1)))
		wantListsNotLoaded(t, codec, savedList(2, 2, "amy", codec, strings.Repeat("\xff", 4096)))
		wantListsNotLoaded(t, codec, savedList(2, 2, "amy", codec, packedAs(codec)))
	}
	// Bytes that mean these tones, but that no codec makes of them: another k, a run in two, a tone too great, a step out of range.
	for _, packed := range []string{"\x04\x00" + string(riceBody(tones, 0)[1:]), "\x04" + string(riceBody(tones, 9))} {
		wantListsNotLoaded(t, "rice", savedList(2, 2, "amy", "rice", packed))
	}
	wantListsNotLoaded(t, "runs", savedList(2, 2, "amy", "runs", "\x04\x01\x05\x01\x05\x01\x07\x01\xac\x02"))
	wantListsNotLoaded(t, "runs", savedList(2, 2, "amy", "runs", "\x04\x04\x80\x80\x04"))
	wantListsNotLoaded(t, "steps", savedList(2, 2, "amy", "steps", "\x04\x01\x00\x00\x00"))
	wantListsNotLoaded(t, "steps", savedList(2, 2, "amy", "steps", "\x04\x80\x80\x08\x00\x00\x00"))
}

// Files that no form makes of these elements.
func TestLoadOfFilesOfNoForm(t *testing.T) {
	list := savedList(2, 1, "amy", "plain", packedAs("plain", 3, 900))
	for _, form := range everyForm() {
		for _, other := range everyForm() {
			b := sealed(byte(form), plainBody(list, other))
			if form%2 == other%2 {
				wantLoaded(t, []any{form, other}, b, imageOf(2, 1, 3, 900), "amy")
			} else {
				wantNotLoaded(t, []any{form, other}, b, ldFile)
			}
		}
	}
	sides := "\x28\x00\x01\x00\x08\x00\x00\x00\x02\x00\x00\x00\x01\x00\x00\x00"
	body := plainBody(list, 0)
	for _, wrong := range []string{
		strings.Replace(body, sides, "\x28\x00\x01\x00\x09\x00\x00\x00\x02\x00\x00\x00\x01\x00\x00\x00\x00", 1),
		strings.Replace(body, sides, "\x28\x00\x01\x00\x07\x00\x00\x00\x02\x00\x00\x00\x01\x00\x00", 1),
		strings.Replace(body, sides, sides+sides, 1),
		strings.Replace(body, "\x10\x00\x00\x00\x03", "\xff\xff\x00\x00\x03", 1),
		strings.Replace(body, "\x03\x00\x00\x00amy", "\xff\xff\xff\xffamy", 1),
		strings.Replace(body, "\x03\x00\x00\x00amy", "\x03\x00\x00\x80amy", 1),
		body + "\xff\xff\x03\x00\x00\x00\x00\x00",
		body + "\xff\xff\x01\x00\x00\x00\x00\x00",
	} {
		if wrong == body {
			t.Fatal("nothing is wrong")
		}
		wantNotLoaded(t, fmt.Sprintf("%x", wrong), sealed(0, wrong), ldFile)
		wantNotLoaded(t, fmt.Sprintf("%x", wrong), sealed(2, wrong), ldFile)
	}
	told := plainBody(list, 1)
	wantNotLoaded(t, "a kind that is none", sealed(1, strings.Replace(told, "\x28\x00\x05\x00\x01", "\x28\x00\x05\x00\x07", 1)), ldFile)
	wantNotLoaded(t, "a kind that is none", sealed(3, strings.Replace(told, "\x28\x00\x05\x00\x01", "\x28\x00\x05\x00\x00", 1)), ldFile)
	wantNotLoaded(t, "another kind", sealed(3, strings.Replace(told, "\x28\x00\x05\x00\x01", "\x28\x00\x05\x00\x02", 1)), ldImage)
	// A value that is too long for any list.
	for _, length := range []int{4096, 4097} {
		for place := range 2 {
			texts := []string{"amy", packedAs("plain", 3, 900)}
			texts[place] = strings.Repeat("n", length)
			long := savedList(2, 1, texts[0], "plain", texts[1])
			switch {
			case length > 4096:
				wantNotLoaded(t, place, sealed(0, plainBody(long, 0)), ldFile)
			case place == 0:
				wantLoaded(t, place, sealed(0, plainBody(long, 0)), imageOf(2, 1, 3, 900), texts[0])
			default:
				wantListsNotLoaded(t, place, long)
			}
		}
	}
}

// Files with more in them than an image, and thrown ones.
func TestLoadOfOtherFiles(t *testing.T) {
	for _, form := range everyForm() {
		wantNotLoaded(t, "rich", plainFile(richList(), form), ldImage)
		wantNotLoaded(t, "deep", plainFile(nestOf(8), form), ldImage)
	}
	m := mixer(303)
	for range 400 {
		list := m.tree(m.pick(0, 6), 6, m.pick(0, 1) == 0)
		if b := plainFile(list, m.pick(0, 3)); len(b) > 0 {
			wantNotLoaded(t, briefElems(list), b, ldImage)
		}
		load(t, "thrown", m.someBytes(int(m.pick(0, 60))))
	}
}

// Two saved images of one name, made anonymous together: one alias in both, and both are loaded under it.
func TestLoadOfAnonymousImages(t *testing.T) {
	m := mixer(304)
	for _, form := range everyForm() {
		for _, codec := range codecNames() {
			one, other, third := m.tonesImage(5, 4, 900), m.tonesImage(3, 7, 65535), m.tonesImage(2, 2, 9)
			var files [][]impl.Elem
			for _, b := range [][]byte{save(t, 1, one, "amy", form, codec), save(t, 2, third, "bob", form, codec), save(t, 3, other, "amy", form, codec)} {
				list, fault := impl.ReadFile(b)
				if fault != (impl.FileFault{}) {
					t.Fatal(fault)
				}
				files = append(files, list)
			}
			for _, coins := range [][]int64{nil, {0}, {1}, {7, 3}} {
				nobody, who := impl.Anonymous(files, coins)
				if len(nobody) != 3 || len(who) != 2 {
					t.Fatal(len(nobody), who)
				}
				amy := fmt.Sprintf("A%d", slices.Index(who, "amy")+1)
				bob := fmt.Sprintf("A%d", slices.Index(who, "bob")+1)
				for _, again := range everyForm() {
					wantLoaded(t, "one", impl.WriteFile(nobody[0], again), one, amy)
					wantLoaded(t, "third", impl.WriteFile(nobody[1], again), third, bob)
					wantLoaded(t, "other", impl.WriteFile(nobody[2], again), other, amy)
				}
				wantFile(t, "saved under the alias", impl.WriteFile(nobody[0], form), save(t, "alias", one, amy, form, codec))
			}
		}
	}
}
