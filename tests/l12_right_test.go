package tests

import (
	"slices"
	"strings"
	"testing"

	"loop.example/g00050/impl"
)

func TestRightElements(t *testing.T) {
	wantRight(t, "no list", nil, true)
	wantRight(t, "an empty list", []impl.Elem{}, true)
	wantRight(t, "each kind", richList(), true)
	for kind := int64(-1); kind <= 8; kind++ {
		wantRight(t, kind, []impl.Elem{{Group: 2, Kind: kind}}, kind >= 1 && kind <= 5)
		wantRight(t, kind, itemsAround(impl.Elem{Group: 2, Kind: kind}), kind >= 1 && kind <= 5)
		wantRight(t, kind, holderOf(impl.Elem{Group: 2, Kind: impl.ElSeq}, [][]impl.Elem{{{Kind: kind}}}), kind == 6)
	}
	for _, kind := range []int64{leastInt, leastInt + 1, -1 << 32, 1<<32 + 1, 1<<8 + 1, mostInt} {
		wantRight(t, kind, []impl.Elem{{Group: 2, Kind: kind}}, false)
	}
}

// itemsAround has a sequence with one item, which holds just these.
func itemsAround(inside ...impl.Elem) []impl.Elem { return seqAt(2, 3, itemOf(inside)) }

func TestTagsHaveTheirLimits(t *testing.T) {
	for _, group := range append(edges(0, 65534), 65536, 1<<16+1, -65536) {
		wantRight(t, group, textAt(group, 0, ""), liesFrom(group, 0, 65534))
		wantRight(t, group, itemsAround(textAt(group, 65535, "")...), liesFrom(group, 0, 65534))
		wantRight(t, group, seqAt(group, 1), liesFrom(group, 0, 65534))
		wantRight(t, group, elemsOf(textAt(0, 0, ""), textAt(group, 1, "")), liesFrom(group, 0, 65534))
	}
	for _, num := range append(edges(0, 65535), 65537, -65536) {
		wantRight(t, num, textAt(0, num, ""), liesFrom(num, 0, 65535))
		wantRight(t, num, textAt(65534, num, ""), liesFrom(num, 0, 65535))
		wantRight(t, num, textAt(65535, num, ""), false)
		wantRight(t, num, itemsAround(textAt(1, num, "")...), liesFrom(num, 0, 65535))
	}
}

func TestValuesAreOfTheirKind(t *testing.T) {
	for kind := int64(1); kind <= 6; kind++ {
		hasText, hasNums := kind == 1 || kind == 2, kind == 3 || kind == 4
		place := func(e impl.Elem) []impl.Elem {
			e.Kind = kind
			if kind == impl.ElItem {
				return holderOf(impl.Elem{Group: 2, Kind: impl.ElSeq}, [][]impl.Elem{{e}})
			}
			e.Group = 2
			return []impl.Elem{e}
		}
		wantRight(t, kind, place(impl.Elem{}), true)
		wantRight(t, kind, place(impl.Elem{Nums: []int64{}}), true)
		for _, text := range []string{"x", "\x00", strings.Repeat("y", 4096)} {
			wantRight(t, kind, place(impl.Elem{Text: text}), hasText)
		}
		for _, nums := range [][]int64{{0}, {1, 2}, make([]int64, 4096)} {
			wantRight(t, kind, place(impl.Elem{Nums: nums}), hasNums)
		}
		wantRight(t, kind, place(impl.Elem{Text: "x", Nums: []int64{0}}), false)
		wantRight(t, kind, place(impl.Elem{Text: strings.Repeat("y", 4097)}), false)
		wantRight(t, kind, place(impl.Elem{Nums: make([]int64, 4097)}), false)
		for _, size := range []int64{1, -1, 2, leastInt, mostInt} {
			wantRight(t, size, place(impl.Elem{Size: size}), false)
			wantRight(t, size, append(place(impl.Elem{Size: size}), textAt(9, 9, "")...), false)
		}
	}
}

func TestNumbersHaveTheirBits(t *testing.T) {
	for _, n := range append(edges(-2147483648, 2147483647), 1<<31, -1<<31, 1<<31-1, -1<<31-1, 1<<33, -1<<62) {
		in32 := liesFrom(n, -2147483648, 2147483647)
		wantRight(t, n, wholesAt(2, 1, n), in32)
		wantRight(t, n, wholesAt(2, 1, 0, 1, n), in32)
		wantRight(t, n, wholesAt(2, 1, n, 1, 0), in32)
		wantRight(t, n, realsAt(2, 2, n), true)
		wantRight(t, n, realsAt(2, 2, n, leastInt, mostInt), true)
		wantRight(t, n, itemsAround(wholesAt(2, 1, n)...), in32)
	}
}

func TestTagsRise(t *testing.T) {
	tags := [][2]int64{{0, 0}, {0, 1}, {0, 65535}, {1, 0}, {1, 1}, {2, 0}, {65534, 0}, {65534, 65535}}
	for i, a := range tags {
		for j, b := range tags {
			pair := elemsOf(textAt(a[0], a[1], "a"), bytesAt(b[0], b[1], "b"))
			wantRight(t, "at the top", pair, i < j)
			wantRight(t, "within an item", itemsAround(pair...), i < j)
			wantRight(t, "behind a sequence", elemsOf(seqAt(a[0], a[1], itemOf(textAt(9, 9, ""))), bytesAt(b[0], b[1], "b")), i < j)
			wantRight(t, "anew in each item", seqAt(2, 3, itemOf(textAt(a[0], a[1], "a")), itemOf(textAt(b[0], b[1], "b"))), true)
			wantRight(t, "anew within", elemsOf(textAt(0, 0, ""), seqAt(65534, 3, itemOf(textAt(a[0], a[1], ""), seqAt(65534, 65535, itemOf(textAt(b[0], b[1], "")))))), i < len(tags)-1)
			for k, c := range tags {
				wantRight(t, "three", append(slices.Clone(pair), textAt(c[0], c[1], "c")...), i < j && j < k)
			}
		}
	}
	// What stands in a sequence doesn't count for what is behind it.
	wantRight(t, "behind", elemsOf(seqAt(2, 3, itemOf(textAt(8, 0, ""))), textAt(4, 0, "")), true)
	wantRight(t, "behind", elemsOf(seqAt(2, 3, itemOf()), textAt(2, 3, "")), false)
}

func TestItemsStandInSequences(t *testing.T) {
	wantRight(t, "an item at the top", itemOf(), false)
	wantRight(t, "an item at the top", itemOf(textAt(2, 0, "")), false)
	wantRight(t, "an item behind", elemsOf(textAt(2, 0, ""), itemOf()), false)
	wantRight(t, "an item in an item", seqAt(2, 3, itemOf(itemOf())), false)
	wantRight(t, "a text in a sequence", seqAt(2, 3, textAt(2, 4, "")), false)
	wantRight(t, "a text behind an item", seqAt(2, 3, itemOf(), textAt(2, 4, "")), false)
	wantRight(t, "a text ahead of an item", seqAt(2, 3, textAt(2, 4, ""), itemOf()), false)
	wantRight(t, "a sequence in a sequence", seqAt(2, 3, seqAt(2, 4)), false)
	wantRight(t, "nothing in a sequence", seqAt(2, 3), true)
	wantRight(t, "nothing in an item", seqAt(2, 3, itemOf()), true)
	wantRight(t, "nothing in items", seqAt(2, 3, itemOf(), itemOf(), itemOf()), true)
	for _, tag := range [][2]int64{{1, 0}, {0, 1}, {65535, 1}, {-1, 0}, {0, -1}, {65534, 65535}, {mostInt, leastInt}} {
		item := itemOf(textAt(2, 0, ""))
		item[0].Group, item[0].Num = tag[0], tag[1]
		wantRight(t, tag, seqAt(2, 3, item), false)
		wantRight(t, tag, seqAt(2, 3, itemOf(), item), false)
	}
}

func TestSizesAreJustSo(t *testing.T) {
	list := richList()
	for place := range list {
		for _, size := range []int64{leastInt, leastInt + 1, -1 << 32, -2, -1, 0, 1, 2, 3, 4, 5, 6, 7, 8, 9, 10, 11, 12, 13, 14, 15, 16, 17, 18, 19, 20, 1 << 32, 1 << 62, mostInt - 1, mostInt} {
			other := slices.Clone(list)
			other[place].Size = size
			wantRight(t, []int64{int64(place), size}, other, plainRight(other))
			if size != list[place].Size && list[place].Kind != impl.ElItem && impl.ElemsOk(other) {
				t.Error("another Size is right", place, size)
			}
		}
	}
	for _, size := range []int64{-1, 0, 1, 2, 3, 4, 5, leastInt, mostInt} {
		seq := elemsOf(seqAt(2, 3, itemOf(textAt(2, 0, "")), itemOf()), textAt(2, 4, ""))
		seq[0].Size = size
		wantRight(t, size, seq, size == 3)
		item := elemsOf(seqAt(2, 3, itemOf(textAt(2, 0, "")), itemOf()), textAt(2, 4, ""))
		item[1].Size = size
		wantRight(t, size, item, size == 1)
		last := elemsOf(seqAt(2, 3, itemOf(textAt(2, 0, "")), itemOf()), textAt(2, 4, ""))
		last[3].Size = size
		wantRight(t, size, last, size == 0)
	}
	wantRight(t, "an item past its sequence", []impl.Elem{{Group: 2, Kind: 5, Size: 1}, {Kind: 6, Size: 1}, {Group: 3, Kind: 1}}, false)
	wantRight(t, "past the end", []impl.Elem{{Group: 2, Kind: 5, Size: 2}, {Kind: 6}}, false)
}

func TestElementsAreFewEnough(t *testing.T) {
	texts := func(n int) []impl.Elem {
		list := []impl.Elem{}
		for k := range n {
			list = append(list, textAt(int64(k/50), int64(k%50), "")...)
		}
		return list
	}
	items := func(n int) []impl.Elem { return seqAt(2, 3, slices.Repeat([][]impl.Elem{itemOf()}, n)...) }
	for _, n := range []int{1999, 2000, 2001, 2002} {
		wantRight(t, n, texts(n), n <= 2000)
		wantRight(t, n, items(n-1), n <= 2000)
		wantRight(t, n, itemsAround(texts(n-2)...), n <= 2000)
		wantRight(t, n, elemsOf(itemsAround(texts(n-3)...), textAt(4, 0, "")), n <= 2000)
	}
}

func TestElementsAreFlatEnough(t *testing.T) {
	for deep := int64(1); deep <= 12; deep++ {
		list := nestOf(deep)
		wantNumber(t, "deep", int64(len(list)), deep)
		wantRight(t, deep, list, deep <= 8)
		// As deep, behind and within others.
		wantRight(t, deep, elemsOf(textAt(0, 0, ""), list, textAt(3, 0, "")), deep <= 8)
		wantRight(t, deep, elemsOf(list, seqAt(4, 3, itemOf(list))), deep <= 6)
	}
	for deep := int64(1); deep <= 10; deep += 2 {
		list := nestOf(deep)
		list[deep-1] = textAt(2, 0, "x")[0]
		wantRight(t, deep, list, deep <= 8)
	}
	long := nestOf(1999)
	wantRight(t, "very deep", long, false)
}

// TestSmallLists asks about all lists of three elements of few kinds, tags and Sizes.
func TestSmallLists(t *testing.T) {
	var letters []impl.Elem
	for _, kind := range []int64{impl.ElText, impl.ElSeq, impl.ElItem} {
		for _, tag := range [][2]int64{{0, 0}, {0, 1}, {1, 0}} {
			for size := int64(-1); size <= 3; size++ {
				letters = append(letters, impl.Elem{Group: tag[0], Num: tag[1], Kind: kind, Size: size})
			}
		}
	}
	right := 0
	for _, a := range letters {
		for _, b := range letters {
			for _, c := range letters {
				list := []impl.Elem{a, b, c}
				for n := range 4 {
					if got, want := impl.ElemsOk(list[:n]), plainRight(list[:n]); got != want {
						t.Fatalf("%v for %+v", got, list[:n])
					}
				}
				right += int(oneIf(impl.ElemsOk(list)))
			}
		}
	}
	// Three at the top by 8 pairs of kinds each way, or a sequence with what stands in it, counted by hand:
	// 8 of none within; 2 * 2 * 3 of a sequence with an empty item ahead of or behind another one;
	// 3 of two empty items in a sequence; 3 * 2 * 3 of an item that holds one.
	if right != 8+12+3+18 {
		t.Error("right lists of three", right)
	}
}

func TestKindsOfTheDictionary(t *testing.T) {
	nums := []int64{leastInt, -65536, -6, -5, -1, 0, 1, 2, 3, 4, 5, 6, 7, 8, 9, 10, 65530, 65531, 65532, 65533, 65534, 65535, 65536, 65537, 1 << 32, mostInt}
	for _, group := range []int64{leastInt, leastInt + 1, -2, -1, 0, 1, 2, 14, 15, 16, 17, 18, 65532, 65533, 65534, 65535, 65536, 65537, 1 << 32, mostInt - 1, mostInt} {
		for _, num := range nums {
			wantNumber(t, []int64{group, num}, impl.KindOf(group, num), plainKind(group, num))
			wantAnswer(t, []int64{group, num}, impl.Identifies(group, num), plainIdentifies(group, num))
		}
	}
	for group := int64(-2); group <= 65540; group++ {
		for _, num := range []int64{0, 1, 7, 65533, 65535} {
			wantNumber(t, []int64{group, num}, impl.KindOf(group, num), plainKind(group, num))
			wantAnswer(t, []int64{group, num}, impl.Identifies(group, num), plainIdentifies(group, num))
		}
	}
	for num := int64(-6); num <= 65542; num++ {
		for _, group := range []int64{0, 15, 16, 65534, 65535} {
			wantNumber(t, []int64{group, num}, impl.KindOf(group, num), plainKind(group, num))
			wantAnswer(t, []int64{group, num}, impl.Identifies(group, num), plainIdentifies(group, num))
		}
	}
	byHand := []struct{ group, num, kind int64 }{{0, 0, 1}, {2, 1, 3}, {2, 2, 4}, {16, 3, 5}, {2, 4, 2}, {2, 5, 1}, {15, 0, 2}, {17, 3, 2}, {65534, 65535, 1}, {65534, 65533, 5}, {65535, 0, 0}, {-1, 0, 0}, {0, -1, 0}, {0, 65536, 0}, {65533, 2, 2}}
	for _, c := range byHand {
		wantNumber(t, c, impl.KindOf(c.group, c.num), c.kind)
	}
	for _, c := range []struct {
		group, num int64
		want       bool
	}{{16, 0, true}, {16, 65535, true}, {16, 65536, false}, {16, -1, false}, {15, 4, true}, {17, 4, true}, {0, 0, false}, {65534, 1, false}, {65533, 1, true}, {65535, 1, false}, {-1, 1, false}, {1, 65536, false}, {1, -1, false}} {
		wantAnswer(t, c, impl.Identifies(c.group, c.num), c.want)
	}
}
