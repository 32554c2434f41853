package tests

import (
	"fmt"
	"slices"
	"strconv"
	"testing"

	"loop.example/g00050/impl"
)

func wantNobody(t *testing.T, what any, files [][]impl.Elem, coins []int64) ([][]impl.Elem, []string) {
	t.Helper()
	out, told := impl.Anonymous(files, coins)
	want, wantTold := plainAnonymous(files, coins)
	if len(out) != len(want) || !slices.EqualFunc(out, want, sameElems) || !slices.Equal(told, wantTold) {
		t.Errorf("%v: %d lists and %.200q, want %d and %.200q", what, len(out), told, len(want), wantTold)
		for k := range min(len(out), len(want)) {
			wantElems(t, k, out[k], want[k])
		}
	}
	return out, told
}

func wantNothing(t *testing.T, what any, files [][]impl.Elem, coins []int64) {
	t.Helper()
	if out, told := wantNobody(t, what, files, coins); len(out) != 0 || len(told) != 0 {
		t.Errorf("%v: %d lists and %.200q, want nothing", what, len(out), told)
	}
}

func wantTold(t *testing.T, what any, files [][]impl.Elem, coins []int64, want ...string) [][]impl.Elem {
	t.Helper()
	out, told := wantNobody(t, what, files, coins)
	if !slices.Equal(told, want) {
		t.Errorf("%v: %q, want %q", what, told, want)
	}
	return out
}

// namesAt is a list with one name a tag.
func namesAt(names ...string) []impl.Elem {
	var list []impl.Elem
	for k, name := range names {
		list = append(list, textAt(16, int64(k), name)...)
	}
	return list
}

func aliasesIn(files [][]impl.Elem) []string {
	var aliases []string
	for _, list := range files {
		for _, e := range list {
			if e.Group == 16 {
				aliases = append(aliases, e.Text)
			}
		}
	}
	return aliases
}

func TestWhatIdentifiesIsLeftOut(t *testing.T) {
	inner := seqAt(18, 3, itemOf(textAt(2, 0, "stays"), textAt(15, 0, "goes"), textAt(16, 0, "amy"), wholesAt(16, 1, 5), textAt(17, 0, "goes")), itemOf(bytesAt(1, 0, "goes")))
	list := elemsOf(
		textAt(2, 0, "stays"),
		seqAt(3, 0, itemOf(textAt(2, 0, "goes with it"), textAt(16, 0, "eve"))),
		wholesAt(14, 1, 7, 8),
		bytesAt(15, 0, "goes"),
		textAt(16, 0, "bob"), bytesAt(16, 1, "goes"), wholesAt(16, 2, 1), realsAt(16, 3, 2), seqAt(16, 4, itemOf(textAt(2, 0, "goes"), textAt(16, 0, "eve"))), seqAt(16, 5), textAt(16, 6, "amy"),
		textAt(17, 0, "goes"), wholesAt(17, 1, 3), realsAt(17, 2, 3), seqAt(17, 3, itemOf()),
		inner,
		realsAt(20, 2, mostInt),
		seqAt(22, 3))
	out := wantTold(t, "all kinds", [][]impl.Elem{list}, []int64{1}, "bob", "amy")
	wantElems(t, "all kinds", out[0], elemsOf(
		textAt(2, 0, "stays"),
		wholesAt(14, 1, 7, 8),
		textAt(16, 0, "A1"), textAt(16, 6, "A2"),
		seqAt(18, 3, itemOf(textAt(2, 0, "stays"), textAt(16, 0, "A2")), itemOf()),
		realsAt(20, 2, mostInt),
		seqAt(22, 3)))
	// All of it may go.
	out = wantTold(t, "none is left", [][]impl.Elem{elemsOf(bytesAt(1, 0, "x"), seqAt(16, 3, itemOf(textAt(16, 0, "eve"))))}, nil)
	if len(out) != 1 || len(out[0]) != 0 {
		t.Error("one list of nothing", out)
	}
	// An element that holds others goes with them as deep as they are.
	deep := seqAt(2, 3, itemOf(seqAt(15, 3, itemOf(seqAt(2, 3, itemOf(textAt(16, 0, "eve"))))), seqAt(18, 3, itemOf(seqAt(2, 3, itemOf(textAt(16, 0, "amy"), bytesAt(17, 0, "x")))))))
	out = wantTold(t, "deep", [][]impl.Elem{deep}, nil, "amy")
	wantElems(t, "deep", out[0], seqAt(2, 3, itemOf(seqAt(18, 3, itemOf(seqAt(2, 3, itemOf(textAt(16, 0, "A1"))))))))
	for group := int64(0); group < 40; group++ {
		for kind := int64(1); kind <= 5; kind++ {
			e := []impl.Elem{{Group: group, Num: 9, Kind: kind}}
			for _, list := range [][]impl.Elem{e, itemsAround(e...), elemsOf(textAt(0, 0, "a"), e, textAt(100, 0, "b")), seqAt(16, 8, itemOf(e))} {
				wantNobody(t, []int64{group, kind}, [][]impl.Elem{list}, nil)
			}
		}
	}
}

func TestOrderOfAliasesByHand(t *testing.T) {
	three := [][]impl.Elem{namesAt("a", "b", "c")}
	// k = 2 changes places 2 and c modulo 3, k = 1 places 1 and c modulo 2.
	orders := map[[2]int64][]string{
		{0, 0}: {"b", "c", "a"}, // c b a, then b c a
		{0, 1}: {"c", "b", "a"},
		{1, 0}: {"c", "a", "b"}, // a c b, then c a b
		{1, 1}: {"a", "c", "b"},
		{2, 0}: {"b", "a", "c"},
		{2, 1}: {"a", "b", "c"},
	}
	for coins, want := range orders {
		out := wantTold(t, coins, three, coins[:], want...)
		for k, name := range []string{"a", "b", "c"} {
			if got := out[0][k].Text; got != "A"+strconv.Itoa(slices.Index(want, name)+1) {
				t.Error(coins, name, got)
			}
		}
		wantTold(t, "as much modulo 6", three, []int64{coins[0] + 6, coins[1] + 600}, want...)
		wantTold(t, "more than are wanted", three, []int64{coins[0], coins[1], 5, 1000000000, 0}, want...)
	}
	wantTold(t, "no coin", three, nil, orders[[2]int64{0, 0}]...)
	wantTold(t, "one coin", three, []int64{1}, orders[[2]int64{1, 0}]...)
	wantTold(t, "the greatest coins", three, []int64{1000000000, 1000000000}, "c", "a", "b")
	wantTold(t, "one name", [][]impl.Elem{namesAt("a")}, []int64{7}, "a")
	wantTold(t, "two names", [][]impl.Elem{namesAt("a", "b")}, []int64{7}, "a", "b")
	wantTold(t, "two names", [][]impl.Elem{namesAt("a", "b")}, []int64{6}, "b", "a")
	wantTold(t, "no name", [][]impl.Elem{textAt(2, 0, "a")}, []int64{6})
}

func TestOneAliasForOneText(t *testing.T) {
	files := [][]impl.Elem{namesAt("amy", "bob", "amy"), namesAt("bob", "", "eve"), nil, itemsAround(namesAt("eve", "amy", "")...)}
	out := wantTold(t, "four lists", files, []int64{3, 2, 1}, "amy", "bob", "", "eve")
	if got := fmt.Sprint(aliasesIn(out)); got != "[A1 A2 A1 A2 A3 A4 A4 A1 A3]" {
		t.Error(got)
	}
	// The empty text is a text, and so is one that looks like an alias.
	wantTold(t, "the empty text", [][]impl.Elem{namesAt("", "A1", "A2")}, []int64{2, 1}, "", "A1", "A2")
	out = wantTold(t, "like aliases", [][]impl.Elem{namesAt("A2", "A1")}, []int64{1}, "A2", "A1")
	if got := fmt.Sprint(aliasesIn(out)); got != "[A1 A2]" {
		t.Error(got)
	}
	// The order in which texts are met is that of the lists, not of the texts.
	wantTold(t, "as they are met", [][]impl.Elem{namesAt("z"), namesAt("y", "z"), namesAt("x")}, []int64{2, 1}, "z", "y", "x")
	// A text that goes with what holds it isn't met.
	gone := seqAt(15, 3, itemOf(namesAt("x")))
	wantTold(t, "gone", [][]impl.Elem{elemsOf(gone, namesAt("z"))}, nil, "z")
	wantTold(t, "gone, then met", [][]impl.Elem{elemsOf(gone, namesAt("z", "x"))}, []int64{1}, "z", "x")
}

func TestManyAliases(t *testing.T) {
	m := mixer(217)
	for _, count := range []int{9, 10, 11, 12, 99, 100, 101, 120} {
		names := make([]string, count)
		for k := range names {
			names[k] = "n" + strconv.Itoa(k*7%count) + "-" + strconv.Itoa(k)
		}
		files := [][]impl.Elem{namesAt(names[:count/2]...), namesAt(names...)}
		for _, coins := range [][]int64{nil, m.list(3, 0, 1000000000), m.list(count-2, 0, 1000), m.list(count-1, 0, 1000000000), m.list(count+5, 0, 1000000000)} {
			out, told := wantNobody(t, count, files, coins)
			wantNumber(t, "told", int64(len(told)), int64(count))
			aliases := aliasesIn(out)
			for k, name := range append(slices.Clone(names[:count/2]), names...) {
				if aliases[k] != "A"+strconv.Itoa(slices.Index(told, name)+1) {
					t.Error(count, name, aliases[k])
				}
			}
		}
	}
	// As many unlike texts as four lists can hold, and as many coins as there may be.
	var files [][]impl.Elem
	for k := range 4 {
		var list []impl.Elem
		for n := range 2000 {
			list = append(list, textAt(16, int64(n), strconv.Itoa(k*2000+n))...)
		}
		files = append(files, list)
	}
	coins := m.list(4096, 0, 1000000000)
	out, told := impl.Anonymous(files, coins)
	want := make([]string, 8000)
	for k := range want {
		want[k] = strconv.Itoa(k)
	}
	want = plainOrder(want, coins)
	if !slices.Equal(told, want) || len(out) != 4 {
		t.Fatal("the most texts")
	}
	for place, text := range want {
		number, _ := strconv.Atoi(text)
		if got := out[number/2000][number%2000].Text; got != "A"+strconv.Itoa(place+1) {
			t.Fatal(text, got)
		}
	}
}

func TestAnonymousHasItsLimits(t *testing.T) {
	list := elemsOf(textAt(2, 0, "x"), namesAt("a", "b"))
	for n := range 8 {
		files := slices.Repeat([][]impl.Elem{list}, n)
		out, told := wantNobody(t, n, files, nil)
		if n > 4 && (len(out) > 0 || len(told) > 0) || n <= 4 && len(out) != n || n > 0 && n <= 4 && len(told) != 2 {
			t.Error(n, len(out), told)
		}
		if n > 4 {
			wantNothing(t, n, make([][]impl.Elem, n), nil)
		}
	}
	wantTold(t, "no list", nil, []int64{1, 2})
	for _, wrong := range wrongLists() {
		wantNothing(t, "alone", [][]impl.Elem{wrong}, nil)
		wantNothing(t, "first", [][]impl.Elem{wrong, list}, nil)
		wantNothing(t, "last", [][]impl.Elem{list, nil, list, wrong}, nil)
	}
	for _, n := range []int{4094, 4095, 4096, 4097, 5000} {
		_, told := wantNobody(t, n, [][]impl.Elem{list}, make([]int64, n))
		wantNumber(t, n, int64(len(told)), 2*oneIf(n <= 4096))
	}
	for _, coin := range append(edges(0, 1000000000), 1<<32, 1<<31) {
		for _, coins := range [][]int64{{coin}, {coin, 1, 1}, {1, coin}, {1, 1, 1, 1, coin}} {
			_, told := wantNobody(t, coins, [][]impl.Elem{list}, coins)
			wantNumber(t, coins, int64(len(told)), 2*oneIf(liesFrom(coin, 0, 1000000000)))
			wantNothingIf(t, !liesFrom(coin, 0, 1000000000), coins)
		}
	}
}

func wantNothingIf(t *testing.T, refused bool, coins []int64) {
	t.Helper()
	if refused {
		wantNothing(t, "no list", nil, coins)
		wantNothing(t, "no name", [][]impl.Elem{textAt(2, 0, "")}, coins)
	}
}

// TestNobodyIsTold is the promise, for lists of all kinds.
func TestNobodyIsTold(t *testing.T) {
	m := mixer(218)
	met := 0
	for k := range 3000 {
		var files [][]impl.Elem
		for range m.pick(0, 4) {
			files = append(files, m.tree(m.pick(0, 6), 8, k%3 == 0))
		}
		out, told := wantNobody(t, k, files, m.list(int(m.pick(0, 5)), 0, 1000000000))
		met += len(told)
		if len(slices.Compact(slices.Sorted(slices.Values(told)))) != len(told) {
			t.Error("a text twice", told)
		}
		for _, list := range out {
			if !impl.ElemsOk(list) {
				t.Error("not right", briefElems(list))
			}
			for _, e := range list {
				if !impl.Identifies(e.Group, e.Num) {
					continue
				}
				number, err := strconv.Atoi(e.Text[1:])
				if e.Kind != impl.ElText || e.Text[0] != 'A' || err != nil || !liesFrom(int64(number), 1, int64(len(told))) {
					t.Errorf("it identifies: %+v", e)
				}
			}
		}
		// Files that are anonymous have aliases that go into one another, and nothing else goes.
		again, _ := impl.Anonymous(out, nil)
		for k, list := range again {
			wantNumber(t, "as many", int64(len(list)), int64(len(out[k])))
		}
	}
	if met < 1000 {
		t.Error("hardly any name", met)
	}
}
