package tests

import (
	"slices"
	"strings"
	"testing"

	"loop.example/g00050/impl"
)

func wantRightGather(t *testing.T, what any, g impl.Gather, want bool) {
	t.Helper()
	was := cloneGather(g)
	if impl.GatherOk(g) != want {
		t.Errorf("%v: %v, want %v: %s", what, !want, want, briefGather(g))
	}
	wantAnswer(t, []any{"the test's own reckoning", what}, plainGatherOk(g), want)
	wantGather(t, "what was handed in", g, was)
	if want {
		return
	}
	// What is not right takes nothing, whatever arrives.
	for _, p := range []impl.Part{part(123456, 0, "new"), lastPart(123456, 0, "whole"), part(7, 0, "one"), lastPart(7, 3, "end"), part(3, 0, ""), {Id: -1}} {
		wantUnmoved(t, g, p)
	}
}

func TestZeroGatherIsRight(t *testing.T) {
	wantRightGather(t, "the zero Gather", impl.Gather{}, true)
	wantRightGather(t, "lists without an element", impl.Gather{Open: []int64{}, Done: []int64{}, Parts: []impl.Part{}}, true)
	wantRightGather(t, "some of everything", richGather(), true)
	wantRightGather(t, "one done", impl.Gather{Done: []int64{5}}, true)
	wantRightGather(t, "one open", gatherOf(nil, part(5, 0, "a")), true)
}

func TestCountsOfAGather(t *testing.T) {
	for _, count := range []int{1, 15, 16, 17, 18, 100} {
		var g impl.Gather
		for _, id := range idsFrom(7, count) {
			g.Open = append(g.Open, id)
			g.Parts = append(g.Parts, part(id, 2, "x"))
		}
		wantRightGather(t, []any{"open", count}, g, count <= 16)
		g.Done = idsFrom(1000, 4096)
		wantRightGather(t, []any{"open", count, "and all done"}, g, count <= 16)
		wantRightGather(t, []any{"open without parts", count}, impl.Gather{Open: g.Open}, false)
	}
	for _, count := range []int{1, 4095, 4096, 4097, 4098, 10000} {
		g := richGather()
		g.Done = idsFrom(5000, count)
		wantRightGather(t, []any{"done", count}, g, count <= 4096)
		slices.Reverse(g.Done)
		wantRightGather(t, []any{"done", count}, g, count <= 4096)
		wantRightGather(t, []any{"done alone", count}, impl.Gather{Done: g.Done}, count <= 4096)
	}
	var g impl.Gather
	for _, id := range idsFrom(7, 16) {
		g.Open = append(g.Open, id)
		for number := range int64(64) {
			g.Parts = append(g.Parts, part(id, number, "0123456789abcdef0123456789abcdef"))
		}
	}
	wantRightGather(t, "as many parts as there may be", g, true)
}

func TestIdsOfAGather(t *testing.T) {
	for _, id := range []int64{leastInt, -1 << 32, -1, 0, 1, 999999, 1000000, 1000001, 1 << 32, 1<<32 + 1, mostInt} {
		right := id >= 0 && id <= 1000000
		wantRightGather(t, []any{"open", id}, gatherOf(nil, part(id, 0, "a")), right)
		wantRightGather(t, []any{"open behind others", id}, gatherOf(nil, part(40, 0, "a"), part(50, 0, "b"), part(id, 0, "c")), right)
		wantRightGather(t, []any{"done", id}, impl.Gather{Done: []int64{id}}, right)
		wantRightGather(t, []any{"done behind others", id}, gatherOf([]int64{40, 41, id}, part(50, 0, "a")), right)
		// A part's Id alone, where the open one is right.
		wantRightGather(t, []any{"parts", id}, impl.Gather{Open: []int64{5}, Parts: []impl.Part{part(id, 0, "a")}}, false)
		wantRightGather(t, []any{"parts", id}, impl.Gather{Open: []int64{5}, Parts: []impl.Part{part(5, 0, "a"), part(id, 1, "a")}}, false)
	}
}

func TestIdsTwiceInAGather(t *testing.T) {
	for _, id := range []int64{0, 5, 1000000} {
		one := part(id, 0, "a")
		wantRightGather(t, "twice open, with its parts once", impl.Gather{Open: []int64{id, id}, Parts: []impl.Part{one}}, false)
		wantRightGather(t, "twice open, with its parts twice", impl.Gather{Open: []int64{id, id}, Parts: []impl.Part{one, one}}, false)
		wantRightGather(t, "twice open, its parts shared out", impl.Gather{Open: []int64{id, id}, Parts: []impl.Part{one, part(id, 1, "b")}}, false)
		wantRightGather(t, "twice open, apart", impl.Gather{Open: []int64{id, 7, id}, Parts: []impl.Part{one, part(7, 0, "c"), part(id, 1, "b")}}, false)
		wantRightGather(t, "twice done", impl.Gather{Done: []int64{id, id}}, false)
		wantRightGather(t, "twice done, apart", impl.Gather{Done: []int64{id, 1, 2, 3, id}}, false)
		wantRightGather(t, "open and done", gatherOf([]int64{id}, one), false)
		wantRightGather(t, "open and done, among others", gatherOf([]int64{8, id, 9}, part(7, 0, "c"), one), false)
	}
	g := gatherOf(idsFrom(100, 4096), part(7, 0, "c"))
	wantRightGather(t, "all unlike", g, true)
	for _, k := range []int{0, 1, 2000, 4094} {
		was := g.Done[k]
		g.Done[k] = g.Done[4095]
		wantRightGather(t, []any{"one twice", k}, g, false)
		g.Done[k] = 7
		wantRightGather(t, []any{"one that is open", k}, g, false)
		g.Done[k] = was
	}
}

func TestPartsOfAGather(t *testing.T) {
	a, b, c := part(5, 0, "a"), part(5, 1, "b"), part(5, 3, "c")
	x, y := part(2, 0, "x"), part(2, 7, "y")
	for _, row := range []struct {
		what  string
		open  []int64
		parts []impl.Part
		right bool
	}{
		{"one after the other", []int64{5, 2}, []impl.Part{a, b, c, x, y}, true},
		{"in the order in which they began", []int64{2, 5}, []impl.Part{x, y, a, b, c}, true},
		{"in another order than they began", []int64{2, 5}, []impl.Part{a, b, c, x, y}, false},
		{"mixed", []int64{5, 2}, []impl.Part{a, x, b, y, c}, false},
		{"mixed at the end", []int64{5, 2}, []impl.Part{a, b, x, y, c}, false},
		{"an open one without parts, at the end", []int64{5, 2}, []impl.Part{a, b, c}, false},
		{"an open one without parts, first", []int64{2, 5}, []impl.Part{a, b, c}, false},
		{"an open one without parts, in the middle", []int64{5, 9, 2}, []impl.Part{a, x}, false},
		{"parts of one that is not open, at the end", []int64{5}, []impl.Part{a, b, x}, false},
		{"parts of one that is not open, first", []int64{2}, []impl.Part{a, x}, false},
		{"parts of none that is open", nil, []impl.Part{a}, false},
		{"Numbers that fall", []int64{5}, []impl.Part{b, a}, false},
		{"Numbers that fall at the end", []int64{5}, []impl.Part{a, c, b}, false},
		{"a Number twice", []int64{5}, []impl.Part{a, a}, false},
		{"a Number twice, of unlike Bodies", []int64{5}, []impl.Part{a, c, part(5, 3, "else")}, false},
		{"a Number twice in two messages", []int64{5, 2}, []impl.Part{a, b, part(2, 0, "a"), part(2, 1, "b")}, true},
		{"Numbers that fall from one message to the next", []int64{5, 2}, []impl.Part{c, x}, true},
	} {
		wantRightGather(t, row.what, impl.Gather{Open: row.open, Parts: row.parts}, row.right)
	}
	for _, number := range []int64{leastInt, -1 << 32, -64, -1, 0, 1, 62, 63, 64, 65, 1 << 32, 1<<32 + 1, mostInt} {
		right := number >= 0 && number <= 63
		wantRightGather(t, []any{"Number", number}, gatherOf(nil, part(5, number, "a")), right)
		wantRightGather(t, []any{"Number of a second one", number}, gatherOf(nil, x, y, part(5, number, "a")), right)
		wantRightGather(t, []any{"Number behind another", number}, gatherOf(nil, x, part(2, number, "a")), right && number > 0)
		wantRightGather(t, []any{"Number of a Last one", number}, gatherOf(nil, x, y, lastPart(5, number, "a")), right && number > 0)
	}
}

func TestBodiesOfAGather(t *testing.T) {
	for _, length := range []int{0, 1, 1023, 1024, 1025, 1026, 2048, 1 << 16} {
		body := strings.Repeat("b", length)
		wantRightGather(t, []any{"one", length}, gatherOf(nil, part(5, 0, body)), length <= 1024)
		wantRightGather(t, []any{"a Last one", length}, gatherOf(nil, lastPart(5, 1, body)), length <= 1024)
		wantRightGather(t, []any{"the last of some", length}, gatherOf(nil, part(4, 0, ""), part(5, 0, ""), part(5, 4, body)), length <= 1024)
	}
	long := strings.Repeat("l", 1024)
	for _, more := range []int{0, 1, 2, 1024} {
		rest := strings.Repeat("m", more)
		wantRightGather(t, []any{"in all", 2048 + more}, gatherOf(nil, part(5, 1, long), part(5, 2, long), part(5, 3, rest)), more == 0)
		wantRightGather(t, []any{"in all", 1024 + more}, gatherOf(nil, part(5, 1, long), part(5, 2, rest)), true)
		wantRightGather(t, []any{"with a Last one", 2048 + more}, gatherOf(nil, part(5, 1, rest), part(5, 2, long), lastPart(5, 3, long)), more == 0)
		wantRightGather(t, []any{"of the second one", 2048 + more}, gatherOf(nil, part(4, 0, long), part(5, 0, long), part(5, 9, rest), part(5, 10, long)), more == 0)
	}
	wantRightGather(t, "of two messages", gatherOf(nil, part(4, 0, long), part(4, 1, long), part(5, 0, long), part(5, 1, long), part(6, 3, "c")), true)
	var g impl.Gather
	for number := range int64(64) {
		g = gatherOf(nil, append(g.Parts, part(5, number, strings.Repeat("n", 32)))...)
		wantRightGather(t, []any{"so many parts", number}, g, true)
	}
	g.Parts[40].Body += "o"
	wantRightGather(t, "one byte too many", g, false)
}

func TestLastsOfAGather(t *testing.T) {
	for _, row := range []struct {
		what  string
		parts []impl.Part
		right bool
	}{
		{"Last alone, its beginning missing", []impl.Part{lastPart(5, 1, "b")}, true},
		{"Last at the very end", []impl.Part{part(5, 0, "a"), lastPart(5, 63, "b")}, true},
		{"two Last ones", []impl.Part{lastPart(5, 1, "b"), lastPart(5, 3, "d")}, false},
		{"two Last ones of one Number", []impl.Part{lastPart(5, 1, "b"), lastPart(5, 1, "b")}, false},
		{"two Last ones, the second at the end", []impl.Part{part(5, 0, "a"), lastPart(5, 2, "b"), lastPart(5, 3, "d")}, false},
		{"a Number above the Last one", []impl.Part{lastPart(5, 1, "b"), part(5, 3, "d")}, false},
		{"a Number just above the Last one", []impl.Part{part(5, 0, "a"), lastPart(5, 2, "b"), part(5, 3, "d")}, false},
		{"a Number above a Last one at 0", []impl.Part{lastPart(5, 0, "b"), part(5, 3, "d")}, false},
		{"Last ones of two messages", []impl.Part{part(5, 0, "a"), lastPart(5, 2, "b"), lastPart(6, 1, "c"), part(7, 4, "d")}, true},
		{"whole, of one part", []impl.Part{lastPart(5, 0, "a")}, false},
		{"whole, of one part without bytes", []impl.Part{lastPart(5, 0, "")}, false},
		{"whole, of two parts", []impl.Part{part(5, 0, "a"), lastPart(5, 1, "b")}, false},
		{"whole, behind one that is not", []impl.Part{part(4, 0, "a"), part(5, 0, "a"), part(5, 1, "b"), lastPart(5, 2, "c")}, false},
		{"whole, ahead of one that is not", []impl.Part{part(4, 0, "a"), lastPart(4, 1, "b"), part(5, 0, "a")}, false},
		{"all but the first", []impl.Part{part(5, 1, "b"), lastPart(5, 2, "c")}, true},
		{"all but one in the middle", []impl.Part{part(5, 0, "b"), lastPart(5, 2, "c")}, true},
		{"all but the last", []impl.Part{part(5, 0, "b"), part(5, 1, "c")}, true},
	} {
		wantRightGather(t, row.what, gatherOf([]int64{9}, row.parts...), row.right)
	}
	whole := plainPieces(5, strings.Repeat("w", 64), 1)
	wantRightGather(t, "whole, of 64 parts", gatherOf(nil, whole...), false)
	for k := range whole {
		wantRightGather(t, []any{"all but one", k}, gatherOf(nil, slices.Delete(slices.Clone(whole), k, k+1)...), true)
	}
}

// Many receivers of few Ids and Numbers, right and not.
func TestRightGathersPlainly(t *testing.T) {
	m := mixer(251)
	right := 0
	for range 60000 {
		g := m.someGather()
		want := plainGatherOk(g)
		if impl.GatherOk(g) != want {
			t.Fatalf("want %v: %s", want, briefGather(g))
		}
		if want {
			right++
		}
	}
	if right < 5000 || right > 55000 {
		t.Error("one-sided", right)
	}
}

// someGather has few parts, mostly in order, of few Ids.
func (m *mixer) someGather() impl.Gather {
	var g impl.Gather
	for range m.pick(0, 3) {
		id := m.pick(0, 6)
		g.Open = append(g.Open, id)
		number := m.pick(0, 2)
		for range m.pick(1, 4) {
			g.Parts = append(g.Parts, impl.Part{Id: id, Number: number, Last: m.pick(0, 5) == 0, Body: strings.Repeat("g", int(m.pick(0, 5)*200))})
			number += m.pick(1, 12) / 6
		}
	}
	g.Done = m.list(int(m.pick(0, 2)), 4, 12)
	switch m.pick(0, 8) {
	case 0:
		g.Open = append(g.Open, m.pick(-1, 7))
	case 1:
		g.Open = g.Open[:len(g.Open)/2]
	case 2:
		slices.Reverse(g.Open)
	case 3:
		g.Done = append(g.Done, m.pick(-1, 8))
	}
	return g
}
