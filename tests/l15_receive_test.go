package tests

import (
	"fmt"
	"slices"
	"strings"
	"testing"

	"loop.example/g00050/impl"
)

func TestPartsOfNewMessages(t *testing.T) {
	g := wantKept(t, impl.Gather{}, part(9, 0, "a"))
	g = wantKept(t, g, lastPart(3, 5, "f"))
	g = wantKept(t, g, part(1000000, 63, ""))
	g = wantKept(t, g, part(0, 1, strings.Repeat("x", 1024)))
	wantLists(t, "in the order in which they began", g.Open, []int64{9, 3, 1000000, 0})
	wantParts(t, "one after the other", g.Parts, []impl.Part{part(9, 0, "a"), lastPart(3, 5, "f"), part(1000000, 63, ""), part(0, 1, strings.Repeat("x", 1024))})
	// A message of one part was never open.
	g = wantWhole(t, g, lastPart(4, 0, "at once"), "at once")
	wantLists(t, "open", g.Open, []int64{9, 3, 1000000, 0})
	wantLists(t, "done", g.Done, []int64{4})
	g = wantWhole(t, g, lastPart(2, 0, ""), "")
	wantLists(t, "done, in order", g.Done, []int64{4, 2})
}

func TestPartsOfOpenMessages(t *testing.T) {
	g := richGather()
	g = wantKept(t, g, part(40, 1, "b"))
	g = wantKept(t, g, part(7, 0, "one"))
	g = wantKept(t, g, part(7, 5, "six"))
	g = wantKept(t, g, part(900000, 62, "near the end"))
	g = wantKept(t, g, part(900000, 0, "the beginning"))
	g = wantKept(t, g, part(0, 62, "y"))
	wantLists(t, "open", g.Open, []int64{40, 7, 900000, 8, 0})
	wantParts(t, "parts in their order", g.Parts, []impl.Part{
		part(40, 0, "a"), part(40, 1, "b"), part(40, 2, "c"), lastPart(40, 4, "e"),
		part(7, 0, "one"), part(7, 1, "two"), part(7, 2, ""), part(7, 5, "six"),
		part(900000, 0, "the beginning"), part(900000, 62, "near the end"), lastPart(900000, 63, "end"),
		part(8, 0, "b"), lastPart(8, 2, "d"),
		part(0, 62, "y"), part(0, 63, strings.Repeat("x", 1024))})
	// The end becomes known behind all that is kept.
	g = wantKept(t, g, lastPart(7, 6, "seven"))
	g = wantKept(t, g, part(7, 3, "four"))
	g = wantWhole(t, g, part(7, 4, "five"), "onetwofourfivesixseven")
	wantLists(t, "open", g.Open, []int64{40, 900000, 8, 0})
	wantLists(t, "done", g.Done, []int64{500, 3, 1000000, 7})
	g = wantWhole(t, g, part(40, 3, "d"), "abcde")
	g = wantWhole(t, g, part(8, 1, "c"), "bcd")
	wantLists(t, "open", g.Open, []int64{900000, 0})
	wantLists(t, "done", g.Done, []int64{500, 3, 1000000, 7, 40, 8})
}

// The part that makes a message whole may be any of it.
func TestPartsThatMakeWhole(t *testing.T) {
	for _, count := range []int64{1, 2, 3, 5, 64} {
		message := unlikeBytes(int(count)*31 - 3)
		pieces := plainPieces(77, message, 31)
		wantNumber(t, "pieces", int64(len(pieces)), count)
		for last := range pieces {
			g := gatherOf([]int64{1}, part(4, 0, "ahead"))
			for k, p := range pieces {
				if k != last {
					g = wantKept(t, g, p)
				}
			}
			g = wantKept(t, g, part(9, 3, "behind"))
			g = wantWhole(t, g, pieces[last], message)
			wantGather(t, []any{count, last}, g, gatherOf([]int64{1, 77}, part(4, 0, "ahead"), part(9, 3, "behind")))
			for _, p := range pieces {
				wantUnmoved(t, g, p)
			}
		}
	}
}

// Every order in which four parts may arrive tells the message just once, at its fourth part.
func TestPartsOutOfOrder(t *testing.T) {
	message := "aabbccd"
	pieces := plainPieces(6, message, 2)
	for _, order := range listsOf(4, 0, 3) {
		if len(slices.Compact(slices.Sorted(slices.Values(order)))) < 4 {
			continue
		}
		var g impl.Gather
		for _, k := range order[:3] {
			g = wantKept(t, g, pieces[k])
			wantUnmoved(t, g, pieces[k])
		}
		wantLists(t, order, g.Open, []int64{6})
		g = wantWhole(t, g, pieces[order[3]], message)
		wantGather(t, order, g, impl.Gather{Done: []int64{6}})
	}
}

func TestPartsOfDoneMessages(t *testing.T) {
	g := richGather()
	for _, id := range g.Done {
		for _, p := range []impl.Part{part(id, 0, "a"), part(id, 1, ""), lastPart(id, 0, "whole"), lastPart(id, 63, "z")} {
			wantUnmoved(t, g, p)
		}
	}
}

func TestPartsKeptAlready(t *testing.T) {
	g := richGather()
	for _, p := range g.Parts {
		wantUnmoved(t, g, p)
		for _, body := range []string{"", "another", strings.Repeat("z", 1024)} {
			wantUnmoved(t, g, part(p.Id, p.Number, body))
			wantUnmoved(t, g, lastPart(p.Id, p.Number, body))
		}
	}
}

func TestPartsThatDoNotGoWithOthers(t *testing.T) {
	g := gatherOf([]int64{1}, part(4, 2, "c"), lastPart(5, 7, "h"), part(6, 1, "b"), lastPart(6, 4, "e"))
	// Behind a Last one.
	for _, number := range []int64{8, 9, 63} {
		wantUnmoved(t, g, part(5, number, "i"))
		wantUnmoved(t, g, part(5, number, ""))
	}
	wantUnmoved(t, g, part(6, 5, "f"))
	wantKept(t, g, part(5, 6, "g"))
	// Last ahead of one that is kept.
	wantUnmoved(t, g, lastPart(4, 0, "a"))
	wantUnmoved(t, g, lastPart(4, 1, "b"))
	wantKept(t, g, lastPart(4, 3, "d"))
	wantKept(t, g, part(4, 1, "b"))
	// A second Last, ahead of the first one, at it and behind it.
	for _, number := range []int64{0, 1, 6, 7, 8, 63} {
		wantUnmoved(t, g, lastPart(5, number, "x"))
	}
	for _, number := range []int64{0, 2, 3, 4, 5} {
		wantUnmoved(t, g, lastPart(6, number, "x"))
	}
}

func TestBytesInAll(t *testing.T) {
	long := strings.Repeat("l", 1024)
	for _, more := range []int{0, 1, 2, 500, 1024} {
		g := gatherOf(nil, part(3, 0, long), part(5, 0, long), part(5, 2, strings.Repeat("m", 1000)))
		p := part(5, 1, strings.Repeat("n", 24+more))
		if len(p.Body) > 1024 {
			continue
		}
		last := lastPart(5, 3, p.Body)
		if more == 0 {
			wantKept(t, g, p)
			wantKept(t, g, last)
		} else {
			wantUnmoved(t, g, p)
			wantUnmoved(t, g, last)
		}
		// Of another message it is none too many.
		wantKept(t, g, part(3, 1, p.Body))
		wantKept(t, g, part(6, 1, p.Body))
	}
	// The part that would make it whole, with just as many bytes and with one more.
	g := gatherOf(nil, part(5, 0, long), lastPart(5, 2, long[1:]))
	wantUnmoved(t, g, part(5, 1, "xy"))
	wantWhole(t, g, part(5, 1, "x"), long+"x"+long[1:])
	wantWhole(t, g, part(5, 1, ""), long+long[1:])
	// Parts without bytes come in all the same.
	g = gatherOf(nil, part(5, 0, long), part(5, 1, long))
	g = wantKept(t, g, part(5, 2, ""))
	wantUnmoved(t, g, part(5, 3, "x"))
	wantWhole(t, g, lastPart(5, 3, ""), long+long)
}

func TestOpenMessagesWithoutRoom(t *testing.T) {
	g := fullGather()
	for _, id := range []int64{16, 99, 1000000} {
		wantUnmoved(t, g, part(id, 0, "a"))
		wantUnmoved(t, g, part(id, 1, ""))
		wantUnmoved(t, g, lastPart(id, 3, "d"))
		// Not even one that would be whole at once.
		wantUnmoved(t, g, lastPart(id, 0, "whole"))
	}
	for id := range int64(16) {
		kept := wantKept(t, g, part(id, 2, "an open one"))
		wantUnmoved(t, kept, part(16, 0, "a"))
	}
	g = wantKept(t, g, part(5, 0, "zero, "))
	g = wantWhole(t, g, lastPart(5, 2, ", two"), "zero, one of 5, two")
	// Now there is room for one.
	wantWhole(t, g, lastPart(99, 0, "whole"), "whole")
	g = wantKept(t, g, part(16, 0, "a"))
	wantUnmoved(t, g, lastPart(99, 0, "whole"))
	wantLists(t, "open", g.Open, []int64{0, 1, 2, 3, 4, 6, 7, 8, 9, 10, 11, 12, 13, 14, 15, 16})
	// 15 are open.
	g = fullGather()
	g.Open, g.Parts = g.Open[:15], g.Parts[:15]
	wantKept(t, g, part(99, 0, "a"))
	wantWhole(t, g, lastPart(99, 0, "a"), "a")
}

func TestDoneMessagesWithoutRoom(t *testing.T) {
	g := gatherOf(idsFrom(1000, 4095), part(7, 0, "a"), part(8, 0, "b"), part(9, 0, "c"))
	g = wantWhole(t, g, lastPart(8, 1, "!"), "b!")
	wantNumber(t, "all", int64(len(g.Done)), 4096)
	wantNumber(t, "the first", g.Done[0], 1000)
	wantUnmoved(t, g, lastPart(1000, 0, "again"))
	g = wantWhole(t, g, lastPart(7, 1, "!"), "a!")
	wantNumber(t, "as many", int64(len(g.Done)), 4096)
	wantNumber(t, "the first is forgotten", g.Done[0], 1001)
	wantNumber(t, "the last but one", g.Done[4094], 8)
	wantNumber(t, "the last", g.Done[4095], 7)
	wantUnmoved(t, g, lastPart(1001, 0, "again"))
	wantKept(t, g, part(1000, 0, "new again"))
	g = wantWhole(t, g, lastPart(1000, 0, "new again"), "new again")
	wantNumber(t, "the second is forgotten", g.Done[0], 1002)
	wantUnmoved(t, g, lastPart(1000, 0, "new again"))
	wantLists(t, "open", g.Open, []int64{9})
	// A part that is kept or refused forgets nothing.
	kept := wantKept(t, g, part(9, 5, "d"))
	wantLists(t, "done", kept.Done, g.Done)
	wantUnmoved(t, g, part(9, 0, "c"))
}

func TestPartsThatAreNone(t *testing.T) {
	for _, g := range []impl.Gather{{}, richGather(), fullGather(), gatherOf(nil, part(5, 1, "b"))} {
		for _, id := range []int64{leastInt, -1 << 32, -1, 1000001, 1<<32 + 40, mostInt} {
			wantUnmoved(t, g, part(id, 0, "a"))
			wantUnmoved(t, g, lastPart(id, 0, "a"))
		}
		for _, number := range []int64{leastInt, -1, 64, 65, 1 << 32, mostInt} {
			for _, id := range []int64{5, 7, 123} {
				wantUnmoved(t, g, part(id, number, "a"))
				wantUnmoved(t, g, lastPart(id, number, "a"))
			}
		}
		for _, length := range []int{1025, 1026, 2048, 1 << 20} {
			wantUnmoved(t, g, part(123, 0, strings.Repeat("b", length)))
			wantUnmoved(t, g, lastPart(123, 0, strings.Repeat("b", length)))
		}
	}
	for _, id := range []int64{0, 1000000} {
		for _, number := range []int64{0, 63} {
			for _, length := range []int{0, 1024} {
				wantKept(t, impl.Gather{}, part(id, number, strings.Repeat("b", length)))
			}
		}
	}
}

// A receiver that is not right comes back as it came, even with parts that would go with it.
func TestReceiversNotRight(t *testing.T) {
	for what, change := range map[string]func(g *impl.Gather){
		"an Id done that is open":   func(g *impl.Gather) { g.Done = append(g.Done, 7) },
		"an Id done twice":          func(g *impl.Gather) { g.Done = append(g.Done, 3) },
		"an Id done that is none":   func(g *impl.Gather) { g.Done[0] = -1 },
		"an open one without parts": func(g *impl.Gather) { g.Open = append(g.Open, 123) },
		"a part of no open one":     func(g *impl.Gather) { g.Parts = append(g.Parts, part(123, 0, "")) },
		"a whole one":               func(g *impl.Gather) { g.Open, g.Parts = append(g.Open, 10), append(g.Parts, lastPart(10, 0, "")) },
		"17 open": func(g *impl.Gather) {
			*g = fullGather()
			g.Open, g.Parts = append(g.Open, 20), append(g.Parts, part(20, 1, ""))
		},
		"4097 done":       func(g *impl.Gather) { g.Done = idsFrom(2000, 4097) },
		"another order":   func(g *impl.Gather) { slices.Reverse(g.Open) },
		"a Number twice":  func(g *impl.Gather) { g.Parts[1].Number = 0 },
		"a Body too long": func(g *impl.Gather) { g.Parts[0].Body = strings.Repeat("b", 1025) },
	} {
		g := richGather()
		change(&g)
		wantRightGather(t, what, g, false)
		for _, p := range []impl.Part{part(7, 0, "one"), part(40, 1, "b"), lastPart(8, 3, "e"), lastPart(77, 0, "whole"), part(500, 0, "done"), part(500, 64, "none")} {
			wantUnmoved(t, g, p)
		}
	}
}

// Each receiver of one message with Numbers from 0 to 3 and few bytes, with each part.
func TestReceiversPlainly(t *testing.T) {
	kept, told := int64(0), 0
	for _, kinds := range listsOf(4, 0, 2) {
		var g impl.Gather
		for number, kind := range kinds {
			switch kind {
			case 1:
				g = gatherOf(nil, append(g.Parts, part(5, int64(number), fmt.Sprint(number)))...)
			case 2:
				g = gatherOf(nil, append(g.Parts, lastPart(5, int64(number), fmt.Sprint(number)))...)
			}
		}
		for number := int64(-1); number <= 4; number++ {
			for _, p := range []impl.Part{part(5, number, "p"), lastPart(5, number, "q")} {
				got, letters := receive(t, g, p)
				told += len(letters)
				kept += oneIf(!sameGather(got, g))
			}
		}
	}
	if kept < 50 || told < 10 {
		t.Error("one-sided", kept, told)
	}
}
