package tests

import (
	"slices"
	"testing"

	"loop.example/g00050/impl"
)

func TestUnrollTicks(t *testing.T) {
	wantUnroll(t, "nothing", nil, nil, 0, 0)
	ps := []impl.Pulse{rf(1, 3), grad(2, -5, 7), read(3), wait(11), at(23), at(40), read(1)}
	wantUnroll(t, "each kind", ps, []impl.Timed{
		{Tick: 0, Pulse: ps[0]},
		{Tick: 2, Pulse: ps[1]},
		{Tick: 9, Pulse: ps[2]},
		{Tick: 12, Pulse: ps[3]},
		{Tick: 23, Pulse: ps[4]},
		{Tick: 23, Pulse: ps[5]},
		{Tick: 40, Pulse: ps[6]},
	}, 41, 0)
}

func TestUnrollLoops(t *testing.T) {
	inner := looped(2, wait(1), read(2))
	ps := append([]impl.Pulse{at(5)}, looped(2, append(inner, wait(3))...)...)
	wantUnroll(t, "nested loops", append(ps, wait(9)), []impl.Timed{
		{Tick: 0, Pulse: at(5)},
		{Tick: 5, Pulse: wait(1)},
		{Tick: 6, Pulse: read(2)},
		{Tick: 8, Pulse: wait(1)},
		{Tick: 9, Pulse: read(2)},
		{Tick: 11, Pulse: wait(3)},
		{Tick: 14, Pulse: wait(1)},
		{Tick: 15, Pulse: read(2)},
		{Tick: 17, Pulse: wait(1)},
		{Tick: 18, Pulse: read(2)},
		{Tick: 20, Pulse: wait(3)},
		{Tick: 23, Pulse: wait(9)},
	}, 32, 0)
}

func TestUnrollMany(t *testing.T) {
	full := nested(1, 40, looped(50, wait(1))...)
	list, tick, code := impl.Unroll(full)
	if len(list) != 2000 || tick != 2000 || code != 0 || list[1999] != (impl.Timed{Tick: 1999, Pulse: wait(1)}) {
		t.Error("2000 orders", len(list), tick, code)
	}
	for _, last := range []impl.Pulse{wait(1), at(2000), at(0), rf(1, 1), wait(10000), read(256)} {
		wantRun(t, last, append(slices.Clone(full), last), 2000, impl.RunMany)
	}
	wantRun(t, "5 * 398", looped(5, slices.Repeat([]impl.Pulse{at(0)}, 398)...), 0, 0)
	wantRun(t, "64 * 32", nested(1, 64, looped(32, wait(2))...), 4000, impl.RunMany)
	wantRun(t, "64 to the power 8", nested(8, 64, wait(1)), 2000, impl.RunMany)
	wantRun(t, "64 to the power 8, no tick", nested(8, 64, at(0)), 0, impl.RunMany)
	wantRun(t, "a loop behind", append(slices.Clone(full), looped(2)...), 2000, 0)
	wantRun(t, "an order in a loop behind", append(slices.Clone(full), looped(2, at(2000))...), 2000, impl.RunMany)
}

func TestUnrollLate(t *testing.T) {
	for _, n := range []int64{0, 4} {
		wantRun(t, n, []impl.Pulse{wait(5), at(n)}, 5, impl.RunLate)
	}
	wantRun(t, "now", []impl.Pulse{wait(5), at(5)}, 5, 0)
	wantRun(t, "just ahead", []impl.Pulse{wait(5), at(6)}, 6, 0)
	wantRun(t, "at 0 first", []impl.Pulse{at(0), at(0)}, 0, 0)
	wantRun(t, "at 0 behind a tick", []impl.Pulse{at(0), wait(1), at(0)}, 1, impl.RunLate)
	wantRun(t, "at 7 twice", looped(2, at(7)), 7, 0)
	wantRun(t, "in the second turn", looped(2, at(7), wait(2)), 9, impl.RunLate)
	wantRun(t, "the end of all", []impl.Pulse{at(100000), at(100000)}, 100000, 0)
	wantRun(t, "the end of all, then back", []impl.Pulse{at(100000), at(99999)}, 100000, impl.RunLate)
}

func TestUnrollNear(t *testing.T) {
	for axis := int64(1); axis <= 3; axis++ {
		wantRun(t, "at once", []impl.Pulse{rf(axis, 1), rf(1, 2)}, 2, impl.RunNear)
		wantRun(t, "3 behind", []impl.Pulse{rf(axis, 1), wait(1), rf(3, 2)}, 3, impl.RunNear)
		wantRun(t, "4 behind", []impl.Pulse{rf(axis, 1), wait(2), rf(2, 2)}, 6, 0)
		wantRun(t, "the turns of a loop, 3 behind", looped(2, rf(axis, 1), wait(1)), 3, impl.RunNear)
		wantRun(t, "the turns of a loop, 4 behind", looped(64, rf(axis, 1), wait(2)), 256, 0)
	}
	wantRun(t, "across an end", append(looped(1, rf(1, 1), wait(1)), rf(1, 1)), 3, impl.RunNear)
	wantRun(t, "into a loop", append([]impl.Pulse{rf(1, 1), wait(1)}, looped(1, rf(1, 1))...), 3, impl.RunNear)
	wantRun(t, "the one ahead, not the first", []impl.Pulse{rf(1, 1), wait(9), rf(1, 1), read(1), rf(1, 1)}, 14, impl.RunNear)
	wantRun(t, "many orders between", []impl.Pulse{rf(1, 1), at(2), read(1), at(3), rf(1, 1)}, 3, impl.RunNear)
	wantRun(t, "by at", []impl.Pulse{rf(1, 1), at(4), rf(1, 1)}, 6, 0)
	wantRun(t, "a first one at 0", []impl.Pulse{at(0), rf(1, 1)}, 2, 0)
	wantRun(t, "a first one at 1", []impl.Pulse{wait(1), rf(1, 1)}, 3, 0)
}

func TestUnrollBehindMaxTicks(t *testing.T) {
	for _, c := range []struct {
		from  int64
		right impl.Pulse
		wrong impl.Pulse
	}{
		{99998, rf(1, 1), wait(3)},
		{99990, wait(10), wait(11)},
		{99990, grad(1, 5, 10), grad(1, 5, 11)},
		{99990, grad(2, 1000, 10), grad(2, 0, 11)},
		{99990, read(10), read(11)},
		{99744, read(256), wait(257)},
		{99999, at(100000), rf(1, 1)},
		{100000, at(100000), wait(1)},
		{100000, at(100000), read(1)},
		{100000, at(100000), grad(1, 0, 1)},
		{100000, at(100000), rf(2, 2)},
	} {
		wantRun(t, c, []impl.Pulse{at(c.from), c.right}, 100000, 0)
		wantRun(t, c, []impl.Pulse{at(c.from), c.wrong}, c.from, impl.RunTicks)
		wantRun(t, c, []impl.Pulse{at(c.from), c.wrong, at(0)}, c.from, impl.RunTicks)
	}
	wantRun(t, "ten waits", looped(10, wait(10000)), 100000, 0)
	wantRun(t, "eleven waits", looped(11, wait(10000)), 100000, impl.RunTicks)
	wantRun(t, "in a turn", looped(64, wait(3000)), 99000, impl.RunTicks)
}

func TestUnrollLeastCode(t *testing.T) {
	full := nested(1, 40, looped(50, at(99996))...)
	near := []impl.Pulse{rf(1, 1), wait(1), rf(2, 1)}
	wantRun(t, "near and behind", append([]impl.Pulse{at(99996)}, near...), 99999, impl.RunNear)
	wantRun(t, "many and behind", append(slices.Clone(full), wait(5)), 99996, impl.RunMany)
	wantRun(t, "many and late", append(slices.Clone(full), at(1)), 99996, impl.RunMany)
	most := append(nested(1, 37, looped(54, at(99996))...), rf(1, 1), wait(1)) // 2000 orders
	wantRun(t, "2000 orders, an rf near the end", most, 99999, 0)
	wantRun(t, "many, near and behind", append(slices.Clone(most), rf(1, 1)), 99999, impl.RunMany)
	wantRun(t, "late, then near", []impl.Pulse{wait(5), at(1), rf(1, 1), rf(1, 1)}, 5, impl.RunLate)
	wantRun(t, "near, then late", []impl.Pulse{rf(1, 1), rf(1, 1), at(0)}, 2, impl.RunNear)
	wantRun(t, "behind, then late", []impl.Pulse{at(100000), wait(1), at(0)}, 100000, impl.RunTicks)
	wantRun(t, "late, then many", append([]impl.Pulse{wait(1), at(0)}, nested(3, 64, at(1))...), 1, impl.RunLate)
}

func TestUnrollEmptyLoops(t *testing.T) {
	none := nested(8, 64)
	wide := looped(64, slices.Repeat(nested(7, 64), 28)...)
	for what, ps := range map[string][]impl.Pulse{"8 deep": none, "8 deep, side by side": slices.Repeat(none, 25), "28 in one": wide} {
		wantSoon(t, what, func() { wantUnroll(t, what, ps, nil, 0, 0) })
	}
	around := slices.Concat([]impl.Pulse{wait(1)}, none, []impl.Pulse{wait(2)}, none)
	wantSoon(t, "beside", func() {
		wantUnroll(t, "beside", around, []impl.Timed{{Tick: 0, Pulse: wait(1)}, {Tick: 1, Pulse: wait(2)}}, 3, 0)
	})
	inside := looped(64, slices.Concat(nested(7, 64), []impl.Pulse{wait(1)}, nested(7, 64))...)
	wantSoon(t, "in one loop", func() { wantRun(t, "in one loop", inside, 64, 0) })
	body := []impl.Pulse{wait(1)}
	for i := range 7 {
		body = looped(2, append(nested(i+1, 64), body...)...)
	}
	wantSoon(t, "at each depth", func() { wantRun(t, "at each depth", body, 128, 0) })
}

// Promise 4, its second half.
func TestLoopIsItsOrdersWritten(t *testing.T) {
	m := mixer(43)
	right := 0
	for range 4000 {
		body, n := m.orders(int(m.pick(0, 8)), 3), m.pick(1, 8)
		ahead, behind := m.orders(int(m.pick(0, 5)), 2), m.orders(int(m.pick(0, 5)), 2)
		written := slices.Concat(ahead, slices.Repeat(body, int(n)), behind)
		loops := slices.Concat(ahead, looped(n, body...), behind)
		if !impl.SeqOk(written) || !impl.SeqOk(loops) {
			continue
		}
		list, tick, code := impl.Unroll(written)
		if code == 0 {
			right++
		}
		wantUnroll(t, loops, loops, list, tick, code)
		if !slices.Equal(impl.Path(loops), impl.Path(written)) {
			t.Errorf("%v has another path than its orders", loops)
		}
	}
	if right < 500 {
		t.Error("too few that are played to the end", right)
	}
}

func TestUnrollThrown(t *testing.T) {
	m := mixer(44)
	codes := map[int64]int{}
	for range 8000 {
		ps := m.orders(int(m.pick(0, 20)), 4)
		if m.pick(1, 4) == 1 {
			ps = append([]impl.Pulse{at(m.pick(99900, 100000))}, slices.DeleteFunc(ps, func(p impl.Pulse) bool { return p.Kind == impl.PuAt })...)
		}
		if m.pick(1, 4) == 1 {
			ps = nested(2, m.pick(30, 64), ps...)
		}
		if !impl.SeqOk(ps) {
			t.Fatal("no sequence", ps)
		}
		list, tick, code := unrolled(ps)
		codes[code]++
		wantUnroll(t, ps, ps, list, tick, code)
		if path := impl.Path(ps); !slices.Equal(path, sampled(list)) {
			t.Errorf("the path of %v has %d samples", ps, len(path))
		}
	}
	for _, code := range []int64{0, impl.RunMany, impl.RunLate, impl.RunNear, impl.RunTicks} {
		if codes[code] < 100 {
			t.Error("too few with code", code, codes)
		}
	}
}
