package tests

import (
	"slices"
	"testing"

	"loop.example/g00050/impl"
)

func TestClocksOfFlows(t *testing.T) {
	wantRightFlow(t, "the zero Flow", impl.Flow{}, true)
	wantRightFlow(t, "a rich one", richFlow(), true)
	for _, clock := range numbersAround(0, lastTick) {
		ok := clock >= 0 && clock <= lastTick
		wantRightFlow(t, "no orders", flowOf(clock), ok)
		wantRightFlow(t, "an order", flowOf(clock, orderOf(5, orNew, lastTick, 0)), ok)
		wantRightFlow(t, "one that was dropped", flowOf(clock, orderOf(5, orDropped, 1, 0)), ok)
	}
}

func TestCountsOfOrders(t *testing.T) {
	for _, count := range []int{1, 2, 499, 500, 501, 502, 5000} {
		wantRightFlow(t, count, flowOf(7, manyOrders(count, 8)...), count <= 500)
	}
}

func TestIdsOfOrders(t *testing.T) {
	for _, id := range numbersAround(0, lastId) {
		ok := id >= 0 && id <= lastId
		wantRightFlow(t, id, flowOf(0, orderOf(id, orNew, 5, 0)), ok)
		wantRightFlow(t, id, flowOf(9, orderOf(id, orLate, 5, 6)), ok)
		wantRightFlow(t, id, flowOf(0, orderOf(4, orNew, 5, 0), orderOf(id, orNew, 5, 0)), ok && id > 4)
		wantRightFlow(t, id, flowOf(0, orderOf(id, orNew, 5, 0), orderOf(lastId-3, orNew, 5, 0)), ok && id < lastId-3)
	}
	three := func(a, b, c int64) impl.Flow {
		return flowOf(0, orderOf(a, orNew, 5, 0), orderOf(b, orBegun, 5, 0), orderOf(c, orDone, 5, 0))
	}
	wantRightFlow(t, "rising", three(0, 1, 2), true)
	wantRightFlow(t, "far apart", three(0, 500000, lastId), true)
	wantRightFlow(t, "twice at the beginning", three(1, 1, 2), false)
	wantRightFlow(t, "twice at the end", three(0, 2, 2), false)
	wantRightFlow(t, "twice, apart", three(1, 2, 1), false)
	wantRightFlow(t, "falling at the beginning", three(1, 0, 2), false)
	wantRightFlow(t, "falling at the end", three(0, 2, 1), false)
}

func TestDuesOfOrders(t *testing.T) {
	for _, due := range numbersAround(1, lastTick) {
		ok := due >= 1 && due <= lastTick
		for _, state := range []int64{orNew, orBegun, orDone, orDropped} {
			wantRightFlow(t, due, flowOf(0, orderOf(5, state, due, 0)), ok)
		}
		// What is late is so behind its Due alone, and that of MaxClock never comes to it.
		if due < mostInt {
			wantRightFlow(t, due, flowOf(lastTick, orderOf(5, orLate, due, due+1)), ok && due < lastTick)
		}
	}
	wantRightFlow(t, "Due and 1 is a number below 0", flowOf(lastTick, orderOf(5, orLate, mostInt, leastInt)), false)
}

func TestStatesOfOrders(t *testing.T) {
	for _, state := range append(numbersAround(1, 5), 7, 257, 258, 259) {
		first := state == orNew || state == orBegun
		ended := state == orDone || state == orDropped
		wantRightFlow(t, state, flowOf(3, orderOf(5, state, 8, 0)), first || ended)
		wantRightFlow(t, state, flowOf(3, orderOf(5, state, 2, 2)), ended)
		wantRightFlow(t, state, flowOf(3, orderOf(5, state, 2, 3)), state == orLate)
	}
}

func TestOpenOrders(t *testing.T) {
	for _, state := range []int64{orNew, orBegun} {
		for _, clock := range []int64{2, 50, lastTick - 1, lastTick} {
			wantRightFlow(t, "a Due of Clock", flowOf(clock, orderOf(5, state, clock, 0)), true)
			wantRightFlow(t, "a Due of one less", flowOf(clock, orderOf(5, state, clock-1, 0)), false)
			wantRightFlow(t, "a Due of one more", flowOf(clock, orderOf(5, state, clock+1, 0)), clock < lastTick)
		}
		wantRightFlow(t, "a Due of 1 at 0", flowOf(0, orderOf(5, state, 1, 0)), true)
		wantRightFlow(t, "a Due of 1 at 1", flowOf(1, orderOf(5, state, 1, 0)), true)
		wantRightFlow(t, "a Due of 1 at 2", flowOf(2, orderOf(5, state, 1, 0)), false)
		for _, ended := range []int64{leastInt, -1, 0, 1, 4, 5, 6, mostInt} {
			wantRightFlow(t, "an Ended", flowOf(5, orderOf(5, state, 9, ended)), ended == 0)
		}
	}
}

func TestEndedOrders(t *testing.T) {
	for _, state := range []int64{orDone, orDropped} {
		for _, ended := range []int64{leastInt, -1 << 32, -1, 0, 1, 6, 7, 8, 9, 10, 1 << 32, mostInt} {
			wantRightFlow(t, "Due below Clock", flowOf(9, orderOf(5, state, 7, ended)), ended >= 0 && ended <= 7)
			wantRightFlow(t, "Clock below Due", flowOf(7, orderOf(5, state, 9, ended)), ended >= 0 && ended <= 7)
			wantRightFlow(t, "Due is Clock", flowOf(8, orderOf(5, state, 8, ended)), ended >= 0 && ended <= 8)
		}
		wantRightFlow(t, "at the last tick", flowOf(lastTick, orderOf(5, state, lastTick, lastTick)), true)
		wantRightFlow(t, "behind it", flowOf(lastTick, orderOf(5, state, lastTick, lastTick+1)), false)
	}
}

func TestLateOrders(t *testing.T) {
	for _, ended := range []int64{leastInt, -1, 0, 1, 6, 7, 8, 9, 10, 1<<32 + 8, mostInt} {
		for clock := int64(6); clock <= 11; clock++ {
			wantRightFlow(t, clock, flowOf(clock, orderOf(5, orLate, 7, ended)), ended == 8 && clock >= 8)
		}
	}
	wantRightFlow(t, "the last one that can be late", flowOf(lastTick, orderOf(5, orLate, lastTick-1, lastTick)), true)
	wantRightFlow(t, "above Clock", flowOf(lastTick-1, orderOf(5, orLate, lastTick-1, lastTick)), false)
	wantRightFlow(t, "a Due of MaxClock", flowOf(lastTick, orderOf(5, orLate, lastTick, lastTick+1)), false)
}

// One order that is not right, at each place, makes the flow so.
func TestOneWrongOrder(t *testing.T) {
	for k := range richFlow().Orders {
		for _, spoil := range []func(o *impl.Order){
			func(o *impl.Order) { o.State = 6 },
			func(o *impl.Order) { o.Due = 0 },
			func(o *impl.Order) { o.Ended = 11 },
			func(o *impl.Order) { o.Ended = -1 },
			func(o *impl.Order) { o.Id = -1 },
		} {
			f := richFlow()
			spoil(&f.Orders[k])
			wantRightFlow(t, k, f, false)
		}
	}
}

func TestKindsOfActs(t *testing.T) {
	for _, kind := range append(numbersAround(1, 5), 257, 1<<32+5) {
		if kind >= 1 && kind <= 5 {
			continue
		}
		for _, id := range []int64{-1, 10, 15, 30, lastId + 1} {
			for _, due := range []int64{0, 20} {
				wantNotActed(t, richFlow(), actOf(kind, id, due), flAct)
				wantNotActed(t, flowOf(0), actOf(kind, id, due), flAct)
			}
		}
		// Ahead of what is full, also at the last tick.
		wantNotActed(t, flowOf(lastTick, manyOrders(500, lastTick)...), actOf(kind, 1, lastTick), flAct)
	}
}

// A flow that is not right comes ahead of all else.
func TestActsOnWrongFlows(t *testing.T) {
	wrong := []impl.Flow{flowOf(-1), flowOf(lastTick + 1), flowOf(5, manyOrders(501, 8)...), flowOf(9, manyOrders(500, 8)...), flowOf(0, orderOf(5, 0, 5, 0)), flowOf(mostInt), flowOf(leastInt)}
	for _, f := range wrong {
		for _, kind := range []int64{leastInt, 0, 1, 2, 3, 4, 5, 6, mostInt} {
			for _, id := range []int64{-1, 0, 1, 5, lastId + 1} {
				wantZeroFlow(t, "wrong", f, actOf(kind, id, 7))
				wantZeroFlow(t, "wrong", f, actOf(kind, id, 0))
			}
		}
	}
}

func TestNewOrders(t *testing.T) {
	f := flowOf(10, orderOf(5, orNew, 12, 0), orderOf(8, orDone, 12, 3))
	wantActed(t, f, actOf(actNew, 0, 11), flowOf(10, orderOf(0, orNew, 11, 0), f.Orders[0], f.Orders[1]))
	wantActed(t, f, actOf(actNew, 4, 10), flowOf(10, orderOf(4, orNew, 10, 0), f.Orders[0], f.Orders[1]))
	wantActed(t, f, actOf(actNew, 6, lastTick), flowOf(10, f.Orders[0], orderOf(6, orNew, lastTick, 0), f.Orders[1]))
	wantActed(t, f, actOf(actNew, 7, 13), flowOf(10, f.Orders[0], orderOf(7, orNew, 13, 0), f.Orders[1]))
	wantActed(t, f, actOf(actNew, 9, 11), flowOf(10, f.Orders[0], f.Orders[1], orderOf(9, orNew, 11, 0)))
	wantActed(t, f, actOf(actNew, lastId, 10), flowOf(10, f.Orders[0], f.Orders[1], orderOf(lastId, orNew, 10, 0)))
	wantActed(t, flowOf(0), actOf(actNew, 3, 1), flowOf(0, orderOf(3, orNew, 1, 0)))
	wantActed(t, flowOf(1), actOf(actNew, 3, 1), flowOf(1, orderOf(3, orNew, 1, 0)))
	wantActed(t, flowOf(lastTick), actOf(actNew, 3, lastTick), flowOf(lastTick, orderOf(3, orNew, lastTick, 0)))
	for _, o := range richFlow().Orders {
		wantNotActed(t, richFlow(), actOf(actNew, o.Id, 20), flThere)
		wantNotActed(t, richFlow(), actOf(actNew, o.Id, lastTick+1), flAct)
	}
}

func TestLimitsOfNewOrders(t *testing.T) {
	for _, id := range numbersAround(0, lastId) {
		a := actOf(actNew, id, 12)
		if id >= 0 && id <= lastId {
			wantActed(t, flowOf(10), a, flowOf(10, orderOf(id, orNew, 12, 0)))
		} else {
			wantNotActed(t, flowOf(10), a, flAct)
			wantNotActed(t, richFlow(), a, flAct)
		}
	}
	for _, clock := range []int64{0, 1, 2, 10, lastTick - 1, lastTick} {
		for _, due := range append(numbersAround(1, lastTick), numbersAround(clock, clock+1)...) {
			a := actOf(actNew, 3, due)
			if due >= 1 && due <= lastTick && due >= clock {
				wantActed(t, flowOf(clock), a, flowOf(clock, orderOf(3, orNew, due, 0)))
			} else {
				wantNotActed(t, flowOf(clock), a, flAct)
			}
		}
	}
}

func TestFullFlows(t *testing.T) {
	almost := flowOf(7, manyOrders(499, 8)...)
	after, code := doAct(t, almost, actOf(actNew, 501, 7))
	wantNumber(t, "with 499", code, 0)
	wantNumber(t, "with 499", int64(len(after.Orders)), 500)
	full := flowOf(7, manyOrders(500, 8)...)
	wantNotActed(t, full, actOf(actNew, 501, 7), flFull)
	wantNotActed(t, full, actOf(actNew, 5000, 8), flFull)
	// Ahead of an Id that there is, behind what is out of range.
	wantNotActed(t, full, actOf(actNew, 500, 7), flFull)
	wantNotActed(t, almost, actOf(actNew, 500, 7), flThere)
	for _, a := range []impl.Act{actOf(actNew, -1, 7), actOf(actNew, lastId+1, 7), actOf(actNew, 501, 6), actOf(actNew, 501, 0), actOf(actNew, 500, lastTick+1)} {
		wantNotActed(t, full, a, flAct)
	}
	// Ended ones take room as well; and a full flow goes on with what it has.
	for k := range full.Orders {
		full.Orders[k].State = orDropped
	}
	wantNotActed(t, full, actOf(actNew, 501, 7), flFull)
	full.Orders[250].State = orBegun
	want := cloneFlow(full)
	want.Orders[250] = orderOf(500, orDone, 8, 7)
	wantActed(t, full, actOf(actDone, 500, 0), want)
	wantNotActed(t, full, actOf(actDone, 501, 0), flNone)
	want = cloneFlow(full)
	want.Clock = 8
	wantActed(t, full, actOf(actTick, 0, 0), want)
}

// Each act on an order in each state, with whatever Due.
func TestActsOnEachState(t *testing.T) {
	f := flowOf(6, orderOf(1, orNew, 9, 0), orderOf(2, orBegun, 9, 0), orderOf(3, orDone, 9, 4), orderOf(4, orDropped, 9, 5), orderOf(5, orLate, 4, 5))
	with := func(o impl.Order) impl.Flow {
		out := cloneFlow(f)
		out.Orders[o.Id-1] = o
		return out
	}
	for _, due := range []int64{0, 9, -5, leastInt, mostInt} {
		wantActed(t, f, actOf(actBegin, 1, due), with(orderOf(1, orBegun, 9, 0)))
		wantNotActed(t, f, actOf(actBegin, 2, due), flOrder)
		wantNotActed(t, f, actOf(actDone, 1, due), flOrder)
		wantActed(t, f, actOf(actDone, 2, due), with(orderOf(2, orDone, 9, 6)))
		wantActed(t, f, actOf(actDrop, 1, due), with(orderOf(1, orDropped, 9, 6)))
		wantActed(t, f, actOf(actDrop, 2, due), with(orderOf(2, orDropped, 9, 6)))
		for id := int64(3); id <= 5; id++ {
			for _, kind := range []int64{actBegin, actDone, actDrop} {
				wantNotActed(t, f, actOf(kind, id, due), flEnded)
			}
		}
		for _, kind := range []int64{actBegin, actDone, actDrop} {
			for _, id := range []int64{leastInt, -1, 0, 6, lastId, lastId + 1, 1<<32 + 1, mostInt} {
				wantNotActed(t, f, actOf(kind, id, due), flNone)
				wantNotActed(t, flowOf(6), actOf(kind, id, due), flNone)
			}
		}
	}
	// At 0, and at the tick of its Due.
	wantActed(t, flowOf(0, orderOf(0, orBegun, 1, 0)), actOf(actDone, 0, 0), flowOf(0, orderOf(0, orDone, 1, 0)))
	wantActed(t, flowOf(0, orderOf(0, orNew, 1, 0)), actOf(actDrop, 0, 0), flowOf(0, orderOf(0, orDropped, 1, 0)))
	wantActed(t, flowOf(9, orderOf(lastId, orBegun, 9, 0)), actOf(actDone, lastId, 0), flowOf(9, orderOf(lastId, orDone, 9, 9)))
	wantActed(t, flowOf(lastTick, orderOf(7, orBegun, lastTick, 0)), actOf(actDone, 7, 0), flowOf(lastTick, orderOf(7, orDone, lastTick, lastTick)))
}

// One that ended at 0 has an Ended of 0 and has ended all the same.
func TestOrdersEndedAtNought(t *testing.T) {
	f := flowOf(0, orderOf(1, orDone, 5, 0), orderOf(2, orDropped, 5, 0))
	for id := int64(1); id <= 2; id++ {
		for _, kind := range []int64{actBegin, actDone, actDrop} {
			wantNotActed(t, f, actOf(kind, id, 5), flEnded)
		}
		wantNotActed(t, f, actOf(actNew, id, 5), flThere)
	}
	want := cloneFlow(f)
	want.Clock = 1
	wantActed(t, f, actOf(actTick, 1, 5), want)
}

func TestTicksOfFlows(t *testing.T) {
	wantActed(t, flowOf(0), actOf(actTick, 0, 0), flowOf(1))
	wantActed(t, flowOf(lastTick-1), actOf(actTick, 0, 0), flowOf(lastTick))
	wantNotActed(t, flowOf(lastTick), actOf(actTick, 0, 0), flFull)
	wantNotActed(t, flowOf(lastTick, orderOf(5, orNew, lastTick, 0)), actOf(actTick, 5, 0), flFull)
	// Neither Id nor Due is asked.
	for _, id := range []int64{leastInt, -1, 10, 15, lastId + 1, mostInt} {
		wantActed(t, flowOf(4), actOf(actTick, id, id), flowOf(5))
	}
	for _, state := range []int64{orNew, orBegun} {
		wantActed(t, flowOf(7, orderOf(3, state, 7, 0)), actOf(actTick, 0, 0), flowOf(8, orderOf(3, orLate, 7, 8)))
		wantActed(t, flowOf(7, orderOf(3, state, 8, 0)), actOf(actTick, 0, 0), flowOf(8, orderOf(3, state, 8, 0)))
		wantActed(t, flowOf(7, orderOf(3, state, 9, 0)), actOf(actTick, 0, 0), flowOf(8, orderOf(3, state, 9, 0)))
		wantActed(t, flowOf(lastTick-1, orderOf(3, state, lastTick-1, 0)), actOf(actTick, 0, 0), flowOf(lastTick, orderOf(3, orLate, lastTick-1, lastTick)))
	}
	want := richFlow()
	want.Clock = 11
	want.Orders[0], want.Orders[1] = orderOf(10, orLate, 10, 11), orderOf(20, orLate, 10, 11)
	wantActed(t, richFlow(), actOf(actTick, 0, 0), want)
	want.Clock = 12
	want.Orders[5], want.Orders[6] = orderOf(60, orLate, 11, 12), orderOf(70, orLate, 11, 12)
	next, _ := doAct(t, richFlow(), actOf(actTick, 0, 0))
	wantActed(t, next, actOf(actTick, 0, 0), want)
	// All of 500 at once.
	want = flowOf(9, manyOrders(500, 8)...)
	for k := range want.Orders {
		want.Orders[k].State, want.Orders[k].Ended = orLate, 9
	}
	wantActed(t, flowOf(8, manyOrders(500, 8)...), actOf(actTick, 0, 0), want)
}

// Every act that an Id, a Due and a kind near the limits make, on flows of all sorts.
func TestCodesPlainly(t *testing.T) {
	flows := []impl.Flow{{}, richFlow(), flowOf(lastTick), flowOf(7, manyOrders(499, 9)...), flowOf(7, manyOrders(500, 9)...), flowOf(lastTick, manyOrders(500, lastTick)...), flowOf(-1), flowOf(11, manyOrders(500, 10)...)}
	times := map[int64]int{}
	for _, f := range flows {
		for kind := int64(-1); kind <= 7; kind++ {
			for _, id := range []int64{-1, 0, 1, 10, 15, 20, 30, 50, 998, 999, lastId, lastId + 1} {
				for _, due := range []int64{-1, 0, 1, 6, 7, 9, 10, 11, lastTick - 1, lastTick, lastTick + 1} {
					_, code := doAct(t, f, actOf(kind, id, due))
					times[code]++
				}
			}
		}
	}
	for code := range int64(8) {
		if times[code] < 20 {
			t.Error("one-sided", code, times[code])
		}
	}
}

func TestPlayedActs(t *testing.T) {
	f, codes := playActs(t, "no act", nil)
	wantFlow(t, "no act", f, impl.Flow{})
	wantLists(t, "no act", codes, nil)
	acts := []impl.Act{
		actOf(actNew, 9, 2), actOf(actNew, 9, 2), actOf(actNew, 4, 1), actOf(actBegin, 9, 0), actOf(0, 0, 0), actOf(actDone, 4, 0), actOf(actTick, 0, 0),
		actOf(actTick, 0, 0), actOf(actDone, 4, 0), actOf(actDone, 9, 0), actOf(actDrop, 9, 0), actOf(actNew, 5, 1), actOf(actNew, 5, 2), actOf(actDrop, 6, 0), actOf(actTick, 0, 0),
	}
	f, codes = playActs(t, "some acts", acts)
	wantLists(t, "some acts", codes, []int64{0, flThere, 0, 0, flAct, flOrder, 0, 0, flEnded, 0, flEnded, flAct, 0, flNone, 0})
	wantFlow(t, "some acts", f, flowOf(3, orderOf(4, orLate, 1, 2), orderOf(5, orLate, 2, 3), orderOf(9, orDone, 2, 2)))
}

func TestPlayedLimits(t *testing.T) {
	ticks := slices.Repeat([]impl.Act{actOf(actTick, 0, 0)}, 2001)
	f, codes := playActs(t, "2000 ticks", ticks[:2000])
	wantFlow(t, "2000 ticks", f, flowOf(2000))
	wantLists(t, "2000 ticks", codes, alike(0, 2000))
	f, codes = playActs(t, "2001 ticks", ticks)
	wantFlow(t, "2001 ticks", f, impl.Flow{})
	wantLists(t, "2001 ticks", codes, nil)
	_, codes = playActs(t, "2000 that are refused", make([]impl.Act, 2000))
	wantLists(t, "2000 that are refused", codes, alike(flAct, 2000))
	_, codes = playActs(t, "2001 that are refused", make([]impl.Act, 2001))
	wantLists(t, "2001 that are refused", codes, nil)
	_, codes = playActs(t, "far more", make([]impl.Act, 1<<16))
	wantLists(t, "far more", codes, nil)

	// 500 orders and one more, with Ids that fall; then all are begun and done.
	var acts []impl.Act
	for id := int64(500); id >= 0; id-- {
		acts = append(acts, actOf(actNew, id, 3))
	}
	for id := range int64(501) {
		acts = append(acts, actOf(actBegin, id, 0))
	}
	for id := range int64(501) {
		acts = append(acts, actOf(actDone, id, 0))
	}
	f, codes = playActs(t, "full", acts)
	want := slices.Concat(alike(0, 500), alike(flFull, 1), alike(flNone, 1), alike(0, 500), alike(flNone, 1), alike(0, 500))
	wantLists(t, "full", codes, want)
	wantNumber(t, "full", int64(len(f.Orders)), 500)
}

// someAct is one that flows of few Ids will often do.
func (m *mixer) someAct(clock int64) impl.Act {
	a := actOf(m.pick(1, 5), m.pick(0, 12)*3, clock+m.pick(0, 4))
	if a.Kind == actTick && m.pick(0, 1) == 0 {
		a.Kind = actNew
	}
	if m.pick(0, 20) == 0 {
		a = actOf(m.pick(-1, 7), m.pick(-2, lastId+2), m.pick(-1, clock+1))
	}
	return a
}

// Whatever is done, what has ended never changes again, and no order is open behind its Due: doAct asks that of every step.
func TestFlowsStepByStep(t *testing.T) {
	m := mixer(264)
	times, states := map[int64]int{}, map[int64]int{}
	for round := range 150 {
		var f impl.Flow
		var acts []impl.Act
		var codes []int64
		for range 100 {
			a := m.someAct(f.Clock)
			was := f
			var code int64
			f, code = doAct(t, f, a)
			if code != 0 && !sameFlow(was, f) {
				t.Error("refused and changed", a)
			}
			acts, codes = append(acts, a), append(codes, code)
			times[code]++
		}
		played, playedCodes := playActs(t, round, acts)
		wantFlow(t, round, played, f)
		wantLists(t, round, playedCodes, codes)
		for _, o := range f.Orders {
			states[o.State]++
		}
	}
	for _, code := range []int64{0, flAct, flThere, flNone, flEnded, flOrder} {
		if times[code] < 100 {
			t.Error("one-sided", code, times[code])
		}
	}
	for state := int64(1); state <= 5; state++ {
		if states[state] < 20 {
			t.Error("one-sided", "state", state, states[state])
		}
	}
}

// Long plays in which many orders come and end, with 500 of them at last.
func TestLongPlays(t *testing.T) {
	m := mixer(265)
	full := 0
	for round := range 6 {
		var acts []impl.Act
		clock := int64(0)
		for range 2000 {
			a := actOf(m.pick(1, 4), m.pick(0, 700), clock+m.pick(0, 30))
			if m.pick(0, 3) > 0 {
				a.Kind = actNew
			}
			if m.pick(0, 50) == 0 {
				a.Kind = actTick
				clock++
			}
			acts = append(acts, a)
		}
		f, codes := playActs(t, round, acts)
		wantRightFlow(t, round, f, true)
		if len(f.Orders) == 500 && slices.Contains(codes, flFull) {
			full++
		}
	}
	if full < 4 {
		t.Error("one-sided", full)
	}
}

// What has ended is the same behind every act that there is, and behind ticks up to the last one.
func TestEndedStaysEnded(t *testing.T) {
	ended := []impl.Order{orderOf(30, orDone, 12, 10), orderOf(40, orDropped, 3, 0), orderOf(50, orLate, 9, 10), orderOf(60, orDone, 10, 0), orderOf(70, orDropped, 10, 10)}
	f := flowOf(10, ended...)
	for kind := int64(-1); kind <= 7; kind++ {
		for _, o := range ended {
			for due := int64(-1); due <= 13; due++ {
				got, _ := doAct(t, f, actOf(kind, o.Id, due))
				if !slices.Equal(got.Orders, ended) {
					t.Error(kind, o, due, briefFlow(got))
				}
			}
		}
	}
	for clock := int64(lastTick - 5); clock <= lastTick; clock++ {
		got, _ := doAct(t, flowOf(clock, ended...), actOf(actTick, 0, 0))
		if !slices.Equal(got.Orders, ended) {
			t.Error(clock, briefFlow(got))
		}
	}
}
