package tests

import (
	"fmt"
	"slices"
	"sync"
	"testing"

	"loop.example/g00050/impl"
)

var (
	roomPerson  = impl.Person{Id: 7, Roles: 7, Ward: 3}
	roomPatient = impl.Patient{Id: 8, Ward: 3, Group: 3, Consent: 3}
	roomAsk     = impl.Ask{Person: 7, Patient: 8, Kind: 2, Broken: true}
	roomOrder   = impl.Order{Id: 777777, State: 1, Due: 77, Ended: 7}
	roomAct     = impl.Act{Kind: 1, Id: 77, Due: 77}
)

// roundsToAsk are people, patients and asks of all sorts, also such as are refused.
type roundsToAsk struct {
	people   []impl.Person
	patients []impl.Patient
	asks     []impl.Ask
}

func someRounds() []roundsToAsk {
	var asks []impl.Ask
	for k := range int64(4097) {
		asks = append(asks, askOf(1000+k%203, 2000+k/7%203, k%5, k%3 > 0))
	}
	people, patients := peopleOf(201), patientsOf(201)
	return []roundsToAsk{
		{nil, nil, nil},
		{people[:3], patients[:3], nil},
		{people[:30], patients[:30], asks[:200]},
		{people[:200], patients[:200], asks[:4096]},
		{people, patients[:200], asks[:300]},
		{people[:200], patients, asks[:300]},
		{people[:200], patients[:200], asks},
		{nil, nil, asks[:20]},
		{[]impl.Person{personOf(1, treat, 0)}, []impl.Patient{patientOf(1, 1, 0, 0)}, slices.Repeat([]impl.Ask{askOf(1, 1, seeName, true)}, 500)},
	}
}

func TestRoundsAreNewMemory(t *testing.T) {
	for i, ask := range someRounds() {
		wantCodes, wantTold := plainRounds(ask.people, ask.patients, ask.asks)
		people, patients, asks := roomy(ask.people, roomPerson), roomy(ask.patients, roomPatient), roomy(ask.asks, roomAsk)
		wantArguments := func() {
			t.Helper()
			if !stays(people, ask.people, roomPerson) || !stays(patients, ask.patients, roomPatient) || !stays(asks, ask.asks, roomAsk) {
				t.Error(i, "an argument changes")
			}
		}
		codes, told := impl.Rounds(people, patients, asks)
		again, toldAgain := impl.Rounds(people, patients, asks)
		wantArguments()
		fillWith(codes, -5)
		wantAsks(t, i, told, wantTold)
		fillWith(told, impl.Ask{Person: -6})
		wantArguments()
		fillWith(people, impl.Person{Id: -7})
		fillWith(patients, impl.Patient{Id: -8})
		fillWith(asks, impl.Ask{Person: -9})
		wantLists(t, i, again, wantCodes)
		wantAsks(t, i, toldAgain, wantTold)
	}
}

func patientsToAsk() [][]impl.Patient {
	m := mixer(266)
	return [][]impl.Patient{nil, inCell(5, 37, 1), inCell(900, 12, 200), m.somePatients(150, 20), m.somePatients(200, 64), append(inCell(5, 37, 3), patientOf(5, 0, 0, 0)), inCell(5, 37, 201), {patientOf(900, 8, 0, 0), patientOf(4, 0, 0, 2)}}
}

func TestCellsAreNewMemory(t *testing.T) {
	for i, was := range patientsToAsk() {
		cells, _ := plainCells(was)
		list := roomy(was, roomPatient)
		one, other := impl.Cells(list), impl.Cells(list)
		count := impl.Count(list, queryOf(255, 255), 2)
		wantNumber(t, i, count, plainCount(was, queryOf(255, 255), 2))
		if !stays(list, was, roomPatient) {
			t.Error(i, "an argument changes")
		}
		fillWith(one, -5)
		fillWith(list, impl.Patient{Id: -6})
		wantLists(t, i, other, cells)
	}
}

// flowsToAsk are flows of all sorts, and actsToAsk acts that are done and that are refused.
func flowsToAsk() []impl.Flow {
	wrong := richFlow()
	wrong.Orders[3].Ended = 4
	return []impl.Flow{{}, richFlow(), wrong, flowOf(7, manyOrders(499, 8)...), flowOf(8, manyOrders(500, 8)...), flowOf(8, manyOrders(501, 8)...), flowOf(lastTick, manyOrders(3, lastTick)...), flowOf(-1), flowOf(12)}
}

func actsToAsk() []impl.Act {
	return []impl.Act{{}, actOf(6, 10, 20), actOf(actNew, 0, 20), actOf(actNew, 15, 20), actOf(actNew, 999999, lastTick), actOf(actNew, 10, 20), actOf(actNew, -1, 20), actOf(actNew, 15, 1), actOf(actBegin, 10, 0), actOf(actBegin, 20, 0), actOf(actBegin, 30, 0), actOf(actDone, 20, 0), actOf(actDone, 10, 0), actOf(actDrop, 10, 0), actOf(actDrop, 20, 0), actOf(actDrop, 11, 0), actOf(actTick, 0, 0)}
}

func TestFlowsAreNewMemory(t *testing.T) {
	for i, was := range flowsToAsk() {
		for _, a := range actsToAsk() {
			what := []any{i, a}
			want, wantCode := plainFlowDo(was, a)
			f := impl.Flow{Clock: was.Clock, Orders: roomy(was.Orders, roomOrder)}
			first, code := impl.FlowDo(f, a)
			second, _ := impl.FlowDo(f, a)
			wantNumber(t, what, code, wantCode)
			wantFlow(t, what, first, want)
			if !stays(f.Orders, was.Orders, roomOrder) {
				t.Error(what, "an argument changes")
			}
			// Nothing that one call answers is another one's or the argument's.
			fillWith(first.Orders, impl.Order{Id: -5})
			if !stays(f.Orders, was.Orders, roomOrder) {
				t.Error(what, "shared with an argument")
			}
			fillWith(f.Orders, impl.Order{Id: -6})
			wantFlow(t, what, second, want)
		}
		f := impl.Flow{Clock: was.Clock, Orders: roomy(was.Orders, roomOrder)}
		wantAnswer(t, i, impl.FlowOk(f), plainFlowOk(was))
		if !stays(f.Orders, was.Orders, roomOrder) {
			t.Error(i, "an argument changes")
		}
	}
}

func TestPlaysAreNewMemory(t *testing.T) {
	for _, count := range []int{0, 1, 17, 170, 2000, 2001} {
		was := slices.Repeat(actsToAsk(), 200)[:count]
		want, wantList := plainPlay(was)
		acts := roomy(was, roomAct)
		first, codes := impl.FlowPlay(acts)
		second, again := impl.FlowPlay(acts)
		if !stays(acts, was, roomAct) {
			t.Error(count, "an argument changes")
		}
		fillWith(codes, -5)
		wantFlow(t, count, first, want)
		fillWith(first.Orders, impl.Order{Id: -6})
		if !stays(acts, was, roomAct) {
			t.Error(count, "shared with an argument")
		}
		fillWith(acts, impl.Act{Kind: -7})
		wantFlow(t, count, second, want)
		wantLists(t, count, again, wantList)
	}
}

// What lies behind a list's length is neither read nor handed out.
func TestWardBehindTheLength(t *testing.T) {
	people := []impl.Person{personOf(1, treat, 0), personOf(2, treat, 0), personOf(3, 8, 0)}
	patients := []impl.Patient{patientOf(1, 0, 0, conStudy), patientOf(2, 0, 0, conStudy), patientOf(1, 9, 0, 3)}
	asks := []impl.Ask{askOf(1, 1, seeName, true), askOf(2, 1, seeName, true), askOf(1, 2, seeName, true)}
	wantRounds(t, "people", people[:1], patients[:2], asks, []int64{1, 0, 1})
	wantRounds(t, "patients", people[:2], patients[:1], asks, []int64{1, 1, 0})
	wantRounds(t, "asks", people[:2], patients[:2], asks[:2], []int64{1, 1})
	wantRounds(t, "none", people[:0], patients[:0], asks[:0], nil)
	wantCells(t, "two", patients[:2], 0, 2)
	wantCells(t, "one", patients[:1], 0, 1)
	wantCount(t, "one", patients[:1], queryOf(255, 255), 1, 1)
	wantNoCells(t, "three", patients)

	orders := []impl.Order{orderOf(1, orNew, 5, 0), orderOf(3, orNew, 4, 0), orderOf(3, 9, 4, 0)}
	wantRightFlow(t, "two", flowOf(4, orders[:2]...), true)
	wantRightFlow(t, "three", flowOf(4, orders...), false)
	one := impl.Flow{Clock: 4, Orders: orders[:1]}
	wantNotActed(t, one, actOf(actBegin, 3, 0), flNone)
	wantActed(t, one, actOf(actNew, 3, 9), flowOf(4, orderOf(1, orNew, 5, 0), orderOf(3, orNew, 9, 0)))
	wantActed(t, one, actOf(actTick, 3, 9), flowOf(5, orderOf(1, orNew, 5, 0)))
	if orders[1] != orderOf(3, orNew, 4, 0) || orders[2] != orderOf(3, 9, 4, 0) {
		t.Error("what is behind changes", orders)
	}
	acts := []impl.Act{actOf(actTick, 0, 0), actOf(actNew, 5, 5)}
	f, codes := playActs(t, "one act", acts[:1])
	wantFlow(t, "one act", f, flowOf(1))
	wantLists(t, "one act", codes, []int64{0})
}

// Two calls with the same arguments answer the same, whatever was asked between them and is asked meanwhile.
func TestWardAskedAgain(t *testing.T) {
	rounds, lists, flows, acts := someRounds(), patientsToAsk(), flowsToAsk(), actsToAsk()
	askAgain := func(worker int) {
		for k := range 40 {
			k = k*7 + worker*5
			ask := rounds[k%len(rounds)]
			makeRounds(t, []any{"rounds", k}, ask.people, ask.patients, ask.asks)
			list := lists[k%len(lists)]
			wantNumber(t, []any{"count", k}, impl.Count(list, queryOf(255, 255), 2), plainCount(list, queryOf(255, 255), 2))
			doAct(t, flows[k%len(flows)], acts[k%len(acts)])
			playActs(t, []any{"play", k}, acts)
			q := roomPatient
			q.Ward = int64(k % 8)
			wantNumber(t, []any{"may", k}, impl.May(roomPerson, q, int64(k%5), k%2 == 0), plainMay(roomPerson, q, int64(k%5), k%2 == 0))
		}
	}
	askAgain(0)
	var group sync.WaitGroup
	for worker := range 8 {
		group.Add(1)
		go func() {
			defer group.Done()
			askAgain(worker)
		}()
	}
	group.Wait()
}

// How those who answer run never shows: the same rounds, again and again.
func TestRoundsAlwaysAlike(t *testing.T) {
	asks := someRounds()[3]
	codes, told := makeRounds(t, "first", asks.people, asks.patients, asks.asks)
	for k := range 60 {
		codesAgain, toldAgain := impl.Rounds(asks.people, asks.patients, asks.asks)
		wantLists(t, k, codesAgain, codes)
		wantAsks(t, k, toldAgain, told)
	}
}

func TestNoGoroutineIsLeftInTheWard(t *testing.T) {
	wantNoneLeft(t, func() {
		for _, ask := range someRounds() {
			impl.Rounds(ask.people, ask.patients, ask.asks)
		}
	})
}

func TestWardKeepsNothing(t *testing.T) {
	wantNothingKept(t, "l16_ward.go")
}

func TestWardNeverPanics(t *testing.T) {
	m := mixer(267)
	wild := []int64{leastInt, leastInt + 1, -1 << 32, -65, -8, -2, -1, 0, 1, 2, 3, 4, 5, 6, 7, 8, 9, 63, 64, 199, 200, 201, 255, 256, 500, 999999, lastId, lastId + 1, lastTick - 1, lastTick, lastTick + 1, 1 << 31, 1 << 32, 1 << 62, mostInt - 1, mostInt}
	pick := func() int64 {
		if m.pick(0, 2) > 0 {
			return m.pick(0, 8)
		}
		return wild[m.pick(0, int64(len(wild)-1))]
	}
	for range 20000 {
		var people []impl.Person
		var patients []impl.Patient
		var asks []impl.Ask
		var acts []impl.Act
		f := impl.Flow{Clock: pick()}
		for range m.pick(0, 4) {
			people = append(people, personOf(pick(), pick(), pick()))
			patients = append(patients, patientOf(pick(), pick(), pick(), pick()))
			asks = append(asks, askOf(pick(), pick(), pick(), m.pick(0, 1) == 0))
			acts = append(acts, actOf(pick(), pick(), pick()))
			f.Orders = append(f.Orders, orderOf(pick(), pick(), pick(), pick()))
		}
		askWard(t, people, patients, asks, queryOf(pick(), pick()), pick())
		askFlow(t, f, actOf(pick(), pick(), pick()), acts)
	}
	askWard(t, make([]impl.Person, 1<<16), make([]impl.Patient, 1<<16), make([]impl.Ask, 1<<16), queryOf(255, 255), 1)
	askWard(t, make([]impl.Person, 200), make([]impl.Patient, 200), make([]impl.Ask, 4096), queryOf(255, 255), 1)
	askFlow(t, flowOf(0, make([]impl.Order, 1<<16)...), actOf(actTick, 0, 0), make([]impl.Act, 1<<16))
}

func askWard(t *testing.T, people []impl.Person, patients []impl.Patient, asks []impl.Ask, q impl.Query, least int64) {
	t.Helper()
	what := fmt.Sprint(len(people), " people, ", patients[:min(len(patients), 5)], ", ", briefAsks(asks), q, least)
	defer wantNoPanic(t, what)
	makeRounds(t, what, people, patients, asks)
	cells, _ := plainCells(patients)
	wantLists(t, what, impl.Cells(patients), cells)
	wantNumber(t, what, impl.Count(patients, q, least), plainCount(patients, q, least))
	for k := range min(len(people), len(patients), len(asks), 5) {
		wantNumber(t, what, impl.May(people[k], patients[k], asks[k].Kind, asks[k].Broken), plainMay(people[k], patients[k], asks[k].Kind, asks[k].Broken))
	}
}

func askFlow(t *testing.T, f impl.Flow, a impl.Act, acts []impl.Act) {
	t.Helper()
	defer wantNoPanic(t, []any{briefFlow(f), a})
	wantAnswer(t, briefFlow(f), impl.FlowOk(f), plainFlowOk(f))
	doAct(t, f, a)
	playActs(t, acts[:min(len(acts), 5)], acts)
}
