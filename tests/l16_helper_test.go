package tests

import (
	"cmp"
	"fmt"
	"maps"
	"slices"
	"testing"

	"loop.example/g00050/impl"
)

// What may be seen, roles, consents and answers, as the document numbers them.
const (
	seeImage, seeName, seeCount = 1, 2, 3
	treat, reader, study        = 1, 2, 4
	conImage, conStudy          = 1, 2
	mayNo, mayYes, mayTold      = 0, 1, 2
)

// The states of orders, the kinds of acts and the codes, as the document numbers them.
const (
	orNew, orBegun, orDone, orDropped, orLate      = 1, 2, 3, 4, 5
	actNew, actBegin, actDone, actDrop, actTick    = 1, 2, 3, 4, 5
	flBad, flAct, flFull, flThere, flNone, flEnded = 1, 2, 3, 4, 5, 6
	flOrder                                        = 7
	lastTick                                       = 1000000000
	lastId                                         = 1000000
)

func personOf(id, roles, ward int64) impl.Person {
	return impl.Person{Id: id, Roles: roles, Ward: ward}
}

func patientOf(id, ward, group, consent int64) impl.Patient {
	return impl.Patient{Id: id, Ward: ward, Group: group, Consent: consent}
}

func askOf(person, patient, kind int64, broken bool) impl.Ask {
	return impl.Ask{Person: person, Patient: patient, Kind: kind, Broken: broken}
}

func queryOf(wards, groups int64) impl.Query { return impl.Query{Wards: wards, Groups: groups} }

func orderOf(id, state, due, ended int64) impl.Order {
	return impl.Order{Id: id, State: state, Due: due, Ended: ended}
}

func flowOf(clock int64, orders ...impl.Order) impl.Flow {
	return impl.Flow{Clock: clock, Orders: orders}
}

func actOf(kind, id, due int64) impl.Act { return impl.Act{Kind: kind, Id: id, Due: due} }

func isPlainPerson(p impl.Person) bool {
	return liesFrom(p.Id, 0, 1000000) && liesFrom(p.Roles, 0, 7) && liesFrom(p.Ward, 0, 7)
}

func isPlainPatient(q impl.Patient) bool {
	return liesFrom(q.Id, 0, 1000000) && liesFrom(q.Ward, 0, 7) && liesFrom(q.Group, 0, 7) && liesFrom(q.Consent, 0, 3)
}

// plainMay goes through the document's lines from the last to the first, so that the first has the last word.
func plainMay(p impl.Person, q impl.Patient, kind int64, broken bool) int64 {
	if !isPlainPerson(p) || !isPlainPatient(q) || !liesFrom(kind, 1, 3) {
		return 0
	}
	treats, reads, studies := p.Roles%2 == 1, p.Roles/2%2 == 1, p.Roles/4 == 1
	answer := int64(0)
	if studies && kind == 3 && q.Consent/2 == 1 {
		answer = 1
	}
	if reads && kind == 1 && q.Consent%2 == 1 {
		answer = 1
	}
	if treats && broken && kind < 3 {
		answer = 2
	}
	if treats && p.Ward == q.Ward {
		answer = 1
	}
	return answer
}

func wantMay(t *testing.T, p impl.Person, q impl.Patient, kind int64, broken bool, want int64) {
	t.Helper()
	what := []any{"person", p, "patient", q, "kind", kind, "broken", broken}
	wantNumber(t, what, impl.May(p, q, kind, broken), want)
	wantNumber(t, []any{"the test's own reckoning", what}, plainMay(p, q, kind, broken), want)
}

// plainRounds goes through both lists from their ends, so that the first of an Id has the last word.
func plainRounds(people []impl.Person, patients []impl.Patient, asks []impl.Ask) ([]int64, []impl.Ask) {
	if len(people) > 200 || len(patients) > 200 || len(asks) > 4096 {
		return nil, nil
	}
	persons := map[int64]impl.Person{}
	for _, p := range slices.Backward(people) {
		persons[p.Id] = p
	}
	sick := map[int64]impl.Patient{}
	for _, q := range slices.Backward(patients) {
		sick[q.Id] = q
	}
	var codes []int64
	var told []impl.Ask
	for _, a := range asks {
		p, someone := persons[a.Person]
		q, somebody := sick[a.Patient]
		code := int64(0)
		if someone && somebody {
			code = plainMay(p, q, a.Kind, a.Broken)
		}
		codes = append(codes, code)
		if code == 2 {
			told = append(told, a)
		}
	}
	return codes, told
}

func briefAsks(asks []impl.Ask) string {
	return fmt.Sprint(len(asks), asks[:min(len(asks), 20)])
}

func wantAsks(t *testing.T, what any, got, want []impl.Ask) {
	t.Helper()
	if !slices.Equal(got, want) {
		t.Errorf("%v: %s, want %s", what, briefAsks(got), briefAsks(want))
	}
}

// makeRounds asks Rounds, and holds both answers against the test's own reckoning.
func makeRounds(t *testing.T, what any, people []impl.Person, patients []impl.Patient, asks []impl.Ask) ([]int64, []impl.Ask) {
	t.Helper()
	codes, told := impl.Rounds(people, patients, asks)
	wantCodes, wantTold := plainRounds(people, patients, asks)
	wantLists(t, what, codes, wantCodes)
	wantAsks(t, what, told, wantTold)
	return codes, told
}

// wantRounds asks for these codes, and for the asks with these numbers as those that were told.
func wantRounds(t *testing.T, what any, people []impl.Person, patients []impl.Patient, asks []impl.Ask, codes []int64, told ...int) {
	t.Helper()
	gotCodes, gotTold := makeRounds(t, what, people, patients, asks)
	var want []impl.Ask
	for _, number := range told {
		want = append(want, asks[number])
	}
	wantLists(t, what, gotCodes, codes)
	wantAsks(t, what, gotTold, want)
}

// plainCells says with its second answer whether the patients are not refused.
func plainCells(patients []impl.Patient) ([]int64, bool) {
	times := map[int64]int{}
	for _, q := range patients {
		times[q.Id]++
		if times[q.Id] > 1 || !isPlainPatient(q) {
			return nil, false
		}
	}
	if len(patients) > 200 {
		return nil, false
	}
	var cells []int64
	for ward := range int64(8) {
		for group := range int64(8) {
			count := int64(0)
			for _, q := range patients {
				if q.Ward == ward && q.Group == group && q.Consent >= 2 {
					count++
				}
			}
			cells = append(cells, count)
		}
	}
	return cells, true
}

// digitOf is bit number place of a number from 0 on.
func digitOf(number int64, place int) int64 {
	for range place {
		number /= 2
	}
	return number % 2
}

func plainCount(patients []impl.Patient, q impl.Query, least int64) int64 {
	cells, ok := plainCells(patients)
	if !ok || !liesFrom(q.Wards, 0, 255) || !liesFrom(q.Groups, 0, 255) || !liesFrom(least, 1, 200) {
		return -1
	}
	sum := int64(0)
	for ward := range 8 {
		for group := range 8 {
			if count := cells[8*ward+group]; count >= least {
				sum += count * digitOf(q.Wards, ward) * digitOf(q.Groups, group)
			}
		}
	}
	return sum
}

// wantCells asks for cells told in pairs, of a number and a count; all others are 0.
func wantCells(t *testing.T, what any, patients []impl.Patient, pairs ...int64) {
	t.Helper()
	want := make([]int64, 64)
	for k := 0; k < len(pairs); k += 2 {
		want[pairs[k]] = pairs[k+1]
	}
	wantLists(t, what, impl.Cells(patients), want)
	own, _ := plainCells(patients)
	wantLists(t, []any{"the test's own reckoning", what}, own, want)
}

// wantNoCells asks for nothing, and that nothing is counted.
func wantNoCells(t *testing.T, what any, patients []impl.Patient) {
	t.Helper()
	wantLists(t, what, impl.Cells(patients), nil)
	for _, q := range []impl.Query{queryOf(255, 255), queryOf(0, 0), queryOf(1, 2)} {
		wantCount(t, what, patients, q, 1, -1)
		wantCount(t, what, patients, q, 200, -1)
	}
}

func wantCount(t *testing.T, what any, patients []impl.Patient, q impl.Query, least, want int64) {
	t.Helper()
	what = []any{what, q, "least", least}
	wantNumber(t, what, impl.Count(patients, q, least), want)
	wantNumber(t, []any{"the test's own reckoning", what}, plainCount(patients, q, least), want)
}

// inCell are so many patients of one cell with ConStudy, with Ids from first on.
func inCell(first int64, cell, count int64) []impl.Patient {
	var list []impl.Patient
	for k := range count {
		list = append(list, patientOf(first+k, cell/8, cell%8, conStudy+k%2))
	}
	return list
}

// isPlainOrder asks of one order what a right flow asks of it, with nothing added that might wrap round.
func isPlainOrder(o impl.Order, clock int64) bool {
	if !liesFrom(o.Id, 0, 1000000) || !liesFrom(o.Due, 1, 1000000000) {
		return false
	}
	if o.State == 1 || o.State == 2 {
		return o.Ended == 0 && !(o.Due < clock)
	}
	if o.State == 3 || o.State == 4 {
		return o.Ended >= 0 && o.Ended <= o.Due && o.Ended <= clock
	}
	return o.State == 5 && o.Ended == 1+o.Due && o.Ended <= clock
}

func plainFlowOk(f impl.Flow) bool {
	for k, o := range f.Orders {
		if !isPlainOrder(o, f.Clock) {
			return false
		}
		for _, ahead := range f.Orders[:min(k, 501)] {
			if ahead.Id >= o.Id {
				return false
			}
		}
	}
	return len(f.Orders) <= 500 && liesFrom(f.Clock, 0, 1000000000)
}

// plainFlowDo keeps the orders by their Ids.
func plainFlowDo(f impl.Flow, a impl.Act) (impl.Flow, int64) {
	if !plainFlowOk(f) {
		return impl.Flow{}, 1
	}
	orders := map[int64]impl.Order{}
	for _, o := range f.Orders {
		orders[o.Id] = o
	}
	code := plainCode(f, orders, a)
	if code > 0 {
		return cloneFlow(f), code
	}
	out := impl.Flow{Clock: f.Clock}
	o := orders[a.Id]
	switch a.Kind {
	case 1:
		orders[a.Id] = orderOf(a.Id, 1, a.Due, 0)
	case 2:
		orders[a.Id] = orderOf(a.Id, 2, o.Due, 0)
	case 3, 4:
		orders[a.Id] = orderOf(a.Id, a.Kind, o.Due, f.Clock)
	case 5:
		out.Clock++
		for id, o := range orders {
			if o.State < 3 && o.Due < out.Clock {
				orders[id] = orderOf(id, 5, o.Due, out.Clock)
			}
		}
	}
	for _, id := range slices.Sorted(maps.Keys(orders)) {
		out.Orders = append(out.Orders, orders[id])
	}
	return out, 0
}

// plainCode asks the document's lines one by one.
func plainCode(f impl.Flow, orders map[int64]impl.Order, a impl.Act) int64 {
	o, there := orders[a.Id]
	isNew, isTick := a.Kind == 1, a.Kind == 5
	switch {
	case a.Kind < 1 || a.Kind > 5, isNew && (a.Id < 0 || a.Id > 1000000 || a.Due < 1 || a.Due > 1000000000 || a.Due < f.Clock):
		return 2
	case isNew && len(f.Orders) == 500, isTick && f.Clock == 1000000000:
		return 3
	case isTick:
		return 0
	case isNew && there:
		return 4
	case !isNew && !there:
		return 5
	case there && o.State > 2:
		return 6
	case a.Kind == 2 && o.State == 2, a.Kind == 3 && o.State == 1:
		return 7
	}
	return 0
}

func cloneFlow(f impl.Flow) impl.Flow {
	return impl.Flow{Clock: f.Clock, Orders: slices.Clone(f.Orders)}
}

func sameFlow(a, b impl.Flow) bool {
	return a.Clock == b.Clock && slices.Equal(a.Orders, b.Orders)
}

func briefFlow(f impl.Flow) string {
	return fmt.Sprint("clock ", f.Clock, ", ", len(f.Orders), " orders ", f.Orders[:min(len(f.Orders), 20)])
}

func wantFlow(t *testing.T, what any, got, want impl.Flow) {
	t.Helper()
	if !sameFlow(got, want) {
		t.Errorf("%v:\n%s\nwant\n%s", what, briefFlow(got), briefFlow(want))
	}
}

func wantRightFlow(t *testing.T, what any, f impl.Flow, want bool) {
	t.Helper()
	wantAnswer(t, []any{what, briefFlow(f)}, impl.FlowOk(f), want)
	wantAnswer(t, []any{"the test's own reckoning", what}, plainFlowOk(f), want)
	if !want {
		for kind := range int64(7) {
			wantZeroFlow(t, what, f, actOf(kind, 5, lastTick))
		}
	}
}

// wantZeroFlow asks for the zero Flow and FlBad.
func wantZeroFlow(t *testing.T, what any, f impl.Flow, a impl.Act) {
	t.Helper()
	got, code := doAct(t, f, a)
	wantNumber(t, []any{what, a}, code, flBad)
	wantFlow(t, []any{what, a}, got, impl.Flow{})
}

// doAct does an act, holds all of it against the test's own reckoning, and asks what is promised of every step.
func doAct(t *testing.T, f impl.Flow, a impl.Act) (impl.Flow, int64) {
	t.Helper()
	was := cloneFlow(f)
	got, code := impl.FlowDo(f, a)
	want, wantCode := plainFlowDo(was, a)
	wantNumber(t, []any{a, briefFlow(was)}, code, wantCode)
	wantFlow(t, a, got, want)
	wantFlow(t, "what was handed in", f, was)
	if plainFlowOk(was) {
		wantPromisedStep(t, a, was, got)
	}
	return got, code
}

// wantPromisedStep asks that what has ended stays, that none is open behind its Due, and that none is lost.
func wantPromisedStep(t *testing.T, what any, was, now impl.Flow) {
	t.Helper()
	if !impl.FlowOk(now) {
		t.Errorf("%v leaves what is not right: %s", what, briefFlow(now))
	}
	for _, o := range was.Orders {
		place, found := slices.BinarySearchFunc(now.Orders, o, func(a, b impl.Order) int { return cmp.Compare(a.Id, b.Id) })
		if !found || o.State >= 3 && now.Orders[place] != o {
			t.Errorf("%v: %v changes in %s", what, o, briefFlow(now))
		}
	}
	for _, o := range now.Orders {
		if o.State < 3 && o.Due < now.Clock {
			t.Errorf("%v: %v is open at %d", what, o, now.Clock)
		}
	}
}

// wantActed asks for an act that is done, with that flow behind it.
func wantActed(t *testing.T, f impl.Flow, a impl.Act, want impl.Flow) {
	t.Helper()
	got, code := doAct(t, f, a)
	wantNumber(t, []any{a, briefFlow(f)}, code, 0)
	wantFlow(t, a, got, want)
}

// wantNotActed asks for a code, and for the flow as it came.
func wantNotActed(t *testing.T, f impl.Flow, a impl.Act, want int64) {
	t.Helper()
	got, code := doAct(t, f, a)
	wantNumber(t, []any{a, briefFlow(f)}, code, want)
	wantFlow(t, a, got, f)
}

// manyOrders are so many new orders with even Ids from 0 on, all with that Due.
func manyOrders(count int, due int64) []impl.Order {
	var list []impl.Order
	for k := range int64(count) {
		list = append(list, orderOf(2*k, orNew, due, 0))
	}
	return list
}

// richFlow has orders in all states, with room for Ids between them.
func richFlow() impl.Flow {
	return flowOf(10,
		orderOf(10, orNew, 10, 0), orderOf(20, orBegun, 10, 0), orderOf(30, orDone, 12, 10), orderOf(40, orDropped, 3, 0), orderOf(50, orLate, 9, 10),
		orderOf(60, orNew, 11, 0), orderOf(70, orBegun, 11, 0), orderOf(80, orLate, 1, 2), orderOf(90, orDone, 1, 1), orderOf(lastId, orBegun, lastTick, 0))
}

func plainPlay(acts []impl.Act) (impl.Flow, []int64) {
	if len(acts) > 2000 {
		return impl.Flow{}, nil
	}
	var f impl.Flow
	var codes []int64
	for _, a := range acts {
		var code int64
		f, code = plainFlowDo(f, a)
		codes = append(codes, code)
	}
	return f, codes
}

// playActs asks FlowPlay, and holds all of it against the test's own reckoning.
func playActs(t *testing.T, what any, acts []impl.Act) (impl.Flow, []int64) {
	t.Helper()
	f, codes := impl.FlowPlay(acts)
	want, wantList := plainPlay(acts)
	wantFlow(t, what, f, want)
	wantLists(t, what, codes, wantList)
	return f, codes
}
