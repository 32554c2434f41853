package tests

import (
	"fmt"
	"testing"

	"loop.example/g00050/impl"
)

// numbersAround are those next to both ends of a range, and such as have the same low bits.
func numbersAround(least, most int64) []int64 {
	return []int64{leastInt, leastInt + 1, least - 1<<32, least - most - 1, least - 1, least, least + 1, most - 1, most, most + 1, most + 2, 2 * most, 1<<32 + least, 1<<32 + most, 1 << 62, mostInt - 1, mostInt}
}

// yesIf is MayYes where it holds.
func yesIf(holds bool) int64 {
	if holds {
		return mayYes
	}
	return mayNo
}

func TestIdsThatMay(t *testing.T) {
	for _, id := range numbersAround(0, 1000000) {
		want := yesIf(id >= 0 && id <= 1000000)
		for kind := int64(1); kind <= 3; kind++ {
			wantMay(t, personOf(id, treat, 3), patientOf(5, 3, 2, 0), kind, false, want)
			wantMay(t, personOf(5, treat, 3), patientOf(id, 3, 2, 0), kind, true, want)
			wantMay(t, personOf(id, treat, 3), patientOf(id, 3, 2, 0), kind, false, want)
		}
		wantMay(t, personOf(id, treat, 2), patientOf(5, 3, 2, 0), seeName, true, 2*want)
		wantMay(t, personOf(5, reader, 2), patientOf(id, 3, 2, conImage), seeImage, true, want)
		wantMay(t, personOf(id, study, 2), patientOf(5, 3, 2, conStudy), seeCount, false, want)
	}
}

// Every number beyond the sums has bits that look like roles; none of these counts.
func TestRolesThatMay(t *testing.T) {
	for _, roles := range append(numbersAround(0, 7), 9, 10, 11, 12, 13, 14, 15, 16, 17, 23, -7, -8) {
		isSum := roles >= 0 && roles <= 7
		p, here, there := personOf(5, roles, 3), patientOf(6, 3, 2, 3), patientOf(6, 4, 2, 3)
		wantMay(t, p, here, seeName, false, yesIf(isSum && roles&1 == 1))
		wantMay(t, p, there, seeName, true, 2*yesIf(isSum && roles&1 == 1))
		wantMay(t, p, there, seeImage, false, yesIf(isSum && roles&2 == 2))
		wantMay(t, p, there, seeCount, false, yesIf(isSum && roles&4 == 4))
	}
}

func TestWardsThatMay(t *testing.T) {
	for _, ward := range numbersAround(0, 7) {
		isWard := ward >= 0 && ward <= 7
		// In another ward, or in none: what is asked of both is asked of each.
		wantMay(t, personOf(5, reader+study, ward), patientOf(6, 3, 2, 3), seeImage, false, yesIf(isWard))
		wantMay(t, personOf(5, reader+study, 3), patientOf(6, ward, 2, 3), seeCount, false, yesIf(isWard))
		wantMay(t, personOf(5, treat, ward), patientOf(6, ward, 2, 3), seeName, true, yesIf(isWard))
		want := 2 * yesIf(isWard)
		if ward == 4 {
			want = mayYes
		}
		wantMay(t, personOf(5, treat, ward), patientOf(6, 4, 2, 3), seeName, true, want)
		wantMay(t, personOf(5, treat, 4), patientOf(6, ward, 2, 3), seeImage, true, want)
	}
}

func TestGroupsAndConsentsThatMay(t *testing.T) {
	for _, group := range numbersAround(0, 7) {
		for _, ward := range []int64{3, 4} {
			wantMay(t, personOf(5, 7, ward), patientOf(6, 3, group, 3), seeCount, false, yesIf(group >= 0 && group <= 7))
		}
	}
	for _, consent := range append(numbersAround(0, 3), 5, 6, 7, 8) {
		isSum := consent >= 0 && consent <= 3
		q := patientOf(6, 3, 2, consent)
		wantMay(t, personOf(5, treat, 3), q, seeName, false, yesIf(isSum))
		wantMay(t, personOf(5, treat, 4), q, seeName, true, 2*yesIf(isSum))
		wantMay(t, personOf(5, reader, 3), q, seeImage, false, yesIf(isSum && consent&1 == 1))
		wantMay(t, personOf(5, study, 3), q, seeCount, false, yesIf(isSum && consent&2 == 2))
	}
}

func TestKindsThatMay(t *testing.T) {
	for _, kind := range append(numbersAround(1, 3), 5, 7, 257, -3) {
		isKind := kind >= 1 && kind <= 3
		for _, broken := range []bool{false, true} {
			wantMay(t, personOf(5, 7, 3), patientOf(6, 3, 2, 3), kind, broken, yesIf(isKind))
			wantMay(t, personOf(5, treat, 3), patientOf(6, 3, 2, 0), kind, broken, yesIf(isKind))
			wantMay(t, personOf(5, reader, 3), patientOf(6, 3, 2, 3), kind, broken, yesIf(kind == seeImage))
			wantMay(t, personOf(5, study, 3), patientOf(6, 3, 2, 3), kind, broken, yesIf(kind == seeCount))
		}
		wantMay(t, personOf(5, treat, 4), patientOf(6, 3, 2, 3), kind, true, 2*yesIf(kind == seeImage || kind == seeName))
	}
}

// The answers of every sum of roles and consents, written out: a row for each sum of roles, and in it for each kind a text of four signs, for consents of 0 to 3.
func TestEverySumOfRoles(t *testing.T) {
	type row [3]string
	apart := [8]row{
		{"0000", "0000", "0000"}, {"0000", "0000", "0000"}, {"0101", "0000", "0000"}, {"0101", "0000", "0000"},
		{"0000", "0000", "0011"}, {"0000", "0000", "0011"}, {"0101", "0000", "0011"}, {"0101", "0000", "0011"},
	}
	together := [8]row{
		{"0000", "0000", "0000"}, {"1111", "1111", "1111"}, {"0101", "0000", "0000"}, {"1111", "1111", "1111"},
		{"0000", "0000", "0011"}, {"1111", "1111", "1111"}, {"0101", "0000", "0011"}, {"1111", "1111", "1111"},
	}
	broken := [8]row{
		{"0000", "0000", "0000"}, {"2222", "2222", "0000"}, {"0101", "0000", "0000"}, {"2222", "2222", "0000"},
		{"0000", "0000", "0011"}, {"2222", "2222", "0011"}, {"0101", "0000", "0011"}, {"2222", "2222", "0011"},
	}
	for roles := range int64(8) {
		for kind := int64(1); kind <= 3; kind++ {
			for consent := range int64(4) {
				want := func(table [8]row) int64 { return int64(table[roles][kind-1][consent] - '0') }
				for ward := range int64(8) {
					q := patientOf(consent, ward, 7-ward, consent)
					wantMay(t, personOf(1, roles, ward), q, kind, false, want(together))
					wantMay(t, personOf(1, roles, ward), q, kind, true, want(together))
					wantMay(t, personOf(1, roles, 7-ward), q, kind, false, want(apart))
					wantMay(t, personOf(1, roles, 7-ward), q, kind, true, want(broken))
				}
			}
		}
	}
}

// The first that applies, also where a later one would answer otherwise.
func TestFirstThatApplies(t *testing.T) {
	q := patientOf(6, 3, 2, conImage)
	wantMay(t, personOf(5, treat+reader, 4), q, seeImage, true, mayTold)
	wantMay(t, personOf(5, treat+reader, 4), q, seeImage, false, mayYes)
	wantMay(t, personOf(5, treat+reader, 3), q, seeImage, true, mayYes)
	wantMay(t, personOf(5, treat+reader, 4), q, seeName, true, mayTold)
	wantMay(t, personOf(5, treat+reader, 4), q, seeName, false, mayNo)
	wantMay(t, personOf(5, treat, 4), q, seeCount, true, mayNo)
	wantMay(t, personOf(5, treat, 3), q, seeCount, true, mayYes)
	wantMay(t, personOf(5, treat+study, 4), patientOf(6, 3, 2, conStudy), seeCount, true, mayYes)
	wantMay(t, personOf(5, study, 3), patientOf(6, 3, 2, 3), seeImage, true, mayNo)
	wantMay(t, personOf(5, reader, 3), patientOf(6, 3, 2, 3), seeName, true, mayNo)
	wantMay(t, personOf(5, reader, 3), patientOf(6, 3, 2, conStudy), seeImage, true, mayNo)
	wantMay(t, personOf(5, study, 3), patientOf(6, 3, 2, conImage), seeCount, true, mayNo)
	wantMay(t, personOf(5, 0, 3), patientOf(6, 3, 2, 3), seeImage, true, mayNo)
	wantMay(t, impl.Person{}, impl.Patient{}, 0, false, mayNo)
}

func peopleOf(count int) []impl.Person {
	var list []impl.Person
	for k := range int64(count) {
		list = append(list, personOf(1000+k, k%8, k/8%8))
	}
	return list
}

func patientsOf(count int) []impl.Patient {
	var list []impl.Patient
	for k := range int64(count) {
		list = append(list, patientOf(2000+k, k%8, k/8%8, k/3%4))
	}
	return list
}

func TestRoundsInOrder(t *testing.T) {
	people := []impl.Person{personOf(1, treat, 0), personOf(2, reader, 0), personOf(3, study, 0), personOf(4, treat, 1)}
	patients := []impl.Patient{patientOf(1, 0, 0, 3), patientOf(2, 1, 0, 0), patientOf(3, 2, 0, conImage)}
	told := askOf(1, 2, seeImage, true)
	asks := []impl.Ask{
		askOf(1, 1, seeName, false), told, askOf(2, 1, seeImage, false), askOf(2, 2, seeImage, true), askOf(4, 1, seeName, true),
		told, askOf(3, 1, seeCount, true), askOf(1, 2, seeCount, true), askOf(4, 2, seeCount, false), askOf(1, 3, seeName, true), askOf(1, 2, seeImage, false),
	}
	wantRounds(t, "in order", people, patients, asks, []int64{1, 2, 1, 0, 2, 2, 1, 0, 1, 2, 0}, 1, 4, 5, 9)
	wantRounds(t, "one ask twice", people, patients, []impl.Ask{told, told, told}, []int64{2, 2, 2}, 0, 1, 2)
	wantRounds(t, "none told", people, patients, asks[:1], []int64{1})
	// Kinds that are none, and at both ends.
	for _, kind := range []int64{leastInt, -1, 0, 4, 257, mostInt} {
		wantRounds(t, kind, people, patients, []impl.Ask{askOf(1, 1, kind, true), told, askOf(1, 2, kind, true)}, []int64{0, 2, 0}, 1)
	}
}

func TestRoundsOfNobody(t *testing.T) {
	people, patients := []impl.Person{personOf(7, 7, 0)}, []impl.Patient{patientOf(8, 0, 0, 3)}
	wantRounds(t, "no one at all", nil, nil, nil, nil)
	wantRounds(t, "no ask", people, patients, nil, nil)
	asks := []impl.Ask{askOf(7, 8, seeName, true), askOf(8, 7, seeName, true), askOf(7, 7, seeName, true), askOf(8, 8, seeName, true), askOf(0, 0, seeName, true), askOf(-1, -1, seeName, true)}
	wantRounds(t, "one that there is", people, patients, asks, []int64{1, 0, 0, 0, 0, 0})
	wantRounds(t, "no person", nil, patients, asks, alike(0, 6))
	wantRounds(t, "no patient", people, nil, asks, alike(0, 6))
	wantRounds(t, "neither", nil, nil, asks, alike(0, 6))
	// An Id that is none, also of one who has it.
	for _, id := range []int64{leastInt, -1, 1000001, mostInt} {
		asks := []impl.Ask{askOf(id, 8, seeName, true), askOf(7, id, seeName, true), askOf(7, 8, seeName, true)}
		wantRounds(t, id, append(people, personOf(id, 7, 0)), append(patients, patientOf(id, 0, 0, 3)), asks, []int64{0, 0, 1})
	}
	for _, id := range []int64{0, 1000000} {
		asks := []impl.Ask{askOf(id, id, seeName, true), askOf(id, 8, seeImage, true), askOf(7, id, seeImage, true)}
		wantRounds(t, id, []impl.Person{personOf(7, 7, 0), personOf(id, treat, 1)}, []impl.Patient{patientOf(8, 0, 0, 0), patientOf(id, 2, 0, 0)}, asks, []int64{2, 2, 2}, 0, 1, 2)
	}
}

func TestFirstOfAnId(t *testing.T) {
	ask := []impl.Ask{askOf(7, 8, seeImage, true)}
	may, mayNot := personOf(7, treat, 3), personOf(7, 0, 3)
	wrong := []impl.Person{personOf(7, 8, 3), personOf(7, 15, 3), personOf(7, -1, 3), personOf(7, treat, 8), personOf(7, treat, -1)}
	q := []impl.Patient{patientOf(8, 3, 2, 3)}
	wantRounds(t, "may, may not", []impl.Person{may, mayNot}, q, ask, []int64{1})
	wantRounds(t, "may not, may", []impl.Person{mayNot, may}, q, ask, []int64{0})
	wantRounds(t, "told, may", []impl.Person{personOf(7, treat, 4), may, mayNot}, q, ask, []int64{2}, 0)
	for _, p := range wrong {
		wantRounds(t, p, []impl.Person{p, may}, q, ask, []int64{0})
		wantRounds(t, p, []impl.Person{may, p}, q, ask, []int64{1})
		wantRounds(t, p, []impl.Person{personOf(6, 0, 0), p, may, may}, q, ask, []int64{0})
	}
	p := []impl.Person{may}
	here, there := patientOf(8, 3, 2, 3), patientOf(8, 4, 2, 3)
	wantRounds(t, "here, there", p, []impl.Patient{here, there}, ask, []int64{1})
	wantRounds(t, "there, here", p, []impl.Patient{there, here}, ask, []int64{2}, 0)
	for _, none := range []impl.Patient{patientOf(8, 8, 2, 3), patientOf(8, -1, 2, 3), patientOf(8, 3, 8, 3), patientOf(8, 3, -1, 3), patientOf(8, 3, 2, 4), patientOf(8, 3, 2, -1)} {
		wantRounds(t, none, p, []impl.Patient{none, here, there}, ask, []int64{0})
		wantRounds(t, none, p, []impl.Patient{here, none, there}, ask, []int64{1})
		wantRounds(t, none, p, []impl.Patient{patientOf(9, 3, 2, 3), there, none, here}, ask, []int64{2}, 0)
	}
	// One who is not as told hinders nobody else.
	wantRounds(t, "others", append(wrong, personOf(70, treat, 3)), q, []impl.Ask{askOf(7, 8, 1, true), askOf(70, 8, 1, true)}, []int64{0, 1})
}

func TestLimitsOfRounds(t *testing.T) {
	ask := []impl.Ask{askOf(1199, 2199, seeName, true), askOf(1007, 2199, seeName, true), askOf(1200, 2199, seeName, true), askOf(1001, 2200, seeImage, true)}
	people, patients := peopleOf(201), patientsOf(201)
	people[199] = personOf(1199, treat, 7)
	wantRounds(t, "200 and 200", people[:200], patients[:200], ask, []int64{1, 2, 0, 0}, 1)
	wantRounds(t, "201 people", people, patients[:200], ask, nil)
	wantRounds(t, "201 patients", people[:200], patients, ask, nil)
	wantRounds(t, "201 and 201", people, patients, ask, nil)
	wantRounds(t, "201 people, no ask", people, nil, nil, nil)
	wantRounds(t, "201 patients, no ask", nil, patients, nil, nil)
	wantRounds(t, "far more people", peopleOf(5000), patients[:200], ask, nil)
	wantRounds(t, "far more patients", people[:200], patientsOf(5000), ask, nil)
	for _, count := range []int{4095, 4096, 4097, 5000, 1 << 16} {
		var asks []impl.Ask
		for k := range int64(count) {
			asks = append(asks, askOf(1000+k%203, 2000+k/7%203, k%5, k%3 > 0))
		}
		codes, told := makeRounds(t, count, people[:200], patients[:200], asks)
		if count > 4096 && len(codes)+len(told) > 0 {
			t.Error("not refused", count)
		}
		if count <= 4096 && (len(codes) != count || len(told) < 200) {
			t.Error("one-sided", count, len(told))
		}
	}
	// All told, in order, though they are told apart by their persons alone.
	var asks []impl.Ask
	var all []int
	for k := range 4096 {
		asks = append(asks, askOf(int64(k*77%200), 5, seeName, true))
		all = append(all, k)
	}
	var nurses []impl.Person
	for k := range int64(200) {
		nurses = append(nurses, personOf(k, treat+k%4*2, 1+k%7))
	}
	wantRounds(t, "all told", nurses, []impl.Patient{patientOf(5, 0, 0, 0)}, asks, alike(2, 4096), all...)
}

// nearly is a number of a range, now and then one that is next to it.
func (m *mixer) nearly(least, most int64) int64 {
	if m.pick(0, 15) == 0 {
		return least - 1 + m.pick(0, 1)*(most-least+2)
	}
	return m.pick(least, most)
}

// Rounds of all sorts, with people and patients of which some are not as told or stand twice.
func TestRoundsPlainly(t *testing.T) {
	m := mixer(260)
	var times [3]int
	for round := range 1000 {
		var people []impl.Person
		for range m.pick(0, 30) {
			people = append(people, personOf(m.pick(-1, 8), m.nearly(0, 7), m.nearly(0, 7)%3))
		}
		var patients []impl.Patient
		for range m.pick(0, 30) {
			patients = append(patients, patientOf(m.pick(-1, 8), m.nearly(0, 7)%3, m.nearly(0, 7), m.nearly(0, 3)))
		}
		var asks []impl.Ask
		for range m.pick(0, 100) {
			asks = append(asks, askOf(m.pick(-1, 9), m.pick(-1, 9), m.pick(0, 4), m.pick(0, 1) == 0))
		}
		codes, _ := makeRounds(t, fmt.Sprint("round ", round), people, patients, asks)
		for _, code := range codes {
			times[code]++
		}
	}
	for code, count := range times {
		if count < 500 {
			t.Error("one-sided", code, count)
		}
	}
}

func TestWardConstants(t *testing.T) {
	for _, c := range []struct {
		what string
		got  []int64
		want []int64
	}{
		{"limits", []int64{impl.MaxPeople, impl.MaxFlow, impl.MaxActs}, []int64{200, 500, 2000}},
		{"roles", []int64{impl.RlTreat, impl.RlRead, impl.RlStudy}, []int64{1, 2, 4}},
		{"consents", []int64{impl.ConImage, impl.ConStudy}, []int64{1, 2}},
		{"kinds", []int64{impl.SeeImage, impl.SeeName, impl.SeeCount}, []int64{1, 2, 3}},
		{"answers", []int64{impl.MayNo, impl.MayYes, impl.MayTold}, []int64{0, 1, 2}},
		{"states", []int64{impl.OrNew, impl.OrBegun, impl.OrDone, impl.OrDropped, impl.OrLate}, []int64{1, 2, 3, 4, 5}},
		{"acts", []int64{impl.ActNew, impl.ActBegin, impl.ActDone, impl.ActDrop, impl.ActTick}, []int64{1, 2, 3, 4, 5}},
		{"codes", []int64{impl.FlBad, impl.FlAct, impl.FlFull, impl.FlThere, impl.FlNone, impl.FlEnded, impl.FlOrder}, []int64{1, 2, 3, 4, 5, 6, 7}},
	} {
		wantLists(t, c.what, c.got, c.want)
	}
}
