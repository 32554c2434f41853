package tests

import (
	"slices"
	"testing"

	"loop.example/g00050/impl"
)

func TestCellsOfFew(t *testing.T) {
	wantCells(t, "no patient", nil)
	wantCells(t, "one in the first cell", []impl.Patient{patientOf(0, 0, 0, conStudy)}, 0, 1)
	wantCells(t, "one in the last cell", []impl.Patient{patientOf(1000000, 7, 7, 3)}, 63, 1)
	wantCells(t, "ward ahead of group", []impl.Patient{patientOf(1, 1, 0, 2), patientOf(2, 0, 1, 2), patientOf(3, 0, 1, 3)}, 8, 1, 1, 2)
	wantCells(t, "those alone who consent", []impl.Patient{patientOf(1, 5, 6, 0), patientOf(2, 5, 6, conImage), patientOf(3, 5, 6, conStudy), patientOf(4, 5, 6, 3)}, 46, 2)
	wantCells(t, "none who consents", []impl.Patient{patientOf(1, 5, 6, 0), patientOf(2, 5, 6, conImage)})
	wantCells(t, "Ids that fall", []impl.Patient{patientOf(9, 0, 0, 2), patientOf(8, 0, 0, 2), patientOf(7, 0, 1, 2)}, 0, 2, 1, 1)
}

func TestEachCell(t *testing.T) {
	for ward := range int64(8) {
		for group := range int64(8) {
			cell := 8*ward + group
			wantCells(t, cell, []impl.Patient{patientOf(5, ward, group, conStudy), patientOf(6, ward, group, conImage)}, cell, 1)
			list := inCell(100, cell, 3)
			wantCells(t, cell, append(list, patientOf(5, ward, 7-group, conStudy)), cell, 3, 8*ward+7-group, 1)
			// The query of this cell, of its ward without its group, of its group without its ward.
			wards, groups := int64(1)<<ward, int64(1)<<group
			wantCount(t, cell, list, queryOf(wards, groups), 3, 3)
			wantCount(t, cell, list, queryOf(wards, 255-groups), 1, 0)
			wantCount(t, cell, list, queryOf(255-wards, groups), 1, 0)
			wantCount(t, cell, list, queryOf(255, groups), 1, 3)
			wantCount(t, cell, list, queryOf(wards, 255), 1, 3)
		}
	}
}

func TestCellsOfMany(t *testing.T) {
	all := inCell(1000, 37, 201)
	wantCells(t, "200", all[:200], 37, 200)
	wantCells(t, "199", all[:199], 37, 199)
	wantNoCells(t, "201", all)
	wantNoCells(t, "far more", inCell(1000, 37, 5000))
	// Who does not consent counts among the patients all the same.
	silent := slices.Clone(all)
	for i := range silent {
		silent[i].Consent = 0
	}
	wantCells(t, "200 who do not consent", silent[:200])
	wantNoCells(t, "201 who do not consent", silent)
}

func TestCellsOfPatientsNotAsTold(t *testing.T) {
	right := func(id int64) impl.Patient { return patientOf(id, 3, 2, 3) }
	refused := func(what any, q impl.Patient, ok bool) {
		t.Helper()
		for place := range 3 {
			list := slices.Insert([]impl.Patient{right(500), right(501)}, place, q)
			if ok {
				cells, _ := plainCells(list)
				wantLists(t, what, impl.Cells(list), cells)
				wantNumber(t, what, impl.Count(list, queryOf(255, 255), 1), 2+q.Consent/2)
			} else {
				wantNoCells(t, what, list)
			}
		}
	}
	for _, id := range numbersAround(0, 1000000) {
		refused([]any{"id", id}, right(id), id >= 0 && id <= 1000000)
	}
	for _, n := range numbersAround(0, 7) {
		refused([]any{"ward", n}, patientOf(5, n, 2, 3), n >= 0 && n <= 7)
		refused([]any{"group", n}, patientOf(5, 3, n, 3), n >= 0 && n <= 7)
		// Also of one that would not be counted.
		refused([]any{"ward", n}, patientOf(5, n, 2, 0), n >= 0 && n <= 7)
		refused([]any{"group", n}, patientOf(5, 3, n, conImage), n >= 0 && n <= 7)
	}
	for _, n := range append(numbersAround(0, 3), 6, 7) {
		refused([]any{"consent", n}, patientOf(5, 3, 2, n), n >= 0 && n <= 3)
	}
}

func TestCellsOfOneIdTwice(t *testing.T) {
	wantNoCells(t, "the same patient twice", []impl.Patient{patientOf(5, 3, 2, 3), patientOf(5, 3, 2, 3)})
	wantNoCells(t, "none of the two consents", []impl.Patient{patientOf(5, 3, 2, 0), patientOf(5, 4, 1, 0)})
	wantNoCells(t, "apart", []impl.Patient{patientOf(5, 3, 2, 3), patientOf(9, 3, 2, 3), patientOf(1, 3, 2, 3), patientOf(5, 0, 0, 0)})
	wantNoCells(t, "of 0", []impl.Patient{{}, {}})
	list := inCell(0, 5, 200)
	for _, pair := range [][2]int{{0, 1}, {0, 199}, {198, 199}, {100, 50}} {
		twice := slices.Clone(list)
		twice[pair[0]].Id = twice[pair[1]].Id
		wantNoCells(t, pair, twice)
	}
}

func TestLeastOfCount(t *testing.T) {
	list := slices.Concat(inCell(0, 9, 5), inCell(100, 10, 4), inCell(200, 18, 1))
	all := queryOf(255, 255)
	for least, want := range []int64{-1, 10, 9, 9, 9, 5, 0, 0} {
		wantCount(t, "cells of 5, 4 and 1", list, all, int64(least), want)
	}
	for _, least := range append(numbersAround(1, 200), 100) {
		want := int64(0)
		if least < 1 || least > 200 {
			want = -1
		} else if least == 1 {
			want = 10
		} else if least == 2 {
			want = 9
		}
		wantCount(t, "limits", list, all, least, want)
	}
	// A cell of just least is told, one of one less is not; and one of 200.
	for least := int64(1); least <= 200; least++ {
		wantCount(t, "just least", inCell(0, 20, least), all, least, least)
		wantCount(t, "one less", inCell(0, 20, least-1), all, least, 0)
	}
	// It is the cell that must have least, not the sum.
	wantCount(t, "two cells below", slices.Concat(inCell(0, 1, 4), inCell(100, 2, 4)), all, 5, 0)
	wantCount(t, "no patient", nil, all, 1, 0)
	wantCount(t, "no patient", nil, all, 201, -1)
	wantCount(t, "no patient", nil, all, 0, -1)
}

func TestQueriesOfCount(t *testing.T) {
	list := slices.Concat(inCell(0, 0, 3), inCell(100, 63, 4), inCell(200, 7, 2), inCell(300, 56, 1))
	wantCount(t, "no ward", list, queryOf(0, 255), 1, 0)
	wantCount(t, "no group", list, queryOf(255, 0), 1, 0)
	wantCount(t, "neither", list, queryOf(0, 0), 1, 0)
	wantCount(t, "all", list, queryOf(255, 255), 1, 10)
	wantCount(t, "the first ward", list, queryOf(1, 255), 1, 5)
	wantCount(t, "the last ward", list, queryOf(128, 255), 1, 5)
	wantCount(t, "the first group", list, queryOf(255, 1), 1, 4)
	wantCount(t, "the last group", list, queryOf(255, 128), 1, 6)
	wantCount(t, "corners", list, queryOf(129, 129), 2, 9)
	wantCount(t, "all but the corners", list, queryOf(126, 126), 1, 0)
	for _, n := range numbersAround(0, 255) {
		ok := n >= 0 && n <= 255
		for _, other := range []int64{0, 255} {
			if ok {
				wantNumber(t, n, impl.Count(list, queryOf(n, other), 1), plainCount(list, queryOf(n, other), 1))
				wantNumber(t, n, impl.Count(list, queryOf(other, n), 1), plainCount(list, queryOf(other, n), 1))
			} else {
				wantCount(t, "wards", list, queryOf(n, other), 1, -1)
				wantCount(t, "groups", list, queryOf(other, n), 1, -1)
			}
		}
	}
	wantCount(t, "what Cells refuses", append(list, patientOf(0, 0, 0, 0)), queryOf(255, 255), 1, -1)
}

// somePatients are right ones, in few cells.
func (m *mixer) somePatients(count, cells int64) []impl.Patient {
	var list []impl.Patient
	for k := range count {
		cell := m.pick(0, cells-1) * 11 % 64
		list = append(list, patientOf(k*4999%1000001, cell/8, cell%8, m.pick(0, 3)))
	}
	return list
}

func (m *mixer) someQuery() impl.Query { return queryOf(m.pick(0, 255), m.pick(0, 255)) }

func TestCountPlainly(t *testing.T) {
	m := mixer(261)
	above := 0
	for range 300 {
		list := m.somePatients(m.pick(0, 200), m.pick(1, 64))
		cells, _ := plainCells(list)
		wantLists(t, "cells", impl.Cells(list), cells)
		for range 20 {
			q, least := m.someQuery(), m.pick(1, 12)
			got := impl.Count(list, q, least)
			wantNumber(t, []any{q, least}, got, plainCount(list, q, least))
			if got > 0 {
				above++
			}
		}
	}
	if above < 1000 {
		t.Error("one-sided", above)
	}
}

// Counts of disjoint queries add up to the count of both together.
func TestDisjointCountsAddUp(t *testing.T) {
	m := mixer(262)
	for range 300 {
		list := m.somePatients(m.pick(0, 200), m.pick(1, 64))
		least := m.pick(1, 6)
		count := func(wards, groups int64) int64 { return impl.Count(list, queryOf(wards, groups), least) }
		for range 10 {
			one, other, both := m.pick(0, 255), m.pick(0, 255), m.pick(0, 255)
			other &^= one
			wantNumber(t, "wards apart", count(one, both)+count(other, both), count(one|other, both))
			wantNumber(t, "groups apart", count(both, one)+count(both, other), count(both, one|other))
			wantNumber(t, "four parts", count(one, both)+count(one, 255-both)+count(255-one, both)+count(255-one, 255-both), count(255, 255))
		}
		sum, told := int64(0), int64(0)
		for _, cell := range impl.Cells(list) {
			if cell >= least {
				told += cell
			}
		}
		for ward := range 8 {
			for group := range 8 {
				sum += count(1<<ward, 1<<group)
			}
		}
		wantNumber(t, "cell by cell", sum, count(255, 255))
		wantNumber(t, "a sum over cells", sum, told)
	}
}

// otherBelow has patients that differ from those of the list in cells below least alone: some are gone, some are new, some stand in another one.
func (m *mixer) otherBelow(list []impl.Patient, least int64) []impl.Patient {
	counts, _ := plainCells(list)
	var other []impl.Patient
	for _, q := range list {
		if counts[8*q.Ward+q.Group] >= least || m.pick(0, 2) > 0 {
			other = append(other, q)
		}
	}
	now, _ := plainCells(other)
	for id := int64(999000); id < 999400 && len(other) < 200; id++ {
		q := patientOf(id, m.pick(0, 7), m.pick(0, 7), m.pick(0, 3))
		cell := 8*q.Ward + q.Group
		if counts[cell] < least && now[cell] < least-1 {
			other = append(other, q)
			now[cell] += q.Consent / 2
		}
	}
	for k := range other {
		swap := m.pick(0, int64(k))
		other[k], other[swap] = other[swap], other[k]
	}
	return other
}

// Two lists that differ in cells below least alone are told alike by every query.
func TestCellsBelowLeastDoNotShow(t *testing.T) {
	m := mixer(263)
	unlike := 0
	for range 200 {
		least := m.pick(1, 8)
		list := m.somePatients(m.pick(0, 200), m.pick(1, 64))
		other := m.otherBelow(list, least)
		if !slices.Equal(impl.Cells(list), impl.Cells(other)) {
			unlike++
		}
		for range 60 {
			q := m.someQuery()
			wantNumber(t, []any{q, least}, impl.Count(other, q, least), impl.Count(list, q, least))
		}
		for cell := range 64 {
			q := queryOf(1<<(cell/8), 1<<(cell%8))
			wantNumber(t, []any{q, least}, impl.Count(other, q, least), impl.Count(list, q, least))
		}
	}
	if unlike < 100 {
		t.Error("one-sided", unlike)
	}
	// And by each one of all queries.
	list := slices.Concat(inCell(0, 9, 3), inCell(10, 18, 2), inCell(20, 45, 1))
	other := slices.Concat(inCell(50, 9, 3), inCell(60, 19, 2), inCell(70, 63, 2), inCell(80, 45, 2))
	for wards := range int64(256) {
		for groups := range int64(256) {
			q := queryOf(wards, groups)
			want := 3 * (wards >> 1 & 1) * (groups >> 1 & 1)
			if one, two := impl.Count(list, q, 3), impl.Count(other, q, 3); one != want || two != want {
				t.Fatal(q, one, two, want)
			}
		}
	}
}
