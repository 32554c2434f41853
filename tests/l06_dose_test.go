package tests

import (
	"slices"
	"testing"

	"loop.example/g00050/impl"
)

// exposures are right ones of the first organs.
func (m *mixer) exposures(n int, organs, most int64) []impl.Exposure {
	list := make([]impl.Exposure, n)
	for i := range list {
		list[i] = impl.Exposure{Organ: m.pick(0, organs-1), Amount: m.pick(0, most)}
	}
	return list
}

func plainBook(list []impl.Exposure) ([]int64, int64) {
	book, all := make([]int64, 32), int64(0)
	for organ := range book {
		for _, e := range list {
			if e.Organ == int64(organ) {
				book[organ] += e.Amount
				all += e.Amount
			}
		}
	}
	return book, all
}

// plainFits asks at each exposure for the book of what was given and of it.
func plainFits(list []impl.Exposure, limits []int64) []impl.Exposure {
	var given []impl.Exposure
	for _, e := range list {
		book, _ := plainBook(append(slices.Clone(given), e))
		if book[e.Organ] <= limits[e.Organ] {
			given = append(given, e)
		}
	}
	return given
}

func limitsOf(limit int64) []int64 { return slices.Repeat([]int64{limit}, 32) }

func wantBook(t *testing.T, what any, list []impl.Exposure) {
	t.Helper()
	book, all := impl.DoseBook(list)
	want, wantAll := plainBook(list)
	wantLists(t, what, book, want)
	if all != wantAll {
		t.Errorf("%v: %d in all, want %d", what, all, wantAll)
	}
}

func wantFits(t *testing.T, what any, list []impl.Exposure, limits []int64, want []impl.Exposure) {
	t.Helper()
	if got := impl.Fits(list, limits); !slices.Equal(got, want) {
		t.Errorf("%v: %d given %v, want %d %v", what, len(got), got[:min(20, len(got))], len(want), want[:min(20, len(want))])
	}
}

// wantNoDoses asks with limits that would let all pass.
func wantNoDoses(t *testing.T, what any, list []impl.Exposure) {
	t.Helper()
	defer wantNoPanic(t, what)
	if book, all := impl.DoseBook(list); len(book) != 0 || all != 0 {
		t.Errorf("%v: a book %v, %d", what, book, all)
	}
	wantFits(t, what, list, limitsOf(impl.MaxLimit), nil)
}

func TestDoseBookPlainly(t *testing.T) {
	m := mixer(114)
	wantBook(t, "none", nil)
	wantBook(t, "none", []impl.Exposure{})
	for range 200 {
		wantBook(t, "drawn", m.exposures(int(m.pick(1, 90)), m.pick(1, 32), impl.MaxAmount))
	}
	for organ := range int64(32) {
		book, all := impl.DoseBook([]impl.Exposure{{Organ: organ, Amount: 5}, {Organ: organ, Amount: 8}})
		want := make([]int64, 32)
		want[organ] = 13
		wantLists(t, organ, book, want)
		if all != 13 {
			t.Error(organ, all)
		}
	}
}

func TestDoseBookAtTheLimits(t *testing.T) {
	for _, organ := range []int64{0, 31} {
		for _, amount := range []int64{0, 1, impl.MaxAmount - 1, impl.MaxAmount} {
			wantBook(t, []int64{organ, amount}, []impl.Exposure{{Organ: organ, Amount: amount}})
		}
	}
	for _, e := range wrongExposures() {
		right := impl.Exposure{Organ: 3, Amount: 4}
		for _, list := range [][]impl.Exposure{{e}, {e, right}, {right, e}, {right, e, right}} {
			wantNoDoses(t, list, list)
		}
	}
	most := slices.Repeat([]impl.Exposure{{Organ: 31, Amount: impl.MaxAmount}}, impl.MaxList+1)
	book, all := impl.DoseBook(most[:impl.MaxList])
	if len(book) != 32 || book[31] != impl.MaxList*impl.MaxAmount || all != book[31] {
		t.Error("MaxList exposures", book, all)
	}
	wantFits(t, "MaxList exposures", most[:impl.MaxList], limitsOf(impl.MaxLimit), most[:impl.MaxList])
	wantNoDoses(t, "one more", most)
	wantNoDoses(t, "one more, of nothing", make([]impl.Exposure, impl.MaxList+1))
	wantNoDoses(t, "many more", make([]impl.Exposure, 100000))
}

// wrongExposures are not as told, each for one reason alone.
func wrongExposures() []impl.Exposure {
	var list []impl.Exposure
	for _, organ := range []int64{-1, 32, 33, -32, 1 << 32, -1 << 32, leastInt, leastInt + 1, mostInt} {
		list = append(list, impl.Exposure{Organ: organ}, impl.Exposure{Organ: organ, Amount: 1})
	}
	for _, amount := range []int64{-1, impl.MaxAmount + 1, 1 << 32, -1 << 32, leastInt, leastInt + 1, mostInt} {
		list = append(list, impl.Exposure{Amount: amount}, impl.Exposure{Organ: 31, Amount: amount})
	}
	return append(list, impl.Exposure{Organ: mostInt, Amount: leastInt})
}

// Promise 9, of doses.
func TestFitsKeepsTheLimits(t *testing.T) {
	m := mixer(115)
	for range 300 {
		list := m.exposures(int(m.pick(0, 120)), m.pick(1, 32), 1000)
		limits := make([]int64, 32)
		for i := range limits {
			limits[i] = m.pick(0, 1)*m.pick(0, 3000) + m.pick(0, 1)*m.pick(0, 100)
		}
		given := impl.Fits(list, limits)
		wantFits(t, "drawn", list, limits, plainFits(list, limits))
		book, _ := impl.DoseBook(given)
		for organ, dose := range book {
			if dose > limits[organ] {
				t.Errorf("organ %d has %d, above %d", organ, dose, limits[organ])
			}
		}
	}
}

func TestFitsByHand(t *testing.T) {
	limits := limitsOf(0)
	limits[1], limits[2], limits[31] = 10, 5, impl.MaxLimit
	list := []impl.Exposure{
		{Organ: 1, Amount: 4},
		{Organ: 1, Amount: 6}, // meets its limit
		{Organ: 1, Amount: 1}, // would pass it by one
		{Organ: 1, Amount: 0},
		{Organ: 2, Amount: 6}, // would pass it by one
		{Organ: 2, Amount: 5}, // smaller, and meets it
		{Organ: 0, Amount: 0}, // met with nothing
		{Organ: 0, Amount: 1},
		{Organ: 31, Amount: impl.MaxAmount},
		{Organ: 2, Amount: 0},
		{Organ: 2, Amount: 0},
	}
	wantFits(t, "by hand", list, limits, []impl.Exposure{list[0], list[1], list[3], list[5], list[6], list[8], list[9], list[10]})
	wantFits(t, "what comes ahead of it counts", []impl.Exposure{{Organ: 2, Amount: 3}, {Organ: 2, Amount: 3}, {Organ: 2, Amount: 2}, {Organ: 2, Amount: 1}}, limits,
		[]impl.Exposure{{Organ: 2, Amount: 3}, {Organ: 2, Amount: 2}})
	wantFits(t, "none", nil, limits, nil)
}

func TestFitsOfLimits(t *testing.T) {
	list := []impl.Exposure{{Organ: 3, Amount: 1}, {Organ: 0, Amount: 0}, {Organ: 31, Amount: impl.MaxAmount}}
	room := limitsOf(impl.MaxLimit)
	room = append(room, room...)
	for n := range room {
		if n != 32 {
			wantFits(t, n, list, room[:n], nil)
		}
	}
	wantFits(t, "nil", list, nil, nil)
	wantFits(t, "32", list, room[:32], list)
	for organ := range 32 {
		for _, limit := range []int64{-1, impl.MaxLimit + 1, leastInt, leastInt + 1, mostInt, -1 << 40, 1 << 62} {
			limits := limitsOf(impl.MaxLimit)
			limits[organ] = limit
			wantFits(t, []int64{int64(organ), limit}, list, limits, nil)
			wantFits(t, "with no exposure", nil, limits, nil)
		}
		limits := limitsOf(0)
		limits[organ] = impl.MaxLimit
		e := impl.Exposure{Organ: int64(organ), Amount: impl.MaxAmount}
		wantFits(t, organ, []impl.Exposure{e, e}, limits, []impl.Exposure{e, e})
		limits[organ] = impl.MaxAmount
		wantFits(t, organ, []impl.Exposure{e, e}, limits, []impl.Exposure{e})
		limits[organ] = impl.MaxAmount - 1
		wantFits(t, organ, []impl.Exposure{e, e}, limits, nil)
	}
	nothing := make([]impl.Exposure, 40)
	wantFits(t, "nothing is always given", nothing, limitsOf(0), nothing)
}

func TestDosesAreNewMemory(t *testing.T) {
	m := mixer(116)
	mark := impl.Exposure{Organ: 77, Amount: -5}
	for _, n := range []int{0, 1, 2, 30, 200} {
		for _, limit := range []int64{0, 2000, impl.MaxLimit, impl.MaxLimit + 1} {
			was, wasLimits := m.exposures(n, 32, 1000), limitsOf(limit)
			list, limits := roomy(was, mark), roomy(wasLimits, 9)
			book, _ := impl.DoseBook(list)
			other, _ := impl.DoseBook(list)
			given, again := impl.Fits(list, limits), impl.Fits(list, limits)
			if !stays(list, was, mark) || !stays(limits, wasLimits, 9) {
				t.Error("an argument changes", n, limit)
			}
			wantBook, wantGiven := slices.Clone(other), slices.Clone(again)
			spoil(book)
			fillWith(given, mark)
			fillWith(list, mark)
			spoil(limits)
			wantLists(t, "a book behind spoilt lists", other, wantBook)
			if !slices.Equal(again, wantGiven) {
				t.Error("what was given shares memory", n, limit)
			}
			wantFits(t, "something was kept", was, wasLimits, wantGiven)
		}
	}
}

func TestProjectionsNeverPanic(t *testing.T) {
	m := mixer(117)
	wild := []int64{leastInt, leastInt + 1, -1 << 32, -impl.MaxLine - 1, -impl.MaxLine, -impl.MaxTone, -31, -1, 0, 1, 2, 3, 5, 6, 12, 31, 32, 992, impl.MaxTone, impl.MaxTone + 1, impl.MaxLine, impl.MaxAmount, impl.MaxLimit, 1 << 62, mostInt - 1, mostInt}
	pick := func() int64 { return wild[m.pick(0, int64(len(wild)-1))] }
	list := func() []int64 {
		out := make([]int64, []int{0, 1, 2, 4, 6, 9, 12, 30, 32, 33}[m.pick(0, 9)])
		for i := range out {
			out[i] = pick()
		}
		return out
	}
	for range 20000 {
		im := impl.Image{W: pick(), H: pick(), Pix: list()}
		if m.pick(1, 2) == 1 {
			p := m.pick(1, 6)
			im = m.image(p, p, impl.MaxTone+m.pick(0, 1))
		}
		sums := list()
		if m.pick(1, 2) == 1 {
			sums = m.lineSums(m.pick(1, 6), impl.MaxLine+m.pick(0, 1))
		}
		askProjections(t, im, sums, pick(), []impl.Exposure{{Organ: pick(), Amount: pick()}, {Organ: pick(), Amount: pick()}}, list())
	}
	askProjections(t, impl.Image{}, nil, 0, nil, nil)
}

func askProjections(t *testing.T, im impl.Image, sums []int64, n int64, list []impl.Exposure, limits []int64) {
	defer wantNoPanic(t, []any{im, sums, n, list, limits})
	impl.Lines(im)
	impl.SideOf(n)
	impl.FromLines(sums)
	impl.Misfit(im, sums)
	impl.Descend(im, sums, n)
	impl.DoseBook(list)
	impl.Fits(list, limits)
}
