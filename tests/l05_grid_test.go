package tests

import (
	"math"
	"slices"
	"testing"

	"loop.example/g00050/impl"
)

// plainGrid is the document's rule where n and the spots are as many as they may be.
func plainGrid(n int64, spots []impl.Spot) []impl.Cx {
	places := make([]impl.Cx, n)
	for _, s := range spots {
		w := bigModulo(s.At, 16)
		p := (s.At - w) / 16 // whole, and no wrap-round: the least int64 is a multiple of 16
		if p >= 0 && p < n {
			places[p] = plainSum(places[p], plainTimes(s.Value, float64(16-w)/16))
		}
		if w != 0 && p+1 >= 0 && p+1 < n {
			places[p+1] = plainSum(places[p+1], plainTimes(s.Value, float64(w)/16))
		}
	}
	return places
}

func (m *mixer) spots(count int, n int64, part func() float64) []impl.Spot {
	list := make([]impl.Spot, count)
	for i, v := range cxs(count, part) {
		list[i] = impl.Spot{At: m.pick(-40, 16*n+40), Value: v}
	}
	return list
}

func TestGridPlainly(t *testing.T) {
	m := mixer(96)
	for _, part := range []func() float64{m.small, m.wild, func() float64 { return m.among(edgeFloats()) }, func() float64 { return m.among(noughtsAndOnes()) }} {
		for _, n := range []int64{1, 2, 3, 4, 7, 16, 100, 4095, 4096} {
			for range 20 {
				spots := m.spots(int(m.pick(0, 120)), n, part)
				wantCxs(t, n, impl.Grid(n, spots), plainGrid(n, spots))
			}
		}
	}
}

func wholeEnds(n int64) []int64 {
	return []int64{leastInt, leastInt + 1, leastInt + 15, leastInt + 16, -1 << 32, -17, -16, -15, -8, -1, 0, 1, 8, 15, 16, 17,
		16*n - 17, 16*n - 16, 16*n - 15, 16*n - 1, 16 * n, 16*n + 1, 16*n + 16, 1 << 32, 1 << 36, 1<<36 + 5, 1 << 60, mostInt - 16, mostInt - 15, mostInt - 1, mostInt}
}

func TestGridOfOneSpot(t *testing.T) {
	for _, n := range []int64{1, 2, 3, 5, 4095, 4096} {
		for _, at := range wholeEnds(n) {
			for _, value := range []impl.Cx{{Re: 16, Im: -32}, {Re: 0.1, Im: 1e300}, {Re: infinite, Im: someNaN}, {Re: minusNought, Im: -infinite}} {
				spots := []impl.Spot{{At: at, Value: value}}
				wantCxs(t, []any{n, at, value}, impl.Grid(n, spots), plainGrid(n, spots))
			}
		}
	}
}

func TestGridByHand(t *testing.T) {
	value := impl.Cx{Re: 16, Im: -32}
	for _, c := range []struct {
		at   int64
		want []impl.Cx
	}{
		{leastInt, []impl.Cx{{}, {}}},
		{-17, []impl.Cx{{}, {}}},
		{-16, []impl.Cx{{}, {}}},
		{-15, []impl.Cx{{Re: 1, Im: -2}, {}}},
		{-1, []impl.Cx{{Re: 15, Im: -30}, {}}},
		{0, []impl.Cx{{Re: 16, Im: -32}, {}}},
		{1, []impl.Cx{{Re: 15, Im: -30}, {Re: 1, Im: -2}}},
		{15, []impl.Cx{{Re: 1, Im: -2}, {Re: 15, Im: -30}}},
		{16, []impl.Cx{{}, {Re: 16, Im: -32}}},
		{17, []impl.Cx{{}, {Re: 15, Im: -30}}},
		{31, []impl.Cx{{}, {Re: 1, Im: -2}}},
		{32, []impl.Cx{{}, {}}},
		{mostInt, []impl.Cx{{}, {}}},
	} {
		wantCxs(t, c.at, impl.Grid(2, []impl.Spot{{At: c.at, Value: value}}), c.want)
	}
}

// A factor of nought would make NaN of what is infinite, and does so nowhere.
func TestGridAtAPlace(t *testing.T) {
	for _, value := range []impl.Cx{{Re: infinite, Im: -infinite}, {Re: someNaN, Im: someNaN}, {Re: -infinite, Im: someNaN}} {
		for _, n := range []int64{1, 2, 5, 4096} {
			for _, p := range []int64{-1, 0, n/2 - 1, n / 2, n - 2, n - 1, n} {
				want := make([]impl.Cx, n)
				if p >= 0 && p < n {
					want[p] = value
				}
				wantCxs(t, []any{n, p, value}, impl.Grid(n, []impl.Spot{{At: 16 * p, Value: value}}), want)
			}
		}
	}
}

func TestGridAddsSpotBySpot(t *testing.T) {
	great, one := impl.Spot{At: 16, Value: impl.Cx{Re: 0x1p54, Im: -0x1p54}}, impl.Spot{At: 16, Value: impl.Cx{Re: 1, Im: -1}}
	wantCxs(t, "the great one first", impl.Grid(3, []impl.Spot{great, one, one, one, one}), []impl.Cx{{}, {Re: 0x1p54, Im: -0x1p54}, {}})
	wantCxs(t, "the great one last", impl.Grid(3, []impl.Spot{one, one, one, one, great}), []impl.Cx{{}, {Re: 0x1p54 + 4, Im: -0x1p54 - 4}, {}})
	// The place is reached from below, from itself and from behind: the order is that of the spots.
	from := func(at int64, re float64) impl.Spot { return impl.Spot{At: at, Value: impl.Cx{Re: re}} }
	wantCxs(t, "1 + 1 + 1 + great", impl.Grid(3, []impl.Spot{from(8, 2), from(24, 2), from(16, 1), from(16, 0x1p54)}), []impl.Cx{{Re: 1}, {Re: 0x1p54 + 4}, {Re: 1}})
	wantCxs(t, "great + 1 + 1 + 1", impl.Grid(3, []impl.Spot{from(16, 0x1p54), from(8, 2), from(24, 2), from(16, 1)}), []impl.Cx{{Re: 1}, {Re: 0x1p54}, {Re: 1}})
}

// Each product is rounded ahead of the sum; numbers for which a joined one tells something else.
func TestGridRoundsEachProduct(t *testing.T) {
	m := mixer(97)
	unlike := 0
	for range 2000 {
		a, b, w := m.small(), m.small(), m.pick(1, 15)
		spots := []impl.Spot{{At: 0, Value: impl.Cx{Re: a, Im: -a}}, {At: w, Value: impl.Cx{Re: b, Im: -b}}}
		near := a + roundedProduct(b, float64(16-w)/16)
		if near != math.FMA(b, float64(16-w)/16, a) {
			unlike++
		}
		wantCxs(t, []any{a, b, w}, impl.Grid(1, spots), []impl.Cx{{Re: near, Im: -near}})
	}
	if unlike < 50 {
		t.Error("too few numbers that tell a joined product apart", unlike)
	}
}

func TestGridOfNoughts(t *testing.T) {
	below := impl.Cx{Re: minusNought, Im: minusNought}
	for at := int64(-20); at <= 40; at++ {
		wantCxs(t, at, impl.Grid(2, []impl.Spot{{At: at, Value: below}, {At: at, Value: below}}), make([]impl.Cx, 2))
	}
	least := impl.Cx{Re: -math.SmallestNonzeroFloat64, Im: math.SmallestNonzeroFloat64}
	wantCxs(t, "what rounds to nought", impl.Grid(2, []impl.Spot{{At: 12, Value: least}}), []impl.Cx{{}, least})
	wantCxs(t, "two that are as near", impl.Grid(2, []impl.Spot{{At: 8, Value: least}}), make([]impl.Cx, 2))
}

func TestGridSizes(t *testing.T) {
	spot := impl.Spot{At: 0, Value: impl.Cx{Re: 1, Im: 2}}
	for _, n := range []int64{0, -1, -2, -16, -4096, 4097, 4098, 8192, 1 << 31, 1 << 32, 1<<32 + 1, 1 << 62, leastInt, leastInt + 1, mostInt - 1, mostInt} {
		for _, spots := range [][]impl.Spot{nil, {}, {spot}, {spot, spot}} {
			wantNoGrid(t, n, n, spots)
		}
	}
	for _, n := range []int64{1, 2, 4095, 4096} {
		wantCxs(t, "no spot", impl.Grid(n, nil), make([]impl.Cx, n))
		wantCxs(t, "no spot", impl.Grid(n, []impl.Spot{}), make([]impl.Cx, n))
		if got := impl.Grid(n, []impl.Spot{spot}); len(got) != int(n) || !oneCx(got[0], spot.Value) {
			t.Error("one spot", n, len(got))
		}
		last := impl.Spot{At: 16*n - 16, Value: spot.Value}
		full := append(slices.Repeat([]impl.Spot{spot}, 4095), last)
		want := make([]impl.Cx, n)
		want[0] = impl.Cx{Re: 4095, Im: 8190}
		want[n-1] = plainSum(want[n-1], spot.Value)
		wantCxs(t, "4096 spots", impl.Grid(n, full), want)
		wantNoGrid(t, "4097 spots", n, append(slices.Clone(full), spot))
		wantNoGrid(t, "a million spots", n, make([]impl.Spot, 1<<20))
	}
	wantNoGrid(t, "too much of both", 4097, make([]impl.Spot, 4097))
	wantCxs(t, "4097 spots behind a length of 1", impl.Grid(1, slices.Repeat([]impl.Spot{spot}, 4097)[:1]), []impl.Cx{spot.Value})
}

func wantNoGrid(t *testing.T, what any, n int64, spots []impl.Spot) {
	t.Helper()
	defer wantNoPanic(t, what)
	if got := impl.Grid(n, spots); len(got) != 0 {
		t.Errorf("%v: %d places", what, len(got))
	}
}

func TestGridIsNewMemory(t *testing.T) {
	m := mixer(98)
	mark := impl.Spot{At: 3, Value: impl.Cx{Re: -77}}
	for _, n := range []int64{0, 1, 4, 16, 4096} {
		spots := roomy(m.spots(30, n, m.small), mark)
		was := slices.Clone(spots)
		first := impl.Grid(n, spots)
		want := slices.Clone(first)
		second := impl.Grid(n, spots)
		fillWith(first, impl.Cx{Re: 9})
		if !stays(spots, was, mark) {
			t.Error("argument written into", n)
		}
		wantCxs(t, "an answer beside another one", second, want)
		wantCxs(t, "again", impl.Grid(n, spots), want)
	}
}

// Promise 21: whatever is given, each function answers, and the same a second time.
func TestWavesNeverPanic(t *testing.T) {
	m := mixer(99)
	for range 3000 {
		n, k := int64(m.next())>>m.pick(0, 63), int64(m.next())>>m.pick(0, 63)
		list, coils, spots := cxs(int(m.pick(0, 20)), m.wild), make([][]impl.Cx, m.pick(0, 4)), make([]impl.Spot, m.pick(0, 20))
		for i := range coils {
			coils[i] = cxs(int(m.pick(0, 2)), m.wild)
		}
		for i, v := range cxs(len(spots), m.wild) {
			spots[i] = impl.Spot{At: int64(m.next()) >> m.pick(0, 63), Value: v}
		}
		func() {
			defer wantNoPanic(t, []any{n, k, list, coils, spots})
			wantOneCx(t, "Factor", impl.Factor(n, k), impl.Factor(n, k))
			wantCxs(t, "Waves", impl.Waves(list), impl.Waves(list))
			wantCxs(t, "BackWaves", impl.BackWaves(list), impl.BackWaves(list))
			wantFloats(t, "Tones", impl.Tones(list), impl.Tones(list))
			wantFloats(t, "Blend", impl.Blend(coils), impl.Blend(coils))
			wantCxs(t, "Grid", impl.Grid(n, spots), impl.Grid(n, spots))
			impl.Split(impl.Cx{Re: m.wild(), Im: m.wild()}, impl.Cx{Re: m.wild(), Im: m.wild()})
		}()
	}
}
