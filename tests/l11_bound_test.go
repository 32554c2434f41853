package tests

import (
	"slices"
	"testing"

	"loop.example/g00050/impl"
)

func TestRefutesByHand(t *testing.T) {
	for _, row := range []struct {
		bounds  []impl.Bound
		weights []int64
		want    bool
	}{
		{[]impl.Bound{boundOf(3, 1, 1), boundOf(-4, -1, 0)}, []int64{1, 1}, true},
		{[]impl.Bound{boundOf(3, 1, 1), boundOf(-4, -1, 0)}, []int64{0, 1}, false},
		{[]impl.Bound{boundOf(3, 1, 1), boundOf(-4, -1, 0)}, []int64{1, 0}, false},
		{[]impl.Bound{boundOf(3, 1, 1), boundOf(-4, -1, 0)}, []int64{0, 0}, false},
		{[]impl.Bound{boundOf(3, 1, 1), boundOf(-4, -1, 0)}, []int64{1000, 1000}, true},
		{[]impl.Bound{boundOf(3, 1, 1), boundOf(-3, -1, 0)}, []int64{1, 1}, false},
		// The sum of the A just 0, and one below it.
		{[]impl.Bound{boundOf(-1, 0)}, []int64{1}, true},
		{[]impl.Bound{boundOf(-1, -1)}, []int64{1}, false},
		{[]impl.Bound{boundOf(-1, 1)}, []int64{1}, true},
		{[]impl.Bound{boundOf(-1, 3, 0), boundOf(-1, -3, 1)}, []int64{5, 5}, true},
		{[]impl.Bound{boundOf(-1, 3, 0), boundOf(-1, -4, 1)}, []int64{1, 1}, false},
		{[]impl.Bound{boundOf(-1, 0, 3), boundOf(-1, 1, -4)}, []int64{1, 1}, false},
		{[]impl.Bound{boundOf(-1, 0, 3), boundOf(-1, 1, -4)}, []int64{4, 3}, true},
		// The sum of the B just 0, and one below it.
		{[]impl.Bound{boundOf(0, 1)}, []int64{1}, false},
		{[]impl.Bound{boundOf(2, 1), boundOf(-1, 1)}, []int64{1, 2}, false},
		{[]impl.Bound{boundOf(2, 1), boundOf(-1, 1)}, []int64{1, 3}, true},
		{[]impl.Bound{boundOf(1, 1), boundOf(-1, 1)}, []int64{1, 1}, false},
	} {
		wantAnswer(t, row, impl.Refutes(row.bounds, row.weights), row.want)
	}
}

func TestKeepsByHand(t *testing.T) {
	for _, row := range []struct {
		bounds []impl.Bound
		x      []int64
		want   bool
	}{
		{[]impl.Bound{boundOf(3, 1, 1)}, []int64{1, 2}, true},
		{[]impl.Bound{boundOf(3, 1, 1)}, []int64{2, 2}, false},
		{[]impl.Bound{boundOf(3, 1, 1)}, []int64{0, 0}, true},
		{[]impl.Bound{boundOf(0, 1, 1)}, []int64{0, 0}, true},
		{[]impl.Bound{boundOf(-1, 1, 1)}, []int64{0, 0}, false},
		{[]impl.Bound{boundOf(-4, -1, 0)}, []int64{4, 9}, true},
		{[]impl.Bound{boundOf(-4, -1, 0)}, []int64{3, 9}, false},
		{[]impl.Bound{boundOf(3, 1, 1), boundOf(-2, -1, 0)}, []int64{2, 1}, true},
		{[]impl.Bound{boundOf(3, 1, 1), boundOf(-2, -1, 0)}, []int64{1, 1}, false},
		{[]impl.Bound{boundOf(3, 1, 1), boundOf(-2, -1, 0)}, []int64{2, 2}, false},
		{[]impl.Bound{boundOf(-2, -1, 0), boundOf(3, 1, 1)}, []int64{2, 2}, false},
	} {
		wantAnswer(t, row, impl.Keeps(row.bounds, row.x), row.want)
	}
}

// wantNotKept asks many x, and parts of them: x divided by 1 to 3 keeps bounds just if x keeps them with their B times 1 to 3.
func wantNotKept(t *testing.T, bounds []impl.Bound, xs [][]int64) {
	t.Helper()
	for part := int64(1); part <= 3; part++ {
		wider := slices.Clone(bounds)
		for i := range wider {
			wider[i].B *= part
		}
		for _, x := range xs {
			if impl.Keeps(wider, x) {
				t.Error(bounds, "is refuted, and kept by", x, "by", part)
			}
		}
	}
}

func TestRefutedPlansAreKeptByNothing(t *testing.T) {
	refuted, xs, weights := 0, listsOf(2, 0, 4), listsOf(2, 0, 2)
	for _, numbers := range listsOf(6, -2, 2) {
		bounds := []impl.Bound{boundOf(numbers[0], numbers[1:3]...), boundOf(numbers[3], numbers[4:]...)}
		for _, w := range weights {
			got := impl.Refutes(bounds, w)
			wantAnswer(t, []any{bounds, w}, got, plainRefutes(bounds, w))
			if got {
				refuted++
				wantNotKept(t, bounds, xs)
			}
		}
		for _, x := range xs[:8] {
			wantAnswer(t, []any{bounds, x}, impl.Keeps(bounds, x), plainKeeps(bounds, x))
		}
	}
	if refuted < 1000 {
		t.Error("few are refuted:", refuted)
	}
}

func TestManyRefutedPlans(t *testing.T) {
	m := mixer(205)
	refuted, kept := 0, 0
	for range 3000 {
		n, count := int(m.pick(1, 6)), int(m.pick(1, 6))
		bounds, weights := m.bounds(count, n, m.pick(1, 300)), m.list(count, 0, m.pick(1, 1000))
		if m.pick(0, 1) == 0 {
			bounds = leaningBounds(bounds)
		}
		var xs [][]int64
		for _, most := range []int64{1, 5, 1000, 1000000000} {
			for range 4 {
				xs = append(xs, m.list(n, 0, most))
			}
		}
		got := impl.Refutes(bounds, weights)
		wantAnswer(t, []any{bounds, weights}, got, plainRefutes(bounds, weights))
		if got {
			refuted++
			wantNotKept(t, bounds, xs)
		}
		for _, x := range xs {
			keeps := impl.Keeps(bounds, x)
			wantAnswer(t, []any{bounds, x}, keeps, plainKeeps(bounds, x))
			kept += int(oneIf(keeps))
		}
	}
	if refuted < 100 || kept < 100 {
		t.Error("few are refuted or kept:", refuted, kept)
	}
}

// leaningBounds has the A of the first turned into what is left to make their sum nought, as far as limits allow, so that weights that are alike may refute.
func leaningBounds(bounds []impl.Bound) []impl.Bound {
	out := slices.Clone(bounds)
	for at := range out[0].A {
		sum := int64(0)
		for _, b := range out[1:] {
			sum += b.A[at]
		}
		out[0].A[at] = max(-1000, min(1000, -sum+int64(at)*200))
	}
	out[0].B = -333
	return out
}

func TestWeightsLimits(t *testing.T) {
	bounds := []impl.Bound{boundOf(-1, 1, 0), boundOf(-1, 0, 1), boundOf(-1, 2, 2)}
	for _, weights := range [][]int64{{1, 1, 1}, {0, 0, 1}, {1000, 1000, 1000}} {
		wantAnswer(t, weights, impl.Refutes(bounds, weights), true)
	}
	for _, weights := range [][]int64{nil, {1}, {1, 1}, {1, 1, 1, 1}, {1, 1, 1, 0}, {0, 0, 0}, {1, 1, -1}, {1, 1, 1001}, {1001, 1, 1}, {-1, 1, 1}, {leastInt, 1, 1}, {1, mostInt, 1}, {mostInt, mostInt, mostInt}, {leastInt, leastInt, leastInt}} {
		wantAnswer(t, weights, impl.Refutes(bounds, weights), false)
	}
	for _, number := range edges(0, 1000) {
		for at := range bounds {
			weights := []int64{1, 1, 1}
			weights[at] = number
			wantAnswer(t, weights, impl.Refutes(bounds, weights), liesFrom(number, 0, 1000))
		}
	}
}

func TestKeptNumbersLimits(t *testing.T) {
	bounds := []impl.Bound{boundOf(1000, -1, 0, -1), boundOf(0, 0, -1, 0)}
	for _, x := range [][]int64{{0, 0, 0}, {1000000000, 1000000000, 1000000000}, {1, 2, 3}} {
		wantAnswer(t, x, impl.Keeps(bounds, x), true)
	}
	for _, x := range [][]int64{nil, {1}, {1, 1}, {1, 1, 1, 1}, {0, 0, 0, 0}, {-1, 1, 1}, {1, 1, -1}, {1, 1000000001, 1}, {leastInt, 1, 1}, {1, 1, mostInt}} {
		wantAnswer(t, x, impl.Keeps(bounds, x), false)
	}
	for _, number := range edges(0, 1000000000) {
		for at := range 3 {
			x := []int64{5, 5, 5}
			x[at] = number
			wantAnswer(t, x, impl.Keeps(bounds, x), liesFrom(number, 0, 1000000000))
		}
	}
}

func TestSumsOfBoundsAtTheLimits(t *testing.T) {
	up, down := slices.Repeat([]int64{1000}, 64), slices.Repeat([]int64{-1000}, 64)
	far, weights := slices.Repeat([]int64{1000000000}, 64), slices.Repeat([]int64{1000}, 64)
	full := slices.Repeat([]impl.Bound{boundOf(-1000, up...)}, 64)
	wantAnswer(t, "64 of 64", impl.Refutes(full, weights), true)
	wantAnswer(t, "64 of 64", impl.Keeps(full, far), false)
	wantAnswer(t, "64 of 64", impl.Keeps(slices.Repeat([]impl.Bound{boundOf(-1000, down...)}, 64), far), true)
	wantAnswer(t, "64 of 64", impl.Refutes(slices.Repeat([]impl.Bound{boundOf(-1000, down...)}, 64), weights), false)
	wantAnswer(t, "65 bounds", impl.Refutes(append(slices.Clone(full), full[0]), append(slices.Clone(weights), 1000)), false)
	wantAnswer(t, "65 bounds", impl.Keeps(slices.Repeat([]impl.Bound{boundOf(1000, 0)}, 65), []int64{0}), false)
	wantAnswer(t, "64 bounds", impl.Keeps(slices.Repeat([]impl.Bound{boundOf(1000, 0)}, 64), []int64{0}), true)
	// The last number of the last bound alone decides.
	last := make([]int64, 64)
	for _, row := range []struct {
		a, b, x int64
		want    bool
	}{{1, 5, 5, true}, {1, 5, 6, false}, {-1, -5, 5, true}, {-1, -5, 4, false}} {
		bounds := slices.Repeat([]impl.Bound{boundOf(0, last...)}, 63)
		own := slices.Clone(last)
		own[63] = row.a
		x := slices.Clone(last)
		x[63] = row.x
		wantAnswer(t, row, impl.Keeps(append(bounds, boundOf(row.b, own...)), x), row.want)
	}
	own := slices.Clone(last)
	own[63] = -1
	bounds := slices.Repeat([]impl.Bound{boundOf(-1, last...)}, 63)
	wantAnswer(t, "the last is below", impl.Refutes(append(bounds, boundOf(0, own...)), weights), false)
	wantAnswer(t, "the last has no weight", impl.Refutes(append(bounds, boundOf(0, own...)), append(weights[:63:63], 0)), true)
	// One below nought, among great sums.
	wide := []impl.Bound{boundOf(1000, 1000), boundOf(-1000, -1000), boundOf(-1, 0)}
	wantAnswer(t, "one below", impl.Refutes(wide, []int64{1000, 1000, 1}), true)
	wantAnswer(t, "just 0", impl.Refutes(wide, []int64{1000, 1000, 0}), false)
	wantAnswer(t, "one below", impl.Keeps([]impl.Bound{boundOf(0, 1000, -1000)}, []int64{1000000000, 999999999}), false)
	wantAnswer(t, "just kept", impl.Keeps([]impl.Bound{boundOf(1000, 1000, -1000)}, []int64{1000000000, 999999999}), true)
	wantAnswer(t, "missed by one", impl.Keeps([]impl.Bound{boundOf(999, 1000, -1000)}, []int64{1000000000, 999999999}), false)
}

// refutable is refuted by 1 and 1, and easy is kept by noughts; each with a place for a number.
func refutable(n int) []impl.Bound {
	return []impl.Bound{boundOf(-1, make([]int64, n)...), boundOf(-1, make([]int64, n)...)}
}

func easy(n int) []impl.Bound {
	return []impl.Bound{boundOf(1, make([]int64, n)...), boundOf(1, make([]int64, n)...)}
}

func TestLengthsOfBounds(t *testing.T) {
	for _, n := range []int{0, 1, 2, 63, 64, 65, 200} {
		right := n >= 1 && n <= 64
		wantAnswer(t, n, impl.Refutes(refutable(n), []int64{1, 1}), right)
		wantAnswer(t, n, impl.Keeps(easy(n), make([]int64, n)), right)
		if n == 0 {
			continue
		}
		for at := range 2 {
			for _, other := range [][]int64{make([]int64, n-1), make([]int64, n+1), nil} {
				bounds, kept := refutable(n), easy(n)
				bounds[at].A, kept[at].A = other, other
				wantAnswer(t, []any{n, at, len(other)}, impl.Refutes(bounds, []int64{1, 1}), false)
				wantAnswer(t, []any{n, at, len(other)}, impl.Keeps(kept, make([]int64, n)), false)
				wantAnswer(t, []any{n, at, len(other)}, impl.Keeps(kept, make([]int64, len(other))), false)
			}
		}
	}
	for _, none := range [][]impl.Bound{nil, {}} {
		wantAnswer(t, "no bound", impl.Refutes(none, nil), false)
		wantAnswer(t, "no bound", impl.Refutes(none, []int64{1}), false)
		wantAnswer(t, "no bound", impl.Keeps(none, nil), false)
		wantAnswer(t, "no bound", impl.Keeps(none, []int64{0}), false)
	}
	wantAnswer(t, "no numbers", impl.Keeps([]impl.Bound{{B: 1}}, nil), false)
	wantAnswer(t, "no numbers", impl.Refutes([]impl.Bound{{B: -1}}, []int64{1}), false)
}

func TestNumbersOfBounds(t *testing.T) {
	for _, number := range edges(-1000, 1000) {
		right := liesFrom(number, -1000, 1000)
		for _, n := range []int{1, 3, 64} {
			for at := range 2 {
				for _, place := range []int{0, n / 2, n - 1} {
					kept := easy(n)
					kept[at].A[place] = number
					wantAnswer(t, []any{n, at, place, number}, impl.Keeps(kept, make([]int64, n)), right)
					// A number below 0 is made up for by the other bound.
					bounds := refutable(n)
					bounds[at].A[place], bounds[1-at].A[place] = number, 1000
					wantAnswer(t, []any{n, at, place, number}, impl.Refutes(bounds, []int64{1, 1}), right)
				}
				kept := easy(n)
				kept[at].B = number
				wantAnswer(t, []any{n, at, number}, impl.Keeps(kept, make([]int64, n)), right && number >= 0)
				bounds := refutable(n)
				bounds[at].B = number
				wantAnswer(t, []any{n, at, number}, impl.Refutes(bounds, []int64{1, 1}), right && number < 1)
				// A bound without weight is asked all the same.
				weights := []int64{1, 1}
				weights[at] = 0
				wantAnswer(t, []any{n, at, number}, impl.Refutes(bounds, weights), right)
			}
		}
	}
}
