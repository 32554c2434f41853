package tests

import (
	"fmt"
	"math"
	"slices"
	"sync"
	"testing"

	"loop.example/g00050/impl"
)

// sixteenFactors are written out, with the sign of each nought.
func sixteenFactors() []impl.Cx {
	c1, c2, c3 := quarterCosine(1), quarterCosine(2), quarterCosine(3)
	return []impl.Cx{
		{Re: 1, Im: 0}, {Re: c1, Im: -c3}, {Re: c2, Im: -c2}, {Re: c3, Im: -c1},
		{Re: 0, Im: -1}, {Re: -c3, Im: -c1}, {Re: -c2, Im: -c2}, {Re: -c1, Im: -c3},
		{Re: -1, Im: minusNought}, {Re: -c1, Im: c3}, {Re: -c2, Im: c2}, {Re: -c3, Im: c1},
		{Re: minusNought, Im: 1}, {Re: c3, Im: c1}, {Re: c2, Im: c2}, {Re: c1, Im: c3},
	}
}

func TestFactorOfSixteen(t *testing.T) {
	for j, want := range sixteenFactors() {
		wantOneCx(t, j, impl.Factor(16, int64(j)), want)
		wantOneCx(t, j, plainFactorOf(int64(j)), want)
		angle := 2 * math.Pi * float64(j) / 16
		if math.Abs(want.Re-math.Cos(angle)) > 1e-15 || math.Abs(want.Im+math.Sin(angle)) > 1e-15 {
			t.Errorf("%d: %v is no root of 16", j, want)
		}
	}
}

func TestFactorOfEachLength(t *testing.T) {
	factors := sixteenFactors()
	for _, n := range waveLengths() {
		ks := []int64{leastInt, leastInt + 1, leastInt + n/2, mostInt - 1, mostInt, mostInt - n/2, -1 << 32, 1<<32 + 1, 1<<62 + 3}
		for k := -n; k <= 2*n; k++ {
			ks = append(ks, k)
		}
		for _, k := range ks {
			wantOneCx(t, []int64{n, k}, impl.Factor(n, k), factors[16/n*bigModulo(k, n)])
		}
	}
	wantOneCx(t, "the least k of 16", impl.Factor(16, leastInt), impl.Cx{Re: 1})
	wantOneCx(t, "the greatest k of 16", impl.Factor(16, mostInt), factors[15])
	wantOneCx(t, "-1 of 4", impl.Factor(4, -1), impl.Cx{Re: minusNought, Im: 1})
	wantOneCx(t, "1 of 2", impl.Factor(2, 1), impl.Cx{Re: -1, Im: minusNought})
}

func TestFactorOfNoLength(t *testing.T) {
	for _, n := range noWaveLengths() {
		for _, k := range []int64{leastInt, -1, 0, 1, 2, 3, 16, mostInt} {
			func() {
				defer wantNoPanic(t, n)
				wantOneCx(t, []int64{n, k}, impl.Factor(n, k), impl.Cx{})
			}()
		}
	}
}

// wantWavesOf asks for both ways of one list, bit by bit.
func wantWavesOf(t *testing.T, list []impl.Cx) {
	t.Helper()
	wantCxs(t, fmt.Sprint("Waves of ", list), impl.Waves(list), plainWaves(list))
	wantCxs(t, fmt.Sprint("BackWaves of ", list), impl.BackWaves(list), plainBackWaves(list))
}

func TestWavesPlainly(t *testing.T) {
	m := mixer(84)
	wilds := []func() float64{m.small, m.wild,
		func() float64 { return m.among(edgeFloats()) },
		func() float64 { return m.among(noughtsAndOnes()) },
		func() float64 { return m.among([]float64{0, minusNought}) },
		func() float64 { return m.among([]float64{math.MaxFloat64, -math.MaxFloat64, 0}) },
		func() float64 {
			return m.among([]float64{math.SmallestNonzeroFloat64, -math.SmallestNonzeroFloat64, minusNought})
		},
		func() float64 { return m.whole(1000000) },
	}
	for _, n := range waveLengths() {
		for _, part := range wilds {
			for range 300 {
				wantWavesOf(t, cxs(int(n), part))
			}
		}
	}
}

// Each edge stands at each place, among numbers that round.
func TestWavesOfEachEdge(t *testing.T) {
	m := mixer(85)
	for _, n := range waveLengths() {
		for at := range n {
			for _, edge := range edgeCxs() {
				list := cxs(int(n), m.small)
				list[at] = edge
				wantWavesOf(t, list)
			}
		}
	}
}

// All lists of one and two numbers whose parts are noughts and ones, and all of four noughts.
func TestWavesOfNoughts(t *testing.T) {
	var list []impl.Cx
	for _, re := range noughtsAndOnes() {
		for _, im := range noughtsAndOnes() {
			list = append(list, impl.Cx{Re: re, Im: im})
		}
	}
	for _, a := range list {
		wantWavesOf(t, []impl.Cx{a})
		for _, b := range list {
			wantWavesOf(t, []impl.Cx{a, b})
		}
	}
	for signs := range 256 {
		at := 0
		wantWavesOf(t, cxs(4, func() float64 {
			at++
			return []float64{0, minusNought}[signs>>(at-1)&1]
		}))
	}
}

// What was reckoned by hand, the signs of noughts with it.
func TestWavesByHand(t *testing.T) {
	wantCxs(t, "one", impl.Waves([]impl.Cx{{Re: minusNought, Im: minusNought}}), []impl.Cx{{Re: minusNought, Im: minusNought}})
	wantCxs(t, "one, back", impl.BackWaves([]impl.Cx{{Re: minusNought, Im: minusNought}}), []impl.Cx{{Re: minusNought, Im: minusNought}})
	wantCxs(t, "one that is infinite", impl.Waves([]impl.Cx{{Re: infinite, Im: someNaN}}), []impl.Cx{{Re: infinite, Im: someNaN}})
	// The factor 1 has an Im of nought, so T(0) is {-0 * 1 - -0 * 0, ..} = {0, ..}: {-0 - -0, -0 * 0 + -0}.
	two := []impl.Cx{{Re: minusNought, Im: minusNought}, {Re: minusNought, Im: minusNought}}
	wantCxs(t, "two noughts below", impl.Waves(two), []impl.Cx{{Re: 0, Im: minusNought}, {Re: minusNought, Im: 0}})
	wantCxs(t, "one that is infinite among two", impl.Waves([]impl.Cx{{Re: 1}, {Re: infinite}}), []impl.Cx{{Re: infinite, Im: someNaN}, {Re: -infinite, Im: someNaN}})
	wantCxs(t, "an even one that is infinite", impl.Waves([]impl.Cx{{Re: infinite}, {Re: 1}}), []impl.Cx{{Re: infinite, Im: 0}, {Re: infinite, Im: 0}})
	four := impl.Waves([]impl.Cx{{Re: 1}, {Re: 2}, {Re: 3}, {Re: 4}})
	wantCxs(t, "1 2 3 4", four, []impl.Cx{{Re: 10}, {Re: -2, Im: 2}, {Re: -2}, {Re: -2, Im: -2}})
	c2 := quarterCosine(2)
	wantCxs(t, "a one at place 1 of 8", impl.Waves([]impl.Cx{{}, {Re: 1}, {}, {}, {}, {}, {}, {}}),
		[]impl.Cx{{Re: 1}, {Re: c2, Im: -c2}, {Re: 0, Im: -1}, {Re: -c2, Im: -c2}, {Re: -1}, {Re: -c2, Im: c2}, {Re: 0, Im: 1}, {Re: c2, Im: c2}})
}

func TestWavesOfNoLength(t *testing.T) {
	for _, n := range []int{0, 3, 5, 6, 7, 9, 12, 15, 17, 18, 24, 31, 32, 33, 64, 4096, 4097, 1 << 20} {
		wantNoWaves(t, n, slices.Repeat([]impl.Cx{{Re: 1, Im: 2}}, n))
	}
	wantNoWaves(t, "nil", nil)
	sixteen := slices.Repeat([]impl.Cx{{Re: 1, Im: 2}}, 16)
	wantNoWaves(t, "a list with room for 16", sixteen[:15])
	wantNoWaves(t, "an empty list with room for 16", sixteen[:0])
	for _, n := range waveLengths() {
		if a, b := impl.Waves(sixteen[:n]), impl.BackWaves(sixteen[:n]); len(a) != int(n) || len(b) != int(n) {
			t.Error(n, len(a), len(b))
		}
	}
}

func wantNoWaves(t *testing.T, what any, list []impl.Cx) {
	t.Helper()
	defer wantNoPanic(t, what)
	if a, b := impl.Waves(list), impl.BackWaves(list); len(a) != 0 || len(b) != 0 {
		t.Errorf("%v: Waves tells %d numbers, BackWaves %d", what, len(a), len(b))
	}
}

// Promise 8, of at most 4 numbers.
func TestBackWavesOfFewWholes(t *testing.T) {
	m := mixer(86)
	for _, n := range []int{1, 2, 4} {
		for range 5000 {
			wantSameWholes(t, cxs(n, func() float64 { return m.whole(1000000) }))
		}
		for _, part := range []float64{1000000, -1000000, 0, minusNought, 999999, 1} {
			wantSameWholes(t, cxs(n, func() float64 { return part }))
			for at := range n {
				list := make([]impl.Cx, n)
				list[at] = impl.Cx{Re: part, Im: -part}
				wantSameWholes(t, list)
			}
		}
	}
}

// wantSameWholes compares as the language does, which takes a nought for a nought.
func wantSameWholes(t *testing.T, list []impl.Cx) {
	t.Helper()
	if got := impl.BackWaves(impl.Waves(list)); !slices.Equal(got, list) {
		t.Errorf("there and back: %v, want %v", got, list)
	}
}

// Promise 8, of 8 and 16 numbers.
func TestBackWavesOfManyWholes(t *testing.T) {
	m := mixer(87)
	for _, n := range []int{8, 16} {
		for range 3000 {
			wantNearWholes(t, cxs(n, func() float64 { return m.whole(1000) }))
			wantNearWholes(t, cxs(n, func() float64 { return m.among([]float64{1000, -1000}) }))
		}
		for _, part := range []float64{1000, -1000, 0, minusNought, 1} {
			wantNearWholes(t, cxs(n, func() float64 { return part }))
		}
	}
}

func wantNearWholes(t *testing.T, list []impl.Cx) {
	t.Helper()
	got := impl.BackWaves(impl.Waves(list))
	if len(got) != len(list) {
		t.Fatal(len(got), len(list))
	}
	for i, v := range list {
		if !(math.Abs(got[i].Re-v.Re) < 1e-6 && math.Abs(got[i].Im-v.Im) < 1e-6) {
			t.Errorf("number %d there and back: %v, want %v", i, got[i], v)
		}
	}
}

// Waves are near the sums that they stand for, whatever the order of the roundings.
func TestWavesAreSums(t *testing.T) {
	m := mixer(88)
	for _, n := range waveLengths() {
		list := cxs(int(n), m.small)
		for k, got := range impl.Waves(list) {
			sum := complex128(0)
			for i, v := range list {
				sin, cos := math.Sincos(2 * math.Pi * float64(int64(i*k)%n) / float64(n))
				sum += complex(v.Re, v.Im) * complex(cos, -sin)
			}
			if math.Abs(got.Re-real(sum)) > 1e-12 || math.Abs(got.Im-imag(sum)) > 1e-12 {
				t.Errorf("%d of %d: %v, want about %v", k, n, got, sum)
			}
		}
	}
}

func TestWavesAreNewMemory(t *testing.T) {
	mark := impl.Cx{Re: -77, Im: 99}
	m := mixer(89)
	for _, n := range []int{0, 1, 2, 3, 4, 8, 15, 16, 17} {
		for _, waves := range []func([]impl.Cx) []impl.Cx{impl.Waves, impl.BackWaves} {
			list := roomy(cxs(n, m.small), mark)
			was := slices.Clone(list)
			first := waves(list)
			want := slices.Clone(first)
			second := waves(list)
			fillWith(first, mark)
			if !stays(list, was, mark) {
				t.Error("argument written into", n)
			}
			wantCxs(t, "an answer beside another one", second, want)
			wantCxs(t, "what is asked behind a spoilt answer", waves(list), want)
			fillWith(list, mark)
			wantCxs(t, "an answer behind a spoilt argument", second, want)
		}
	}
	for j, want := range sixteenFactors() {
		wantOneCx(t, "a factor behind all that", impl.Factor(16, int64(j)), want)
	}
}

// fillWith writes over all that an answer's owner can reach, its spare room too.
func fillWith[T any](list []T, mark T) {
	list = list[:cap(list)]
	for i := range list {
		list[i] = mark
	}
}

func TestWavesAskedAtOnce(t *testing.T) {
	m := mixer(90)
	list := cxs(16, m.small)
	var group sync.WaitGroup
	answers := make([][]impl.Cx, 32)
	for i := range answers {
		group.Add(1)
		go func() {
			defer group.Done()
			answers[i] = append(impl.Waves(list), impl.Factor(16, int64(i)))
		}()
	}
	group.Wait()
	for i, got := range answers {
		wantCxs(t, i, got, append(plainWaves(list), plainFactor(16, int64(i))))
	}
}
