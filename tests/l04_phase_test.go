package tests

import (
	"slices"
	"testing"

	"loop.example/g00050/impl"
)

// wrapped is the number from -half to half - 1 that differs from n by a multiple of 2 half.
func wrapped(n, half int64) int64 {
	rest := bigModulo(n, 2*half)
	if rest >= half {
		return rest - 2*half
	}
	return rest
}

func halves() []int64 { return []int64{1, 2, 3, 4, 7, 100, 12289, 999999, impl.MaxHalf} }

func noHalves() []int64 {
	return []int64{leastInt, leastInt + 1, -impl.MaxHalf, -2, -1, 0, impl.MaxHalf + 1, impl.MaxHalf + 2, 1 << 32, 1<<32 + 1, 1 << 62, mostInt - 1, mostInt}
}

func TestWrapPlainly(t *testing.T) {
	m := mixer(80)
	for _, half := range halves() {
		list := []int64{0, 1, -1, half - 1, half, half + 1, -half + 1, -half, -half - 1, 2*half - 1, 2 * half, 2*half + 1, -2 * half, 3 * half, -3 * half, impl.MaxPix, impl.MaxPix - 1, -impl.MaxPix, -impl.MaxPix + 1}
		for range 200 {
			list = append(list, m.pick(-impl.MaxPix, impl.MaxPix), m.pick(-5*half, 5*half))
		}
		got := impl.Wrap(list, half)
		if len(got) != len(list) {
			t.Fatal(half, len(got))
		}
		for i, n := range list {
			if got[i] != wrapped(n, half) || got[i] < -half || got[i] > half-1 || (n-got[i])%(2*half) != 0 {
				t.Errorf("%d, half %d: %d, want %d", n, half, got[i], wrapped(n, half))
			}
		}
		wantLists(t, "wrapped twice", impl.Wrap(got, half), got)
	}
	wantLists(t, "half 1", impl.Wrap([]int64{-3, -2, -1, 0, 1, 2, 3}, 1), []int64{-1, 0, -1, 0, -1, 0, -1})
	wantLists(t, "MaxHalf", impl.Wrap([]int64{1000000, -1000000, 999999, -1000001, 1000000000, -1000000000}, 1000000), []int64{-1000000, -1000000, 999999, 999999, 0, 0})
}

// unwrappedOf is the document's rule, or nothing.
func unwrappedOf(list []int64, half int64) []int64 {
	var out []int64
	for i, n := range list {
		if i == 0 {
			out = append(out, n)
			continue
		}
		next := out[i-1] + wrapped(n-list[i-1], half)
		if next < -impl.MaxPix || next > impl.MaxPix {
			return nil
		}
		out = append(out, next)
	}
	return out
}

func TestUnwrapPlainly(t *testing.T) {
	m := mixer(81)
	left := 0
	for _, half := range halves() {
		for range 40 {
			list := make([]int64, m.pick(1, 60))
			for i := range list {
				list[i] = m.pick(-impl.MaxPix, impl.MaxPix)
			}
			if m.pick(1, 4) == 1 {
				list[0] = impl.MaxPix - m.pick(0, 3*half)
			}
			want := unwrappedOf(list, half)
			if want == nil {
				left++
			}
			wantLists(t, half, impl.Unwrap(list, half), want)
		}
	}
	if left < 10 {
		t.Error("too few that leave the range", left)
	}
	wantLists(t, "the first is as it is", impl.Unwrap([]int64{100, 101, 99}, 4), []int64{100, 101, 99})
	wantLists(t, "one number", impl.Unwrap([]int64{-impl.MaxPix}, 1), []int64{-impl.MaxPix})
	wantLists(t, "steps of many rounds", impl.Unwrap([]int64{0, 17, -17}, 4), []int64{0, 1, -1})
}

// Promise 7, its second half.
func TestUnwrapOfWrap(t *testing.T) {
	m := mixer(82)
	for _, half := range halves() {
		for range 30 {
			phase := []int64{m.pick(-impl.MaxPix/4, impl.MaxPix/4)}
			for range m.pick(0, 200) {
				step := m.pick(-half, half-1)
				if m.pick(1, 5) == 1 {
					step = []int64{-half, half - 1}[m.pick(0, 1)]
				}
				phase = append(phase, phase[len(phase)-1]+step)
			}
			wantPhase(t, half, impl.Unwrap(impl.Wrap(phase, half), half), phase, half)
			wantLists(t, "a phase that was not wrapped", impl.Unwrap(phase, half), phase)
		}
	}
}

// wantPhase asks for the phase but for one multiple of 2 half all along.
func wantPhase(t *testing.T, what any, got, phase []int64, half int64) {
	t.Helper()
	if len(got) != len(phase) {
		t.Fatalf("%v: %d numbers, want %d", what, len(got), len(phase))
	}
	off := got[0] - phase[0]
	if off%(2*half) != 0 || got[0] < -half || got[0] >= half {
		t.Errorf("%v: begins at %d, the phase at %d", what, got[0], phase[0])
	}
	for i := range got {
		if got[i]-phase[i] != off {
			t.Fatalf("%v: number %d is %d, the phase is %d, off by %d", what, i, got[i], phase[i], off)
		}
	}
}

// A step of just half can't be told from one of -half, which is the one that is taken.
func TestUnwrapStepsOfHalf(t *testing.T) {
	for _, half := range halves() {
		for _, from := range []int64{0, -half, half - 1, 5} {
			wantLists(t, "a step of half", impl.Unwrap([]int64{from, from + half, from + 2*half}, half), []int64{from, from - half, from - 2*half})
			wantLists(t, "a step of -half", impl.Unwrap([]int64{from, from - half, from - 2*half}, half), []int64{from, from - half, from - 2*half})
			wantLists(t, "a step of half - 1", impl.Unwrap([]int64{from, from + half - 1}, half), []int64{from, from + half - 1})
			wantLists(t, "a step of -half - 1", impl.Unwrap([]int64{from, from - half - 1}, half), []int64{from, from + half - 1})
		}
	}
}

func TestPhaseRefusesHalves(t *testing.T) {
	for _, half := range noHalves() {
		for _, list := range [][]int64{nil, {}, {0}, {1, 2, 3}, {impl.MaxPix, -impl.MaxPix}} {
			wantNoPhase(t, half, list, half)
		}
	}
	for _, half := range []int64{1, impl.MaxHalf} {
		wantLists(t, half, impl.Wrap([]int64{0}, half), []int64{0})
		wantLists(t, half, impl.Unwrap([]int64{0}, half), []int64{0})
		wantNoPhase(t, "an empty list", nil, half)
		wantNoPhase(t, "an empty list", []int64{}, half)
	}
}

func wantNoPhase(t *testing.T, what any, list []int64, half int64) {
	t.Helper()
	defer wantNoPanic(t, what)
	if got := impl.Wrap(list, half); len(got) != 0 {
		t.Errorf("%v: Wrap tells %d numbers", what, len(got))
	}
	if got := impl.Unwrap(list, half); len(got) != 0 {
		t.Errorf("%v: Unwrap tells %d numbers", what, len(got))
	}
}

func TestPhaseLengths(t *testing.T) {
	for _, half := range []int64{1, 4, impl.MaxHalf} {
		list := slices.Repeat([]int64{3, -3}, 2048)
		got := impl.Wrap(list, half)
		if len(got) != 4096 || got[4095] != wrapped(-3, half) {
			t.Error("4096 numbers", half, len(got))
		}
		wantLists(t, "4096 numbers", impl.Unwrap(list, half), unwrappedOf(list, half))
		wantNoPhase(t, "4097 numbers", append(slices.Clone(list), 0), half)
		wantNoPhase(t, "8192 numbers", slices.Repeat(list, 2), half)
		wantNoPhase(t, "a million numbers", make([]int64, 1<<20), half)
	}
}

func TestPhaseNumbers(t *testing.T) {
	for _, n := range []int64{impl.MaxPix + 1, -impl.MaxPix - 1, leastInt, leastInt + 1, mostInt, mostInt - 1, 1 << 32} {
		for _, half := range []int64{1, 5, impl.MaxHalf} {
			for at := range 4 {
				list := []int64{1, 2, 3, 4}
				list[at] = n
				wantNoPhase(t, []any{n, at}, list, half)
			}
			wantNoPhase(t, n, []int64{n}, half)
		}
	}
	for _, n := range []int64{impl.MaxPix, -impl.MaxPix, impl.MaxPix - 1} {
		for _, half := range halves() {
			wantLists(t, n, impl.Wrap([]int64{n, 0, n}, half), []int64{wrapped(n, half), 0, wrapped(n, half)})
			wantLists(t, n, impl.Unwrap([]int64{n}, half), []int64{n})
		}
	}
}

func TestUnwrapAtTheEndsOfTheRange(t *testing.T) {
	const top = impl.MaxPix
	wantLists(t, "reaches MaxPix", impl.Unwrap([]int64{top - 3, top}, 4), []int64{top - 3, top})
	wantLists(t, "reaches MaxPix from below 0", impl.Unwrap([]int64{top - 1, -8, -9}, 4), []int64{top - 1, top, top - 1})
	wantLists(t, "reaches -MaxPix", impl.Unwrap([]int64{-top + 4, -top}, 4), []int64{-top + 4, -top})
	wantLists(t, "would be above MaxPix", impl.Unwrap([]int64{top, 1}, 4), nil)
	wantLists(t, "would be above MaxPix and come back", impl.Unwrap([]int64{top, 1, 0}, 4), nil)
	wantLists(t, "would be below -MaxPix", impl.Unwrap([]int64{-top, -1}, 4), nil)
	wantLists(t, "would be below -MaxPix by a step of half", impl.Unwrap([]int64{-top + 3, -top + 7}, 4), nil)
	wantLists(t, "wrap says more of it", impl.Wrap([]int64{top, 1}, 4), []int64{0, 1})

	steps := int64(1001) // a thousand steps of MaxHalf - 1 from 0 are below MaxPix, one more is above it
	list := make([]int64, 0, steps+1)
	for i := range steps + 1 {
		list = append(list, wrapped(i*(impl.MaxHalf-1), impl.MaxHalf))
	}
	got := impl.Unwrap(list[:steps], impl.MaxHalf)
	if int64(len(got)) != steps || got[steps-1] != 1000*(impl.MaxHalf-1) {
		t.Error("a thousand great steps", len(got))
	}
	wantLists(t, "one step more", impl.Unwrap(list, impl.MaxHalf), nil)
	low := slices.Repeat([]int64{0, -impl.MaxHalf}, 501) // steps of -MaxHalf all the way
	got = impl.Unwrap(low[:1001], impl.MaxHalf)
	if len(got) != 1001 || got[1000] != -impl.MaxPix {
		t.Error("a thousand steps down", len(got))
	}
	wantLists(t, "one step further down", impl.Unwrap(low, impl.MaxHalf), nil)
}

func TestPhaseLeavesArguments(t *testing.T) {
	was := []int64{3, -3, -1, 1, 3, -3}
	for _, call := range []func([]int64, int64) []int64{impl.Wrap, impl.Unwrap} {
		for _, half := range []int64{4, 100} {
			list := roomy(was, 9)
			first, second := call(list, half), call(list, half)
			if !stays(list, was, 9) {
				t.Error("the list changes", half)
			}
			want := slices.Clone(second)
			spoil(first)
			spoil(list)
			wantLists(t, "two answers", second, want)
			wantLists(t, "kept", call(was, half), want)
		}
	}
}

func TestFieldNeverPanics(t *testing.T) {
	m := mixer(83)
	wild := []int64{leastInt, leastInt + 1, -1 << 32, -impl.MaxPix, -12289, -64, -1, 0, 1, 2, 3, 4, 8, 64, 65, 8192, 12288, 12289, impl.MaxPix, impl.MaxPower, 1 << 32, 1 << 62, mostInt - 1, mostInt}
	pick := func() int64 { return wild[m.pick(0, int64(len(wild)-1))] }
	list := func() []int64 {
		out := make([]int64, m.pick(0, 5))
		for i := range out {
			out[i] = pick()
		}
		return out
	}
	image := func() impl.Image {
		if m.pick(1, 2) == 1 {
			return m.image(m.pick(1, 3), m.pick(1, 4), impl.MaxPix)
		}
		return impl.Image{W: pick(), H: pick(), Pix: list()}
	}
	for range 20000 {
		k := impl.KSpace{N: pick(), Have: list(), Pix: list()}
		askField(t, k, []impl.Image{image(), image(), image(), image()}, m.wildPath(int(m.pick(0, 4))), pick(), pick())
	}
	askField(t, impl.KSpace{}, make([]impl.Image, 4), nil, 0, 0)
}

func askField(t *testing.T, k impl.KSpace, list []impl.Image, path []impl.Sample, one, two int64) {
	defer wantNoPanic(t, []any{k, list, one, two})
	impl.Power(one, two)
	impl.RootOf(one)
	impl.Residues(list[0])
	impl.Spectrum(list[0])
	impl.BackSpectrum(list[1])
	impl.KSpaceOk(k)
	impl.Acquire(list[0], path)
	impl.Rebuild(k)
	impl.Fold(list[0], list[1])
	impl.Unfold(list[0], list[1], list[2], list[3])
	impl.Wrap(k.Have, one)
	impl.Unwrap(k.Pix, two)
}
