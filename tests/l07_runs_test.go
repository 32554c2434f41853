package tests

import (
	"fmt"
	"slices"
	"testing"

	"loop.example/g00050/impl"
)

// mask is one of noughts and ones; of 10 pixels so many are ones.
func (m *mixer) mask(w, h, ones int64) impl.Image {
	im := impl.Image{W: w, H: h}
	for range w * h {
		pixel := int64(0)
		if m.pick(1, 10) <= ones {
			pixel = 1
		}
		im.Pix = append(im.Pix, pixel)
	}
	return im
}

// masks are noughts alone, ones alone, ones that change at each pixel, and drawn ones that begin with either.
func (m *mixer) masks(w, h int64) []impl.Image {
	list := []impl.Image{m.mask(w, h, 0), m.mask(w, h, 10)}
	for _, ones := range []int64{1, 3, 5, 7, 9} {
		list = append(list, m.mask(w, h, ones), m.mask(w, h, ones))
	}
	for first := range int64(2) {
		for _, im := range list[2:12] {
			begins := impl.Image{W: w, H: h, Pix: slices.Clone(im.Pix)}
			begins.Pix[0] = first
			list = append(list, begins)
		}
		turns := impl.Image{W: w, H: h}
		for i := range w * h {
			turns.Pix = append(turns.Pix, (i+first)%2)
		}
		list = append(list, turns)
	}
	return list
}

// plainRuns goes through the pixels, a run after the other.
func plainRuns(pixels []int64) []int64 {
	var runs []int64
	for at, kind := 0, int64(0); at < len(pixels); kind = 1 - kind {
		end := at
		for end < len(pixels) && pixels[end] == kind {
			end++
		}
		runs = append(runs, int64(end-at))
		at = end
	}
	return runs
}

// Promise 10, of runs.
func TestRunsAndBack(t *testing.T) {
	m := mixer(135)
	for _, size := range [][2]int64{{1, 1}, {1, 2}, {2, 1}, {3, 3}, {1, 64}, {64, 1}, {7, 5}, {64, 64}, {63, 64}} {
		for i, mask := range m.masks(size[0], size[1]) {
			runs := impl.RunsOf(mask)
			wantLists(t, []any{size, i}, runs, plainRuns(mask.Pix))
			back, ok := impl.FromRuns(mask.W, mask.H, runs)
			wantImage(t, []any{"back", size, i}, back, mask)
			if !ok || !impl.ImageOk(back) {
				t.Error("no mask", size, i)
			}
			wantLists(t, []any{"and again", size, i}, impl.RunsOf(back), runs)
		}
	}
	for range 500 { // from runs to a mask and back
		w, h := m.pick(1, 12), m.pick(1, 12)
		runs := m.runs(w*h, m.pick(1, 9))
		mask, ok := impl.FromRuns(w, h, runs)
		if !ok || !sameImage(mask, impl.Image{W: w, H: h, Pix: mask.Pix}) {
			t.Fatal(w, h, runs)
		}
		wantLists(t, "back to runs", impl.RunsOf(mask), runs)
	}
}

// runs are drawn ones of n pixels, each of at most most; every third list begins with ones.
func (m *mixer) runs(n, most int64) []int64 {
	var list []int64
	if m.pick(1, 3) == 1 {
		list = []int64{0}
	}
	for n > 0 {
		run := m.pick(1, min(most, n))
		list, n = append(list, run), n-run
	}
	return list
}

func TestRunsByHand(t *testing.T) {
	for _, c := range []struct {
		w, h      int64
		pix, want []int64
	}{
		{1, 1, []int64{0}, []int64{1}},
		{1, 1, []int64{1}, []int64{0, 1}},
		{2, 2, []int64{0, 0, 0, 0}, []int64{4}},
		{2, 2, []int64{1, 1, 1, 1}, []int64{0, 4}},
		{3, 1, []int64{0, 1, 0}, []int64{1, 1, 1}},
		{3, 1, []int64{1, 0, 1}, []int64{0, 1, 1, 1}},
		{2, 3, []int64{0, 1, 1, 0, 0, 0}, []int64{1, 2, 3}}, // runs go on over the end of a row
	} {
		mask := impl.Image{W: c.w, H: c.h, Pix: c.pix}
		wantLists(t, c.pix, impl.RunsOf(mask), c.want)
		back, ok := impl.FromRuns(c.w, c.h, c.want)
		wantImage(t, c.want, back, mask)
		if !ok {
			t.Error(c.want)
		}
	}
}

func TestRunsOfNoMask(t *testing.T) {
	for _, im := range wrongImages() {
		if runs := impl.RunsOf(im); len(runs) != 0 {
			t.Error(im, runs)
		}
	}
	for _, pixel := range []int64{2, -1, 3, -2, 1 << 32, 1<<32 + 1, impl.MaxPix, -impl.MaxPix, leastInt, mostInt} {
		for at := range 6 {
			im := impl.Image{W: 3, H: 2, Pix: []int64{0, 1, 1, 0, 0, 1}}
			im.Pix[at] = pixel
			if runs := impl.RunsOf(im); len(runs) != 0 {
				t.Error(im, runs)
			}
		}
	}
}

func wantNoMask(t *testing.T, what any, w, h int64, runs []int64) {
	t.Helper()
	defer wantNoPanic(t, what)
	if im, ok := impl.FromRuns(w, h, runs); ok || !isZeroImage(im) {
		t.Errorf("%v: %d x %d of %s: %v", what, w, h, brief(runs), im)
	}
}

func TestFromRunsAtTheLimits(t *testing.T) {
	for _, side := range []int64{leastInt, leastInt + 1, -1 << 32, -64, -1, 0, 1, 2, 63, 64, 65, 128, 1 << 32, 1<<32 + 1, 1 << 62, mostInt - 1, mostInt} {
		for _, other := range []int64{1, 64} {
			right := side >= 1 && side <= 64
			for _, c := range [][2]int64{{side, other}, {other, side}} {
				runs := []int64{side * other}
				if im, ok := impl.FromRuns(c[0], c[1], runs); ok != right || right && (im.W != c[0] || im.H != c[1] || int64(len(im.Pix)) != side*other) {
					t.Error(c, ok, im.W, im.H)
				}
				if !right {
					wantNoMask(t, c, c[0], c[1], nil)
					wantNoMask(t, c, c[0], c[1], []int64{0})
					wantNoMask(t, c, c[0], c[1], []int64{1})
					wantNoMask(t, c, c[0], c[1], []int64{64})
				}
			}
		}
	}
	wantNoMask(t, "both below 0", -2, -3, []int64{6})
	wantNoMask(t, "a product that wraps round", 1<<32, 1<<32, []int64{0})
	wantNoMask(t, "nothing", 0, 0, nil)
}

// noRuns are lists that are no runs of n pixels; n is at least 4.
func noRuns(n int64) [][]int64 {
	list := [][]int64{nil, {}, {0}, {n - 1}, {n + 1}, {0, n - 1}, {0, n + 1}, {1, n - 2}, {1, n}, {n, 1}, {1, 1}, {0, 0, n}, {n, 0}, {0, n, 0}, {1, 0, n - 1}, {0, 1, 0, n - 1}, {0, 0},
		{-1, n + 1}, {-1, 1, n}, {n + 1, -1}, {0, n + 1, -1}, {1, n, -1}, {n - 1, 2, -1}, {0, -1, n + 1}, {-n, n, n}, {2, -2, n}, {-n}, {0, -n},
		{leastInt}, {mostInt}, {leastInt, leastInt, n}, {leastInt, mostInt, n + 1}, {mostInt, mostInt, n + 2}, {0, mostInt, mostInt, n + 2}, {1 << 62, 1 << 62, 1 << 62, 1 << 62, n}, {0, 1 << 62, 1 << 62, 1 << 62, 1 << 62, n},
		{1, mostInt, mostInt, n + 1}, {n, leastInt, leastInt}, {0, n, leastInt, leastInt}, {1, leastInt, leastInt, n - 1}, {leastInt, n, leastInt}, {mostInt, n + 1, leastInt}, {1 << 32, n - 1<<32}}
	many := slices.Repeat([]int64{1}, int(n))
	short := slices.Concat([]int64{0}, many)
	return append(list, many[:n-1], append(slices.Clone(many), 1), short[:n], append(slices.Clone(short), 1), append(slices.Clone(many), 0), make([]int64, n), make([]int64, 100000))
}

func TestFromRunsOfNoRuns(t *testing.T) {
	for _, size := range [][2]int64{{2, 2}, {3, 4}, {1, 64}, {64, 64}} {
		for i, runs := range noRuns(size[0] * size[1]) {
			wantNoMask(t, i, size[0], size[1], runs)
		}
	}
	wantNoMask(t, "one pixel, no runs", 1, 1, nil)
	wantNoMask(t, "one pixel, no ones", 1, 1, []int64{0})
	wantNoMask(t, "one pixel, nought at the end", 1, 1, []int64{1, 0})
	wantNoMask(t, "one pixel, three runs", 1, 1, []int64{0, 0, 1})
	for _, n := range []int64{1, 2, 63, 64} { // as many runs as there can be
		runs := append([]int64{0}, slices.Repeat([]int64{1}, int(n))...)
		if _, ok := impl.FromRuns(n, 1, runs); !ok {
			t.Error("all runs of one", n)
		}
		if _, ok := impl.FromRuns(1, n, runs[1:]); !ok {
			t.Error("all runs of one, from a nought on", n)
		}
	}
}

func allOps() []int64 { return []int64{impl.OpBoth, impl.OpEither, impl.OpFirst} }

// plainJoin says it pixel by pixel.
func plainJoin(a, b []int64, op int64) []int64 {
	out := make([]int64, len(a))
	for i := range a {
		one, other := a[i] == 1, b[i] == 1
		if op == impl.OpBoth && one && other || op == impl.OpEither && (one || other) || op == impl.OpFirst && one && !other {
			out[i] = 1
		}
	}
	return out
}

// Promise 10, of joining.
func TestJoinRunsIsSaidPixelByPixel(t *testing.T) {
	m := mixer(136)
	for _, size := range [][2]int64{{1, 1}, {2, 1}, {3, 3}, {9, 5}, {64, 64}} {
		masks := m.masks(size[0], size[1])
		for i, a := range masks {
			for _, b := range []impl.Image{masks[m.pick(0, int64(len(masks)-1))], masks[0], masks[1], a} {
				for _, op := range allOps() {
					want := impl.Image{W: a.W, H: a.H, Pix: plainJoin(a.Pix, b.Pix, op)}
					got := impl.JoinRuns(a.W*a.H, impl.RunsOf(a), impl.RunsOf(b), op)
					wantLists(t, []any{size, i, op}, got, impl.RunsOf(want))
					wantLists(t, []any{size, i, op}, got, plainRuns(want.Pix))
				}
			}
		}
	}
}

// All pairs of masks of few pixels.
func TestJoinRunsOfAllSmallMasks(t *testing.T) {
	for n := int64(1); n <= 5; n++ {
		for a := range int64(1) << n {
			for b := range int64(1) << n {
				one, other := bitsOfMask(a, n), bitsOfMask(b, n)
				for _, op := range allOps() {
					wantLists(t, []any{one, other, op}, impl.JoinRuns(n, plainRuns(one), plainRuns(other), op), plainRuns(plainJoin(one, other, op)))
				}
			}
		}
	}
}

func bitsOfMask(bits, n int64) []int64 {
	var list []int64
	for i := range n {
		list = append(list, bits>>i&1)
	}
	return list
}

func TestJoinRunsByHand(t *testing.T) {
	ones, noughts := []int64{0, 6}, []int64{6}
	for _, c := range []struct{ a, b, both, either, first []int64 }{
		{[]int64{0, 2, 3, 1}, []int64{1, 3, 2}, []int64{1, 1, 4}, []int64{0, 4, 1, 1}, []int64{0, 1, 4, 1}},
		{ones, noughts, []int64{6}, []int64{0, 6}, []int64{0, 6}},
		{noughts, ones, []int64{6}, []int64{0, 6}, []int64{6}},
		{ones, ones, []int64{0, 6}, []int64{0, 6}, []int64{6}},
		{[]int64{0, 1, 1, 1, 1, 1, 1}, []int64{1, 1, 1, 1, 1, 1}, []int64{6}, []int64{0, 6}, []int64{0, 1, 1, 1, 1, 1, 1}},
		{[]int64{5, 1}, []int64{0, 1, 5}, []int64{6}, []int64{0, 1, 4, 1}, []int64{5, 1}},
	} {
		wantLists(t, c, impl.JoinRuns(6, c.a, c.b, impl.OpBoth), c.both)
		wantLists(t, c, impl.JoinRuns(6, c.a, c.b, impl.OpEither), c.either)
		wantLists(t, c, impl.JoinRuns(6, c.a, c.b, impl.OpFirst), c.first)
	}
}

func wantNoJoin(t *testing.T, what any, n int64, a, b []int64, op int64) {
	t.Helper()
	defer wantNoPanic(t, what)
	if got := impl.JoinRuns(n, a, b, op); len(got) != 0 {
		t.Errorf("%v: %s", what, brief(got))
	}
}

func TestJoinRunsAtTheLimits(t *testing.T) {
	for _, n := range []int64{leastInt, leastInt + 1, -1 << 32, -1, 0, 1, 2, impl.MaxList - 1, impl.MaxList, impl.MaxList + 1, 1 << 32, 1<<32 + 1, mostInt - 1, mostInt} {
		for _, op := range []int64{leastInt, leastInt + 1, -1 << 32, -1, 0, 1, 2, 3, 4, 5, 1 << 32, 1<<32 + 1, mostInt} {
			for _, lists := range [][2][]int64{{{n}, {0, n}}, {{0, n}, {n}}, {{0, n}, {0, n}}} {
				if n < 1 || n > 4096 || op < 1 || op > 3 {
					wantNoJoin(t, []any{n, op}, n, lists[0], lists[1], op)
				} else if got := impl.JoinRuns(n, lists[0], lists[1], op); len(got) == 0 {
					t.Error("nothing", n, op)
				}
			}
			if n <= 0 {
				wantNoJoin(t, []any{n, op}, n, nil, nil, op)
				wantNoJoin(t, []any{n, op}, n, []int64{0}, []int64{0}, op)
			}
		}
	}
	most := slices.Repeat([]int64{1}, impl.MaxList)
	wantLists(t, "as many runs as there can be", impl.JoinRuns(impl.MaxList, append([]int64{0}, most...), most, impl.OpFirst), append([]int64{0}, most...))
	wantNoJoin(t, "one too many", impl.MaxList+1, append(most, 1), append(most, 1), impl.OpBoth)
}

func TestJoinRunsOfNoRuns(t *testing.T) {
	for _, n := range []int64{4, 6, 100, impl.MaxList} {
		for i, wrong := range noRuns(n) {
			for _, op := range allOps() {
				for _, right := range [][]int64{{n}, {0, n}, {1, n - 1}} {
					wantNoJoin(t, []any{"the first", n, i}, n, wrong, right, op)
					wantNoJoin(t, []any{"the second", n, i}, n, right, wrong, op)
				}
				wantNoJoin(t, []any{"both", n, i}, n, wrong, wrong, op)
			}
		}
	}
}

func TestRunsAreNewMemory(t *testing.T) {
	m := mixer(137)
	for _, mask := range m.masks(5, 4) {
		was := slices.Clone(mask.Pix)
		wasRuns, wasOther := plainRuns(was), m.runs(20, 4)
		im := impl.Image{W: 5, H: 4, Pix: roomy(was, 7)}
		runs, other := roomy(wasRuns, 8), roomy(wasOther, 9)
		answers, again := runAnswers(im, runs, other), runAnswers(im, runs, other)
		if !stays(im.Pix, was, 7) || !stays(runs, wasRuns, 8) || !stays(other, wasOther, 9) {
			t.Error("an argument changes", was)
		}
		want := fmt.Sprint(again)
		for _, list := range append(answers, im.Pix, runs, other) {
			spoil(list)
		}
		if got := fmt.Sprint(again); got != want {
			t.Errorf("shared memory: %s, was %s", got, want)
		}
		for i := range again {
			spoil(again[i])
			for _, later := range again[i+1:] {
				if slices.Contains(later, -12345) {
					t.Error("two answers are one", i)
				}
			}
		}
	}
	wrong := roomy([]int64{3, 0, 3}, 7) // refused, and as it was
	impl.FromRuns(3, 2, wrong)
	impl.JoinRuns(6, wrong, wrong, impl.OpBoth)
	if !stays(wrong, []int64{3, 0, 3}, 7) {
		t.Error("refused runs change")
	}
}

func runAnswers(mask impl.Image, runs, other []int64) [][]int64 {
	back, _ := impl.FromRuns(mask.W, mask.H, runs)
	list := [][]int64{impl.RunsOf(mask), back.Pix}
	for _, op := range allOps() {
		list = append(list, impl.JoinRuns(20, runs, other, op), impl.JoinRuns(20, runs, runs, op))
	}
	return list
}

func TestFramesNeverPanic(t *testing.T) {
	m := mixer(138)
	wild := []int64{leastInt, leastInt + 1, -1 << 32, -impl.MaxPix, -impl.MaxEntry - 1, -impl.MaxEntry, -impl.MaxTone, -2, -1, 0, 1, 2, 3, 4, 6, 9, 32, 33, 64, impl.MaxTone, impl.MaxList, impl.MaxEntry, impl.MaxEntry + 1, impl.MaxPix, 1 << 62, mostInt - 1, mostInt}
	pick := func() int64 { return wild[m.pick(0, int64(len(wild)-1))] }
	list := func(n int64) []int64 {
		var out []int64
		for range n {
			out = append(out, pick())
		}
		return out
	}
	frame := func() impl.Frame {
		switch m.pick(0, 3) {
		case 0:
			return impl.Frame{M: list(m.pick(0, 11)), T: list(m.pick(0, 4)), D: pick()}
		case 1:
			return impl.Frame{M: list(9), T: list(3), D: pick()}
		}
		return m.frame(impl.MaxEntry, impl.MaxEntry)
	}
	for range 20000 {
		v := impl.Volume{NX: pick(), NY: pick(), NZ: pick(), Vox: list(m.pick(0, 9))}
		im := impl.Image{W: pick(), H: pick(), Pix: list(m.pick(0, 9))}
		if m.pick(1, 2) == 1 {
			v, im = m.volume(2, 1, 2, impl.MaxTone), m.mask(2, 3, 5)
		}
		askFrames(t, frame(), frame(), v, im, list(m.pick(0, 5)), pick)
	}
	askFrames(t, impl.Frame{}, impl.Frame{}, impl.Volume{}, impl.Image{}, nil, func() int64 { return 0 })
}

func askFrames(t *testing.T, a, b impl.Frame, v impl.Volume, im impl.Image, runs []int64, pick func() int64) {
	n := []int64{pick(), pick(), pick()}
	defer wantNoPanic(t, []any{a, b, v, im, runs, n})
	impl.FrameOk(a)
	impl.SameFrame(a, b)
	impl.Compose(a, b)
	impl.Invert(a)
	impl.Handed(a)
	impl.Move(a, n[0], n[1], n[2])
	impl.VolumeOk(v)
	impl.Reslice(v, a, n[0], n[1], n[2])
	impl.Brightest(v, n[0])
	impl.Window(im, n[0], n[1])
	impl.RunsOf(im)
	impl.FromRuns(n[0], n[1], runs)
	impl.JoinRuns(n[0], runs, runs, n[1])
}
