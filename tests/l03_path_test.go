package tests

import (
	"math/big"
	"slices"
	"testing"

	"loop.example/g00050/impl"
)

func wantPath(t *testing.T, text string, want ...impl.Sample) {
	t.Helper()
	if got := impl.Path(parse(t, text)); !slices.Equal(got, want) {
		t.Errorf("the path of %q is %v, want %v", text, got, want)
	}
}

func TestPathReads(t *testing.T) {
	wantPath(t, "")
	wantPath(t, "wait 5; at 9; grad x 3 4; rf x 1")
	wantPath(t, "read 1", impl.Sample{})
	wantPath(t, "at 7; read 3; wait 5; read 1",
		impl.Sample{Tick: 7}, impl.Sample{Tick: 8, KX: 1}, impl.Sample{Tick: 9, KX: 2}, impl.Sample{Tick: 15, KX: 3})
	wantPath(t, "grad x -5 3; grad y 999 2; read 2; grad x 2 1; grad y -1000 9; read 1",
		impl.Sample{Tick: 5, KX: -5, KY: 999}, impl.Sample{Tick: 6, KX: -4, KY: 999}, impl.Sample{Tick: 17, KX: -1, KY: -1})
	wantPath(t, "grad x 0 10000; read 1", impl.Sample{Tick: 10000})
	wantPath(t, "loop 2; read 1; grad y 1 1; end; read 1",
		impl.Sample{}, impl.Sample{Tick: 2, KX: 1, KY: 1}, impl.Sample{Tick: 4, KX: 2, KY: 2})
}

// Each turn from the spin (0, 0, 1), written out.
func TestPathTurnsOnce(t *testing.T) {
	for text, spin := range map[string][2]int64{
		"x 1": {0, -1}, "x 2": {0, 0}, "x 3": {0, 1},
		"y 1": {1, 0}, "y 2": {0, 0}, "y 3": {-1, 0},
		"z 1": {0, 0}, "z 2": {0, 0}, "z 3": {0, 0},
	} {
		wantPath(t, "rf "+text+"; read 1", impl.Sample{Tick: 2, SX: spin[0], SY: spin[1]})
	}
	for text, spin := range map[string][2]int64{
		"x 1; wait 2; rf z 1": {1, 0}, "x 1; wait 2; rf z 2": {0, 1}, "x 1; wait 2; rf z 3": {-1, 0},
		"y 1; wait 2; rf z 1": {0, 1}, "y 1; wait 2; rf z 2": {-1, 0}, "y 1; wait 2; rf z 3": {0, -1},
		"x 1; wait 2; rf x 1": {0, 0}, "x 1; wait 2; rf x 2": {0, 1}, "x 1; wait 2; rf y 3": {0, -1},
		"y 1; wait 2; rf y 1": {0, 0}, "y 1; wait 2; rf y 2": {-1, 0}, "y 1; wait 2; rf x 3": {1, 0},
	} {
		wantPath(t, "rf "+text+"; read 1", impl.Sample{Tick: 6, SX: spin[0], SY: spin[1]})
	}
}

func TestPathPlaceBehindTurns(t *testing.T) {
	for text, place := range map[string][2]int64{
		"x 1": {0, 0}, "x 2": {-7, 9}, "x 3": {0, 0},
		"y 1": {0, 0}, "y 2": {-7, 9}, "y 3": {0, 0},
		"z 1": {7, -9}, "z 2": {7, -9}, "z 3": {7, -9},
	} {
		got := impl.Path(parse(t, "grad x 7 1; grad y -9 1; rf "+text+"; read 2"))
		if len(got) != 2 || got[0].KX != place[0] || got[0].KY != place[1] || got[1].KX != place[0]+1 || got[1].KY != place[1] {
			t.Errorf("rf %s: %v, want the place %v", text, got, place)
		}
	}
}

// Every three turns, so that each spin meets each turn.
func TestPathTurnsThrice(t *testing.T) {
	turns := []impl.Pulse{}
	for axis := int64(1); axis <= 3; axis++ {
		for n := int64(1); n <= 3; n++ {
			turns = append(turns, rf(axis, n))
		}
	}
	for _, a := range turns {
		for _, b := range turns {
			for _, c := range turns {
				ps := []impl.Pulse{a, read(2), b, grad(1, 5, 1), read(2), c, grad(2, 3, 1), read(1)}
				list, _, code := unrolled(ps)
				if got := impl.Path(ps); code != 0 || len(got) != 5 || !slices.Equal(got, sampled(list)) {
					t.Fatal(ps, got)
				}
			}
		}
	}
}

func TestPathSamples(t *testing.T) {
	full := looped(32, read(256))
	got := impl.Path(full)
	if len(got) != 8192 || got[8191] != (impl.Sample{Tick: 8191, KX: 8191}) {
		t.Error("8192 samples", len(got))
	}
	for _, more := range []impl.Pulse{read(1), read(256)} {
		if got := impl.Path(append(slices.Clone(full), more)); len(got) != 0 {
			t.Error(more, len(got))
		}
	}
	if got := impl.Path(append(slices.Clone(full), wait(1), rf(1, 1))); len(got) != 8192 {
		t.Error("8192 samples and orders behind", len(got))
	}
	if got := impl.Path(nested(1, 6, looped(64, read(256))...)); len(got) != 0 {
		t.Error("98304 samples", len(got))
	}
	if got := impl.Path(append([]impl.Pulse{read(1)}, looped(64, read(128))...)); len(got) != 0 {
		t.Error("8193 samples", len(got))
	}
}

func TestPathWhereUnrollRefuses(t *testing.T) {
	for code, text := range map[int64]string{
		impl.RunMany:  "read 1; loop 40; loop 50; wait 1; end; end",
		impl.RunLate:  "read 9; at 8",
		impl.RunNear:  "rf x 1; read 1; rf x 1",
		impl.RunTicks: "read 1; at 100000; read 1",
	} {
		ps := parse(t, text)
		if _, _, got := impl.Unroll(ps); got != code {
			t.Error(text, got)
		}
		if path := impl.Path(ps); len(path) != 0 {
			t.Errorf("%q has a path: %v", text, path)
		}
	}
}

// squarePath has each place of a square of n once.
func squarePath(n int64) []impl.Sample {
	var path []impl.Sample
	for v := range n {
		for u := range n {
			path = append(path, impl.Sample{KX: u, KY: v})
		}
	}
	return path
}

func wantCovers(t *testing.T, what any, path []impl.Sample, n int64, want bool) {
	t.Helper()
	if impl.Covers(path, n) != want {
		t.Errorf("%v: Covers of %d samples and %d is %v", what, len(path), n, !want)
	}
}

func TestCoversSides(t *testing.T) {
	for _, n := range []int64{leastInt, leastInt + 1, -1 << 32, -64, -2, -1, 0, 65, 66, 128, 1 << 32, 1<<32 + 1, 1 << 62, mostInt - 1, mostInt} {
		wantCovers(t, "no side", squarePath(64), n, false)
		wantCovers(t, "no side and no path", nil, n, false)
	}
	for n := int64(65); n <= 90; n++ { // 90 times 90 are below MaxSamples still
		wantCovers(t, "no side, but each place", squarePath(n), n, false)
	}
	for n := int64(1); n <= 64; n++ {
		path := squarePath(n)
		wantCovers(t, "each place once", path, n, true)
		wantCovers(t, "the last one missing", path[:len(path)-1], n, false)
		wantCovers(t, "the first one missing", path[1:], n, false)
		wantCovers(t, "nothing", nil, n, false)
		wantCovers(t, "a greater square", squarePath(64), n, true)
	}
}

func TestCoversEachPlace(t *testing.T) {
	for _, n := range []int64{2, 3, 5, 8} {
		for left := range n * n {
			path := squarePath(n)
			twice := path[(left+1)%(n*n)]
			path[left] = twice
			wantCovers(t, left, path, n, false)
		}
	}
	wantCovers(t, "turned round", []impl.Sample{{KX: 0, KY: 0}, {KX: 1, KY: 0}, {KX: 0, KY: 1}, {KX: 0, KY: 1}}, 2, false)
}

// Places far off, on either side: only what is left modulo n counts.
func TestCoversModulo(t *testing.T) {
	for _, n := range []int64{1, 2, 3, 7, 8, 63, 64} {
		for _, from := range []int64{-1, -n, -n - 1, -5*n + 1, leastInt, leastInt + 1, mostInt - n + 1, mostInt - n} {
			path := squarePath(n)
			for i := range path {
				path[i].KX += from
				path[i].KY += from
			}
			wantCovers(t, from, path, n, true)
			path[0].KX, path[0].KY = path[len(path)-1].KX, path[len(path)-1].KY
			wantCovers(t, from, path, n, n == 1)
		}
	}
}

func TestCoversThrown(t *testing.T) {
	m := mixer(45)
	covered := 0
	for range 3000 {
		n := m.pick(1, 5)
		path := make([]impl.Sample, m.pick(0, 90))
		seen := map[[2]int64]bool{}
		for i := range path {
			path[i] = impl.Sample{Tick: m.pick(-9, 9), KX: int64(m.next()), KY: int64(m.next()), SX: m.pick(-1, 1), SY: m.pick(-1, 1)}
			seen[[2]int64{bigModulo(path[i].KX, n), bigModulo(path[i].KY, n)}] = true
		}
		want := int64(len(seen)) == n*n
		if want {
			covered++
		}
		wantCovers(t, path, path, n, want)
	}
	if covered < 300 || covered > 2700 {
		t.Error("too one-sided", covered)
	}
}

func bigModulo(x, n int64) int64 {
	return new(big.Int).Mod(big.NewInt(x), big.NewInt(n)).Int64()
}

func TestCoversLongPaths(t *testing.T) {
	path := slices.Concat(squarePath(64), squarePath(64))
	wantCovers(t, "8192 samples", path, 64, true)
	wantCovers(t, "8192 samples", path, 1, true)
	path = append(path, impl.Sample{})
	wantCovers(t, "8193 samples", path, 64, false)
	wantCovers(t, "8193 samples", path, 1, false)
	wantCovers(t, "a million samples", make([]impl.Sample, 1<<20), 1, false)
	far := make([]impl.Sample, 8192)
	far[8191] = impl.Sample{KX: 1}
	far[8190] = impl.Sample{KX: 1, KY: 1}
	far[8189] = impl.Sample{KY: 1}
	wantCovers(t, "the last of 8192 samples", far, 2, true)
}

// Promise 5.
func TestRasterCovers(t *testing.T) {
	for n := int64(1); n <= 64; n *= 2 {
		ps := impl.Raster(n)
		if !impl.SeqOk(ps) || int64(len(ps)) != 4*n-1 {
			t.Errorf("%d: %d orders", n, len(ps))
		}
		path := impl.Path(ps)
		if int64(len(path)) != n*n {
			t.Errorf("%d: %d samples", n, len(path))
		}
		wantCovers(t, "raster", path, n, true)
		wantCovers(t, "raster", path[1:], n, false)
		for i, s := range path {
			if s.KX != int64(i)%n || s.KY != int64(i)/n {
				t.Fatalf("%d: sample %d is at %d, %d", n, i, s.KX, s.KY)
			}
		}
		wantParse(t, impl.ShowSeq(ps), ps, impl.SeqFault{})
	}
}

func TestRasterOrders(t *testing.T) {
	for n, want := range map[int64]string{
		1: "rf x 1; read 1; wait 4",
		2: "rf x 1; read 2; wait 4; rf x 1; grad y 1 4; read 2; wait 4",
		4: "rf x 1; read 4; wait 4; rf x 1; grad y 1 4; read 4; wait 4; rf x 1; grad y 2 4; read 4; wait 4; rf x 1; grad y 3 4; read 4; wait 4",
	} {
		if got := impl.ShowSeq(impl.Raster(n)); got != want {
			t.Errorf("%d: %q", n, got)
		}
	}
	ps := impl.Raster(64)
	if len(ps) != 255 || ps[252] != grad(impl.AxY, 63, 4) || ps[253] != read(64) || ps[254] != wait(4) {
		t.Error(len(ps))
	}
}

func TestRasterOfNoSide(t *testing.T) {
	list := []int64{leastInt, leastInt + 1, -1 << 32, mostInt, mostInt - 1, 1 << 32, 1 << 62, 1<<32 + 1, 256, 4096}
	for n := int64(-130); n <= 130; n++ {
		if !slices.Contains([]int64{1, 2, 4, 8, 16, 32, 64}, n) {
			list = append(list, n)
		}
	}
	for _, n := range list {
		if ps := impl.Raster(n); len(ps) != 0 {
			t.Errorf("%d: %v", n, ps)
		}
	}
}

func TestPathNewMemory(t *testing.T) {
	ps := impl.Raster(4)
	was := slices.Clone(ps)
	path := impl.Path(ps)
	samples := slices.Clone(path)
	again := impl.Path(ps)
	clear(path[:cap(path)])
	if !slices.Equal(again, samples) || !slices.Equal(impl.Path(was), samples) {
		t.Error("two answers of Path share memory")
	}
	clear(ps[:cap(ps)])
	if !slices.Equal(impl.Raster(4), was) {
		t.Error("two answers of Raster share memory")
	}
	mark := impl.Sample{Tick: -9, KX: -9, KY: -9, SX: -9, SY: -9}
	list := roomy(samples, mark)
	wantCovers(t, "with room", list, 4, true)
	wantCovers(t, "with room", list, 3, true)
	wantCovers(t, "with room", list[:15:16], 4, false)
	if !stays(list, samples, mark) {
		t.Error("Covers changes its path")
	}
}

func TestPulsesNeverPanic(t *testing.T) {
	m := mixer(46)
	wild := []int64{leastInt, leastInt + 1, -1 << 32, -1000, -1, 0, 1, 2, 3, 4, 7, 8, 64, 256, 1000, 1 << 32, mostInt - 1, mostInt}
	pick := func() int64 { return wild[m.pick(0, int64(len(wild)-1))] }
	for range 20000 {
		ps := make([]impl.Pulse, m.pick(0, 6))
		path := make([]impl.Sample, len(ps))
		for i := range ps {
			ps[i] = impl.Pulse{Kind: m.pick(-1, 9), Axis: pick(), N: pick(), Ticks: pick()}
			if m.pick(1, 2) == 1 {
				ps[i].Axis, ps[i].Ticks = m.pick(0, 2), m.pick(0, 1)
			}
			path[i] = impl.Sample{Tick: pick(), KX: pick(), KY: pick(), SX: pick(), SY: pick()}
		}
		askPulses(t, ps, path, pick(), string([]byte{byte(m.next()), byte(m.next()), byte(m.next())}))
	}
	askPulses(t, nil, nil, 0, "")
}

func askPulses(t *testing.T, ps []impl.Pulse, path []impl.Sample, n int64, text string) {
	defer wantNoPanic(t, ps)
	if len(ps) > 0 {
		impl.PulseOk(ps[0])
	}
	impl.SeqOk(ps)
	impl.ShowSeq(ps)
	impl.Unroll(ps)
	impl.Path(ps)
	impl.Covers(path, n)
	impl.Raster(n)
	impl.ParseSeq(text)
}
