package tests

import (
	"testing"

	"loop.example/g00050/impl"
)

// wantRegions asks for what promise 12 says: each pixel hangs together, by pixels of the same owner, with one that was this owner's seed.
func wantRegions(t *testing.T, what any, got, seeds impl.Image) {
	t.Helper()
	held := make([]bool, len(got.Pix))
	for place, seed := range seeds.Pix {
		if seed == 0 || held[place] {
			continue
		}
		held[place] = true
		line := []int64{int64(place)}
		for len(line) > 0 {
			at := line[0]
			line = line[1:]
			for _, step := range besides() {
				x, y := at%got.W+step[0], at/got.W+step[1]
				if owner, stands := pixelAt(got, x, y); stands && owner == seed && !held[y*got.W+x] {
					held[y*got.W+x] = true
					line = append(line, y*got.W+x)
				}
			}
		}
	}
	for place, owner := range got.Pix {
		if seed := seeds.Pix[place]; seed != 0 && seed != owner {
			t.Fatalf("%v: seed %d at %d became %d", what, seed, place, owner)
		}
		if (owner != 0) != held[place] {
			t.Fatalf("%v: %d at %d does not hang together with its seed", what, owner, place)
		}
	}
}

func wantWatershed(t *testing.T, what any, im, seeds impl.Image) {
	t.Helper()
	got := impl.Watershed(im, seeds)
	wantImage(t, what, got, plainWatershed(im, seeds))
	if len(got.Pix) == len(seeds.Pix) {
		wantRegions(t, what, got, seeds)
	}
}

// seedImage has seeds at about one pixel of so many.
func (m *mixer) seedImage(w, h, most, outOf int64) impl.Image {
	return drawnImage(w, h, func(_, _ int64) int64 { return m.pick(1, most) * oneIf(m.pick(1, outOf) == 1) })
}

func TestWatershedsPlainly(t *testing.T) {
	m := mixer(164)
	for range 1500 {
		w, h := m.pick(1, 9), m.pick(1, 9)
		im, seeds := m.greyImage(w, h, []int64{0, 1, 2, 5, 255}[m.pick(0, 4)]), m.seedImage(w, h, m.pick(1, 255), m.pick(1, 20))
		wantWatershed(t, []any{im, seeds}, im, seeds)
	}
	for _, size := range sizesOfImages() {
		if size[0]*size[1] < 4096 {
			for _, most := range []int64{0, 1, 3, 255} {
				im, seeds := m.greyImage(size[0], size[1], most), m.seedImage(size[0], size[1], 255, 9)
				wantWatershed(t, size, im, seeds)
			}
		}
	}
	im, seeds := m.greyImage(24, 20, 3), m.seedImage(24, 20, 255, 60)
	wantWatershed(t, "24 by 20", im, seeds)
}

// The greatest images once, since the plain way goes through all of them at each step.
func TestGreatWatersheds(t *testing.T) {
	m := mixer(165)
	im, seeds := m.greyImage(64, 64, 4), m.seedImage(64, 64, 255, 500)
	wantWatershed(t, "64 by 64", im, seeds)
	flat, lone := drawnImage(64, 64, func(_, _ int64) int64 { return 255 }), drawnImage(64, 64, func(x, y int64) int64 { return 9 * oneIf(x == 63 && y == 63) })
	wantSoon(t, "one seed", func() {
		wantImage(t, "one seed", impl.Watershed(flat, lone), drawnImage(64, 64, func(_, _ int64) int64 { return 9 }))
	})
}

// Every image of noughts and ones of six pixels, with every choice of two seeds.
func TestSmallWatersheds(t *testing.T) {
	for _, size := range [][2]int64{{3, 2}, {2, 3}, {6, 1}, {1, 6}} {
		for bits := range int64(1) << 6 {
			im := impl.Image{W: size[0], H: size[1], Pix: bitsOfMask(bits, 6)}
			for choice := range int64(729) {
				seeds, left := impl.Image{W: size[0], H: size[1]}, choice
				for range 6 {
					seeds.Pix = append(seeds.Pix, left%3)
					left /= 3
				}
				wantWatershed(t, []any{im, seeds}, im, seeds)
			}
		}
	}
}

func TestWatershedsByHand(t *testing.T) {
	for _, c := range []struct {
		what            string
		im, seeds, want []string
	}{
		{"no seed", []string{"12", "34"}, []string{"..", ".."}, []string{"..", ".."}},
		{"one pixel, no seed", []string{"0"}, []string{"."}, []string{"."}},
		{"one pixel, one seed", []string{"9"}, []string{"7"}, []string{"7"}},
		{"one seed has all", []string{"191", "919", "191"}, []string{"...", ".5.", "..."}, []string{"555", "555", "555"}},
		{"a seed at each pixel", []string{"12", "34"}, []string{"98", "76"}, []string{"98", "76"}},
		{"like tones, a row: the first seed is ahead at each step", []string{"00000"}, []string{"7...9"}, []string{"77799"}},
		{"like tones, a longer row", []string{"0000000"}, []string{"7.....9"}, []string{"7777999"}},
		{"like tones, an even row", []string{"000000"}, []string{"7....9"}, []string{"777999"}},
		{"a column", []string{"0", "0", "0", "0", "0"}, []string{"7", ".", ".", ".", "9"}, []string{"7", "7", "7", "9", "9"}},
		{"the lower tone goes first", []string{"00100"}, []string{"7...9"}, []string{"77799"}},
		{"a pixel that was met early waits for its tone", []string{"03210"}, []string{"7...9"}, []string{"77999"}},
		{"a pixel beside two: the first seed's, by y", []string{"000", "000", "000"}, []string{".1.", "2.3", ".4."}, []string{"111", "213", "243"}},
		{"left is ahead of right", []string{"000"}, []string{"2.3"}, []string{"223"}},
		{"like numbers apart", []string{"00000"}, []string{"4...4"}, []string{"44444"}},
		{"what comes later and lower goes first", []string{"0510", "0551"}, []string{"1..2", "...."}, []string{"1122", "1122"}},
		{"a wall", []string{"00900", "00900", "00900"}, []string{"1....", ".....", "....2"}, []string{"11122", "11122", "11222"}},
		{"a wall with a gate", []string{"00900", "00000", "00900"}, []string{"1....", ".....", "....."}, []string{"11111", "11111", "11111"}},
		{"a ring", []string{"00000", "09990", "09090", "09990", "00000"}, []string{"1....", ".....", "..2..", ".....", "....."}, []string{"11111", "11211", "12221", "11211", "11111"}},
	} {
		im, seeds := signImage(c.im...), signImage(c.seeds...)
		wantImage(t, c.what, impl.Watershed(im, seeds), signImage(c.want...))
		wantWatershed(t, c.what, im, seeds)
	}
}

// Rings of high tones around each other, walls with gates, and a way that winds.
func TestWatershedsOfRingsAndWalls(t *testing.T) {
	m := mixer(166)
	for _, shape := range []impl.Image{rings(11, 9), rings(16, 16), snake(9, 12), spiral(13), upright(snake(9, 12))} {
		for _, high := range []int64{1, 255} {
			for range 6 {
				walls := drawnImage(shape.W, shape.H, func(x, y int64) int64 { return high * shape.Pix[y*shape.W+x] })
				gaps := drawnImage(shape.W, shape.H, func(x, y int64) int64 { return high * (1 - shape.Pix[y*shape.W+x]) })
				seeds := m.seedImage(shape.W, shape.H, 255, m.pick(10, 80))
				wantWatershed(t, []any{walls, seeds}, walls, seeds)
				wantWatershed(t, []any{gaps, seeds}, gaps, seeds)
			}
		}
	}
}

func TestWatershedLimits(t *testing.T) {
	im, seeds := impl.Image{W: 3, H: 2, Pix: []int64{0, 1, 255, 1, 0, 255}}, impl.Image{W: 3, H: 2, Pix: []int64{0, 255, 1, 0, 0, 255}}
	wantImage(t, "tones and seeds of 255", impl.Watershed(im, seeds), impl.Image{W: 3, H: 2, Pix: []int64{255, 255, 1, 255, 255, 255}})
	for _, wrong := range noImagesOf(255) {
		wantZeroImage(t, []any{"im", wrong}, impl.Watershed(wrong, seeds))
		wantZeroImage(t, []any{"seeds", wrong}, impl.Watershed(im, wrong))
		wantZeroImage(t, []any{"both", wrong}, impl.Watershed(wrong, wrong))
	}
	for _, number := range []int64{-1, -255, 256, 257, 1 << 32, 1<<32 + 1, leastInt, leastInt + 1, mostInt - 1, mostInt} {
		for at := range 6 {
			wantZeroImage(t, number, impl.Watershed(changed(im, at, number), seeds))
			wantZeroImage(t, number, impl.Watershed(im, changed(seeds, at, number)))
		}
	}
	for _, size := range [][2]int64{{2, 3}, {6, 1}, {1, 6}, {3, 1}, {3, 3}, {4, 2}, {2, 2}} {
		other := drawnImage(size[0], size[1], func(_, _ int64) int64 { return 1 })
		wantZeroImage(t, size, impl.Watershed(im, other))
		wantZeroImage(t, size, impl.Watershed(other, seeds))
	}
	for seed := range int64(256) {
		wantImage(t, seed, impl.Watershed(rowImage(seed, 255-seed), rowImage(0, seed)), rowImage(seed, seed))
	}
}
