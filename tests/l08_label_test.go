package tests

import (
	"testing"

	"loop.example/g00050/impl"
)

// wantLabels asks for the document's numbers, and for what promise 11 says of each pair of pixels.
func wantLabels(t *testing.T, what any, mask impl.Image) impl.Image {
	t.Helper()
	got := impl.Label(mask)
	wantImage(t, what, got, plainLabel(mask))
	first := firstOnes(mask)
	if len(got.Pix) != len(first) || len(first) > 400 { // of great masks the numbers alone
		return got
	}
	for i := range first {
		if (got.Pix[i] == 0) != (mask.Pix[i] == 0) {
			t.Fatalf("%v: %d at place %d", what, got.Pix[i], i)
		}
		for j := range i {
			joined := first[i] >= 0 && first[i] == first[j]
			if one := got.Pix[i] != 0 && got.Pix[i] == got.Pix[j]; one != joined {
				t.Fatalf("%v: places %d and %d have %d and %d", what, j, i, got.Pix[j], got.Pix[i])
			}
		}
	}
	return got
}

// Promise 11, of labels.
func TestLabelsPlainly(t *testing.T) {
	m := mixer(152)
	for _, size := range sizesOfImages() {
		for i, mask := range m.masks(size[0], size[1]) {
			wantLabels(t, []any{size, i}, mask)
		}
	}
	for range 500 {
		mask := m.mask(m.pick(1, 16), m.pick(1, 16), m.pick(3, 8))
		wantLabels(t, mask, mask)
	}
	for bits := range int64(1) << 12 {
		wantLabels(t, bits, impl.Image{W: 4, H: 3, Pix: bitsOfMask(bits, 12)})
	}
}

func TestLabelsByHand(t *testing.T) {
	for _, c := range []struct {
		what       string
		mask, want []string
	}{
		{"one pixel", []string{"#"}, []string{"1"}},
		{"no pixel", []string{"."}, []string{"."}},
		{"corners alone", []string{"#.#", ".#.", "#.#"}, []string{"1.2", ".3.", "4.5"}},
		{"corners alone, the other way", []string{".#.", "#.#", ".#."}, []string{".1.", "2.3", ".4."}},
		{"a row does not go on in the next one", []string{"..#", "#..", "..#"}, []string{"..1", "2..", "..3"}},
		{"begins further right on an early row", []string{"...#", ".#.#", ".###"}, []string{"...1", ".1.1", ".111"}},
		{"and is the first one", []string{"...#..", "#..#.#", "#.##.#", "..#..."}, []string{"...1..", "2..1.3", "2.11.3", "..1..."}},
		{"three arms joined below", []string{"#.#.#", "#.#.#", "#####"}, []string{"1.1.1", "1.1.1", "11111"}},
		{"arms joined late, others between", []string{"#.#.#.#", "#...#.#", "###.#.#", "..#.#..", "..###.#"}, []string{"1.2.1.3", "1...1.3", "111.1.3", "..1.1..", "..111.4"}},
		{"joined upwards at the right", []string{"...##", "##.#.", ".###.", "#...#"}, []string{"...11", "11.1.", ".111.", "2...3"}},
		{"a ring and what lies within", []string{"#####", "#...#", "#.#.#", "#...#", "#####"}, []string{"11111", "1...1", "1.2.1", "1...1", "11111"}},
		{"a ring that is open", []string{"#####", "#...#", "#.#.#", "#.#.#", "#.###"}, []string{"11111", "1...1", "1.1.1", "1.1.1", "1.111"}},
		{"two snakes in one another", []string{"#######", "......#", ".####.#", ".#..#.#", ".##.#.#", "....#.#", "#####.#"}, []string{"1111111", "......1", ".2222.1", ".2..2.1", ".22.2.1", "....2.1", "22222.1"}},
	} {
		mask, want := signImage(c.mask...), signImage(c.want...)
		wantImage(t, c.what, wantLabels(t, c.what, mask), want)
	}
}

// snake winds through all rows, joined at the ends in turn.
func snake(w, h int64) impl.Image {
	return drawnImage(w, h, func(x, y int64) int64 {
		return oneIf(y%2 == 0 || y%4 == 1 && x == w-1 || y%4 == 3 && x == 0)
	})
}

// rings lie one within another, with noughts between.
func rings(w, h int64) impl.Image {
	return drawnImage(w, h, func(x, y int64) int64 { return oneIf(min(x, y, w-1-x, h-1-y)%2 == 0) })
}

// spiral is walked inwards until no step keeps a nought between.
func spiral(n int64) impl.Image {
	im := impl.Image{W: n, H: n, Pix: make([]int64, n*n)}
	x, y, dx, dy := int64(0), int64(0), int64(1), int64(0)
	im.Pix[0] = 1
	for turns := 0; turns < 2; {
		next, stands := pixelAt(im, x+dx, y+dy)
		behind, _ := pixelAt(im, x+2*dx, y+2*dy)
		if !stands || next == 1 || behind == 1 {
			dx, dy, turns = -dy, dx, turns+1
			continue
		}
		x, y, turns = x+dx, y+dy, 0
		im.Pix[y*n+x] = 1
	}
	return im
}

func TestLabelsOfSnakesAndRings(t *testing.T) {
	for _, size := range [][2]int64{{1, 1}, {1, 64}, {64, 1}, {5, 5}, {7, 9}, {13, 20}, {63, 63}, {64, 64}, {64, 3}, {3, 64}} {
		w, h := size[0], size[1]
		wantImage(t, []any{"a snake", size}, wantLabels(t, size, snake(w, h)), snake(w, h))
		wantLabels(t, []any{"a snake that stands upright", size}, upright(snake(h, w)))
		nested := drawnImage(w, h, func(x, y int64) int64 {
			deep := min(x, y, w-1-x, h-1-y)
			return oneIf(deep%2 == 0) * (deep/2 + 1)
		})
		wantImage(t, []any{"rings", size}, wantLabels(t, size, rings(w, h)), nested)
	}
	for _, n := range []int64{1, 2, 3, 5, 8, 20, 63, 64} {
		wantImage(t, []any{"a spiral", n}, wantLabels(t, n, spiral(n)), spiral(n))
	}
}

func TestLabelsAtTheLimits(t *testing.T) {
	for _, size := range sizesOfImages() {
		w, h := size[0], size[1]
		full := drawnImage(w, h, func(x, y int64) int64 { return 1 })
		wantImage(t, []any{"ones", size}, impl.Label(full), full)
		blank := drawnImage(w, h, func(x, y int64) int64 { return 0 })
		wantImage(t, []any{"noughts", size}, impl.Label(blank), blank)
		for odd := range int64(2) { // as many parts as there can be: they touch at corners alone
			count := int64(0)
			board := drawnImage(w, h, func(x, y int64) int64 { return oneIf((x+y)%2 == odd) })
			want := drawnImage(w, h, func(x, y int64) int64 {
				if (x+y)%2 != odd {
					return 0
				}
				count++
				return count
			})
			wantImage(t, []any{"a board", size, odd}, impl.Label(board), want)
		}
		columns := drawnImage(w, h, func(x, y int64) int64 { return (x + 1) % 2 })
		wantImage(t, []any{"columns", size}, impl.Label(columns), drawnImage(w, h, func(x, y int64) int64 { return (x + 1) % 2 * (x/2 + 1) }))
		rows := drawnImage(w, h, func(x, y int64) int64 { return (y + 1) % 2 })
		wantImage(t, []any{"rows", size}, impl.Label(rows), drawnImage(w, h, func(x, y int64) int64 { return (y + 1) % 2 * (y/2 + 1) }))
	}
}

func TestLabelsOfNoMask(t *testing.T) {
	for _, mask := range noMasks() {
		wantNoParts(t, mask)
	}
	// What Label answers is a mask no more, once there are two parts.
	wantZeroImage(t, "labels", impl.Label(impl.Label(rowImage(1, 0, 1))))
	wantZeroImage(t, "distances", impl.Distance(impl.Distance(rowImage(0, 0))))
}
