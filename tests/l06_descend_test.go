package tests

import (
	"slices"
	"testing"

	"loop.example/g00050/impl"
)

func blankImage(p int64) impl.Image {
	return impl.Image{W: p, H: p, Pix: make([]int64, p*p)}
}

// lineSums are so many numbers of at most most in size.
func (m *mixer) lineSums(p, most int64) []int64 {
	list := make([]int64, (p+1)*p)
	for i := range list {
		list[i] = m.pick(-most, most)
	}
	return list
}

func TestMisfitPlainly(t *testing.T) {
	m := mixer(106)
	for _, p := range primeSides() {
		for i, im := range m.tones(p) {
			for _, most := range []int64{0, 3, impl.MaxTone, impl.MaxLine} {
				sums := m.lineSums(p, most)
				if got, want := impl.Misfit(im, sums), plainMisfit(im, sums); got != want {
					t.Errorf("side %d, image %d: %d, want %d", p, i, got, want)
				}
			}
		}
	}
}

func TestGreatestMisfit(t *testing.T) {
	for _, c := range []struct{ p, want int64 }{{2, 6 * 208190 * 208190}, {31, 992 * 326945 * 326945}} {
		for _, sign := range []int64{1, -1} {
			im := filledImage(c.p, func(x, y int64) int64 { return -sign * impl.MaxTone })
			sums := slices.Repeat([]int64{sign * impl.MaxLine}, int((c.p+1)*c.p))
			if got := impl.Misfit(im, sums); got != c.want {
				t.Errorf("side %d: %d, want %d", c.p, got, c.want)
			}
		}
	}
}

func TestMisfitOfNoLineSums(t *testing.T) {
	m := mixer(107)
	for _, p := range primeSides() {
		im := m.image(p, p, impl.MaxTone)
		count := (p + 1) * p
		room := make([]int64, 5000)
		for _, n := range []int64{0, 1, p, p * p, count - p, count - 1, count + 1, count + p, 2 * count, 5000} {
			wantNoFit(t, []int64{p, n}, im, room[:n])
		}
		wantNoFit(t, "nil", im, nil)
		for _, other := range primeSides() {
			if other != p {
				wantNoFit(t, []int64{p, other}, im, make([]int64, (other+1)*other))
			}
		}
		wantSumLimits(t, im)
	}
}

// wantSumLimits puts each limit of a sum at several places.
func wantSumLimits(t *testing.T, im impl.Image) {
	t.Helper()
	count := (im.W + 1) * im.W
	for _, at := range []int64{0, 1, im.W, count - 1} {
		sums := make([]int64, count)
		for _, n := range []int64{impl.MaxLine, -impl.MaxLine} {
			sums[at] = n
			if got, want := impl.Misfit(im, sums), plainMisfit(im, sums); got != want {
				t.Errorf("side %d, %d at %d: %d, want %d", im.W, n, at, got, want)
			}
			if out, told := impl.Descend(im, sums, 0); !sameImage(out, im) || len(told) != 1 {
				t.Errorf("side %d, %d at %d: no descent", im.W, n, at)
			}
		}
		for _, n := range []int64{impl.MaxLine + 1, -impl.MaxLine - 1, leastInt, leastInt + 1, mostInt, 1 << 32, -1 << 32} {
			sums[at] = n
			wantNoFit(t, []int64{im.W, n, at}, im, sums)
		}
	}
}

// wantDescent goes so many rounds beside the plain reckoning.
func wantDescent(t *testing.T, what any, im impl.Image, sums []int64, rounds int64) {
	t.Helper()
	want, misfits := im, []int64{plainMisfit(im, sums)}
	for range rounds {
		want = plainRound(want, sums)
		misfits = append(misfits, plainMisfit(want, sums))
	}
	got, told := impl.Descend(im, sums, rounds)
	wantImage(t, what, got, want)
	wantLists(t, what, told, misfits)
}

func TestDescendPlainly(t *testing.T) {
	m := mixer(108)
	rounds := map[int64]int64{2: 20, 3: 20, 5: 20, 7: 20, 11: 6, 13: 4, 17: 3, 19: 2, 23: 2, 29: 1, 31: 1}
	for _, p := range primeSides() {
		for _, most := range []int64{2, 50, impl.MaxTone, impl.MaxLine} {
			wantDescent(t, []int64{p, most}, m.image(p, p, impl.MaxTone), m.lineSums(p, most), rounds[p])
		}
		wantDescent(t, p, blankImage(p), plainLines(m.image(p, p, impl.MaxTone)), rounds[p])
	}
	for range 300 { // sums of a few near nought, where half a step is often
		p := []int64{2, 3, 5, 7}[m.pick(0, 3)]
		wantDescent(t, p, m.image(p, p, 2), m.lineSums(p, 3), m.pick(0, 5))
	}
}

// Promise 9, of descents.
func TestDescendNeverRises(t *testing.T) {
	m := mixer(109)
	for _, p := range primeSides() {
		aim := plainLines(m.image(p, p, impl.MaxTone))
		for _, im := range m.tones(p) {
			for _, sums := range [][]int64{aim, m.lineSums(p, 3), m.lineSums(p, impl.MaxLine), slices.Repeat([]int64{-impl.MaxLine}, int((p+1)*p))} {
				wantFall(t, im, sums, m.pick(0, impl.MaxRounds))
			}
		}
	}
}

func wantFall(t *testing.T, im impl.Image, sums []int64, rounds int64) {
	t.Helper()
	out, told := impl.Descend(im, sums, rounds)
	if int64(len(told)) != rounds+1 {
		t.Fatalf("side %d: %d misfits in %d rounds", im.W, len(told), rounds)
	}
	if told[0] != impl.Misfit(im, sums) || told[rounds] != impl.Misfit(out, sums) || told[rounds] != plainMisfit(out, sums) {
		t.Errorf("side %d: %v from %d to %d", im.W, told, impl.Misfit(im, sums), impl.Misfit(out, sums))
	}
	for i := range rounds {
		if told[i+1] > told[i] {
			t.Errorf("side %d: the misfits rise, %v", im.W, told)
		}
	}
}

func TestDescendStaysAtItsAim(t *testing.T) {
	m := mixer(110)
	for _, p := range primeSides() {
		for _, im := range m.tones(p) {
			out, told := impl.Descend(im, impl.Lines(im), impl.MaxRounds)
			wantImage(t, p, out, im)
			wantLists(t, p, told, make([]int64, impl.MaxRounds+1))
		}
	}
}

// Two rounds are one round and one more.
func TestDescendByRounds(t *testing.T) {
	m := mixer(111)
	for _, p := range primeSides() {
		im, sums := m.image(p, p, impl.MaxTone), m.lineSums(p, impl.MaxLine)
		now, misfits := im, []int64{impl.Misfit(im, sums)}
		for rounds := range int64(impl.MaxRounds + 1) {
			out, told := impl.Descend(im, sums, rounds)
			wantImage(t, []int64{p, rounds}, out, now)
			wantLists(t, []int64{p, rounds}, told, misfits)
			var step []int64
			now, step = impl.Descend(now, sums, 1)
			misfits = append(misfits, step[1])
		}
	}
}

func TestDescendOfNoRounds(t *testing.T) {
	m := mixer(112)
	for _, p := range primeSides() {
		im, sums := m.image(p, p, impl.MaxTone), m.lineSums(p, impl.MaxLine)
		for _, rounds := range []int64{-1, impl.MaxRounds + 1, leastInt, leastInt + 1, mostInt, 1 << 32, 1<<32 + 1, -1 << 32} {
			wantNoDescent(t, []int64{p, rounds}, im, sums, rounds)
		}
		for _, rounds := range []int64{0, 1, impl.MaxRounds} {
			if out, told := impl.Descend(im, sums, rounds); !impl.ImageOk(out) || int64(len(told)) != rounds+1 {
				t.Errorf("side %d, %d rounds: %v, %v", p, rounds, out, told)
			}
		}
	}
}

// On a blank image of side 3 the first pixel is moved by a fourth of the sum of lines 0, 3, 6 and 9.
func TestDescendAtHalf(t *testing.T) {
	for s, want := range map[int64]int64{0: 0, 1: 0, 2: 1, 3: 1, 4: 1, 5: 1, 6: 2, 7: 2, 10: 3,
		-1: 0, -2: 0, -3: -1, -4: -1, -5: -1, -6: -1, -7: -2, -8: -2, -9: -2, -10: -2, -11: -3} {
		for _, line := range []int64{0, 3, 6, 9} {
			sums := make([]int64, 12)
			sums[line] = s
			if out, _ := impl.Descend(blankImage(3), sums, 1); out.Pix[0] != want {
				t.Errorf("%d at line %d: %d, want %d", s, line, out.Pix[0], want)
			}
		}
	}
	for _, p := range primeSides()[1:] {
		for _, halves := range []int64{1, 3, 101, -1, -3, -101} {
			sums := make([]int64, (p+1)*p)
			sums[p*p] = halves * (p + 1) / 2
			want := (halves + 1) / 2
			if halves < 0 {
				want = halves / 2 // what is left out rounds up below 0
			}
			if out, _ := impl.Descend(blankImage(p), sums, 1); out.Pix[0] != want {
				t.Errorf("side %d, %d halves: %d, want %d", p, halves, out.Pix[0], want)
			}
		}
	}
	sums := []int64{1, 0, 0, 0, 0, 0} // thirds
	if out, _ := impl.Descend(blankImage(2), sums, 1); out.Pix[0] != 0 {
		t.Error("a third", out)
	}
	sums[2] = 1
	if out, _ := impl.Descend(blankImage(2), sums, 1); out.Pix[0] != 1 {
		t.Error("two thirds", out)
	}
	if out, _ := impl.Descend(blankImage(2), []int64{-1, 0, -1, 0, 0, 0}, 1); out.Pix[0] != -1 {
		t.Error("two thirds below 0", out)
	}
}

func TestDescendAtTheEndsOfTones(t *testing.T) {
	for _, p := range primeSides() {
		for _, sign := range []int64{1, -1} {
			sums := slices.Repeat([]int64{sign * impl.MaxLine}, int((p+1)*p))
			end := filledImage(p, func(x, y int64) int64 { return sign * impl.MaxTone })
			for _, im := range []impl.Image{blankImage(p), end, filledImage(p, func(x, y int64) int64 { return -sign * impl.MaxTone })} {
				out, told := impl.Descend(im, sums, 3)
				wantImage(t, []int64{p, sign}, out, end)
				if told[3] != plainMisfit(end, sums) || told[1] != told[3] {
					t.Errorf("side %d: misfits %v", p, told)
				}
			}
			wantOneStepToTheEnd(t, p, sign)
		}
	}
}

// wantOneStepToTheEnd moves the first pixel by steps that just reach the end of the tones, miss it and would pass it.
func wantOneStepToTheEnd(t *testing.T, p, sign int64) {
	t.Helper()
	for _, step := range []int64{4, 5, 6, 7} {
		im := blankImage(p)
		im.Pix[0] = sign * (impl.MaxTone - 5)
		sums := plainLines(im)
		sums[0] += sign * step * (p + 1)
		out, _ := impl.Descend(im, sums, 1)
		if want := sign * min(impl.MaxTone, impl.MaxTone-5+step); out.Pix[0] != want {
			t.Errorf("side %d, step %d: %d, want %d", p, step, out.Pix[0], want)
		}
	}
}

func TestDescendInItsOrder(t *testing.T) {
	sums := []int64{4, 0, 0, 4, 0, 0} // of row 0, and of the slope that has (1, 0) and (0, 1)
	out, told := impl.Descend(blankImage(2), sums, 1)
	wantLists(t, "(1, 0) takes ahead of (0, 1)", out.Pix, []int64{1, 2, 0, -1})
	wantLists(t, "(1, 0) takes ahead of (0, 1)", told, []int64{32, 8})
	sums = []int64{0, 0, 0, 4, 4, 0} // of column 0 in the place of row 0
	out, told = impl.Descend(blankImage(2), sums, 1)
	wantLists(t, "(1, 0) leaves some for (0, 1)", out.Pix, []int64{1, 1, 2, -1})
	wantLists(t, "(1, 0) leaves some for (0, 1)", told, []int64{32, 7})
}

func TestDescendIsNewMemory(t *testing.T) {
	m := mixer(113)
	for _, p := range primeSides() {
		for _, rounds := range []int64{0, 1, 2, 20, 21, -1} {
			im, wasSums := m.image(p, p, impl.MaxTone), m.lineSums(p, impl.MaxLine)
			was, sums := slices.Clone(im.Pix), roomy(wasSums, 9)
			im.Pix = roomy(was, 7)
			out, told := impl.Descend(im, sums, rounds)
			again, toldAgain := impl.Descend(im, sums, rounds)
			if !stays(im.Pix, was, 7) || !stays(sums, wasSums, 9) {
				t.Error("an argument changes", p, rounds)
			}
			wantPix, wantTold := slices.Clone(again.Pix), slices.Clone(toldAgain)
			spoil(out.Pix)
			wantLists(t, "misfits behind a spoilt image", told, wantTold)
			spoil(told)
			spoil(im.Pix)
			spoil(sums)
			wantLists(t, "an image behind spoilt ones", again.Pix, wantPix)
			wantLists(t, "misfits behind spoilt ones", toldAgain, wantTold)
		}
	}
}
