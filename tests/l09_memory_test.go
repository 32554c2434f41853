package tests

import (
	"fmt"
	"slices"
	"testing"

	"loop.example/g00050/impl"
)

// partAnswers are the lists of numbers that the chapter makes of an image, seeds and an atlas.
func partAnswers(im, seeds impl.Image, atlas []impl.Image, link int64) [][]int64 {
	cut, _ := impl.Cut(im, seeds, link)
	bare, _ := impl.Cut(seeds, im, 0)
	full := drawnImage(im.W, im.H, func(_, _ int64) int64 { return 3 })
	return [][]int64{impl.Histogram(im), impl.Watershed(im, seeds).Pix, impl.Watershed(im, full).Pix, cut.Pix, bare.Pix, impl.Vote(atlas).Pix, impl.Vote(atlas[:1]).Pix}
}

func TestPartsAreNewMemory(t *testing.T) {
	m := mixer(178)
	for _, size := range [][2]int64{{1, 1}, {5, 4}, {1, 6}, {6, 1}, {16, 16}} {
		for range 4 {
			was, wasSeeds, wasVote := m.greyImage(size[0], size[1], 9), m.seedImage(size[0], size[1], 5, 3), m.greyImage(size[0], size[1], 9)
			im, seeds := impl.Image{W: was.W, H: was.H, Pix: roomy(was.Pix, 7)}, impl.Image{W: was.W, H: was.H, Pix: roomy(wasSeeds.Pix, 8)}
			vote := impl.Image{W: was.W, H: was.H, Pix: roomy(wasVote.Pix, 9)}
			store := []impl.Image{im, seeds, vote, {W: 77}}
			atlas := store[:3]
			answers, again := partAnswers(im, seeds, atlas, 2), partAnswers(im, seeds, atlas, 2)
			impl.CutCost(m.mask(was.W, was.H, 5), im, seeds, 3)
			if !stays(im.Pix, was.Pix, 7) || !stays(seeds.Pix, wasSeeds.Pix, 8) || !stays(vote.Pix, wasVote.Pix, 9) {
				t.Error("an argument changes", size)
			}
			if !sameImage(atlas[0], was) || !sameImage(atlas[1], wasSeeds) || !sameImage(atlas[2], wasVote) || store[3].W != 77 || len(store[3].Pix) != 0 {
				t.Error("an atlas changes", size)
			}
			wantUnshared(t, size, answers, again, im.Pix, seeds.Pix, vote.Pix)
		}
	}
}

// wantUnshared spoils the first answers and the arguments, and wants the second answers as they were; then it spoils these one by one.
func wantUnshared(t *testing.T, what any, answers, again [][]int64, arguments ...[]int64) {
	t.Helper()
	want := fmt.Sprint(again)
	for _, list := range slices.Concat(answers, arguments) {
		if len(list) == 0 {
			t.Error("no answer", what)
		}
		spoil(list)
	}
	if got := fmt.Sprint(again); got != want {
		t.Errorf("%v: shared memory: %s, was %s", what, got, want)
	}
	for at := range again {
		spoil(again[at])
		for _, later := range again[at+1:] {
			if slices.Contains(later, -12345) {
				t.Error("two answers are one", what, at)
			}
		}
	}
}

func TestSurfacesAreNewMemory(t *testing.T) {
	m := mixer(179)
	mark := impl.Face{X: 99}
	for range 20 {
		was := m.volume(3, 2, 2, 2)
		v := impl.Volume{NX: 3, NY: 2, NZ: 2, Vox: roomy(was.Vox, 7)}
		first, second := impl.Surface(v), impl.Surface(v)
		wasFaces := slices.Clone(first)
		given := roomy(first, mark)
		impl.Enclosed(given)
		impl.Closed(given)
		if !stays(v.Vox, was.Vox, 7) || !stays(given, wasFaces, mark) {
			t.Error("an argument changes")
		}
		fillWith(first, mark)
		spoil(v.Vox)
		wantFaces(t, "shared memory", second, wasFaces)
	}
}

func TestThresholdLeavesItsList(t *testing.T) {
	was := histOf(3, 5, 9, 7, 200, 1)
	hist := roomy(was, 7)
	impl.Threshold(hist)
	if !stays(hist, was, 7) {
		t.Error("an argument changes")
	}
	// What lies behind a list's length is not read.
	wantThresholdAt(t, "one too few", hist[:255], 0, false)
	store := slices.Concat(was, []int64{5000, -1})
	wantThresholdAt(t, "more behind", store[:256], 9, true)
}

// What is refused is as it was, and so is what lies behind it.
func TestRefusedPartsLeaveArguments(t *testing.T) {
	mark := impl.Face{X: 99}
	wrong, grey := roomy([]int64{0, 256, -1, 0}, 7), roomy([]int64{0, 2, 1, 0}, 8)
	hist := roomy(slices.Repeat([]int64{17}, 256), 9)
	faces := roomy(facesOf([][5]int64{{1, 1, 1, 1, 1}, {1, 1, 1, 4, 1}, {1, 1, 1, 1, -1}}), mark)
	wasFaces := slices.Clone(faces)
	voxels := roomy([]int64{1, impl.MaxTone + 1}, 6)
	im, right := impl.Image{W: 2, H: 2, Pix: wrong}, impl.Image{W: 2, H: 2, Pix: grey}
	atlas := roomyImages(right, im)
	cut, cost := impl.Cut(im, right, 2)
	cutToo, costToo := impl.Cut(right, right, -1)
	for _, got := range []impl.Image{impl.Watershed(im, right), impl.Watershed(right, im), impl.Vote(atlas), cut, cutToo} {
		wantZeroImage(t, "refused", got)
	}
	if cost != -1 || costToo != -1 || impl.CutCost(right, right, right, 2) != -1 || len(impl.Histogram(im)) != 0 || impl.Enclosed(faces) != 0 || impl.Closed(faces) {
		t.Error("not refused")
	}
	wantThresholdAt(t, "refused", hist, 0, false)
	wantFaces(t, "refused", impl.Surface(impl.Volume{NX: 2, NY: 1, NZ: 1, Vox: voxels}), nil)
	if !stays(wrong, []int64{0, 256, -1, 0}, 7) || !stays(grey, []int64{0, 2, 1, 0}, 8) || !stays(hist, slices.Repeat([]int64{17}, 256), 9) || !stays(faces, wasFaces, mark) || !stays(voxels, []int64{1, impl.MaxTone + 1}, 6) {
		t.Error("an argument changes")
	}
	// A face, an image and pixels that lie behind a list's length are not read.
	if impl.Enclosed(faces[:1]) != 1 || isZeroImage(impl.Vote(atlas[:1])) || len(impl.Histogram(impl.Image{W: 1, H: 1, Pix: wrong[:1]})) != 256 {
		t.Error("what lies behind a list is read")
	}
	wantZeroImage(t, "three pixels", impl.Watershed(impl.Image{W: 2, H: 2, Pix: grey[:3]}, right))
}

// roomyImages is a list with an image behind its length that is not right.
func roomyImages(list ...impl.Image) []impl.Image {
	whole := append(slices.Clone(list), impl.Image{W: 9})
	return whole[:len(list)]
}

func TestPartsNeverPanic(t *testing.T) {
	m := mixer(180)
	wild := []int64{leastInt, leastInt + 1, -1 << 32, -impl.MaxPix - 1, -impl.MaxTone, -2, -1, 0, 0, 1, 1, 2, 3, 4, 16, 17, 32, 33, 64, 65, 255, 256, impl.MaxTone, impl.MaxTone + 1, 4096, 4097, impl.MaxPix, 1 << 32, 1 << 62, mostInt - 1, mostInt}
	pick := func() int64 { return wild[m.pick(0, int64(len(wild)-1))] }
	list := func(n int64) []int64 {
		var out []int64
		for range n {
			out = append(out, pick())
		}
		return out
	}
	image := func() impl.Image {
		switch m.pick(0, 4) {
		case 0:
			return m.mask(3, 2, 5)
		case 1:
			return m.greyImage(3, 2, impl.MaxTone)
		case 2:
			return m.greyImage(m.pick(1, 4), m.pick(1, 4), 255)
		case 3:
			return impl.Image{W: 3, H: 2, Pix: list(6)}
		}
		return impl.Image{W: pick(), H: pick(), Pix: list(m.pick(0, 9))}
	}
	for range 20000 {
		var atlas []impl.Image
		for range m.pick(0, 3) {
			atlas = append(atlas, image())
		}
		var faces []impl.Face
		for range m.pick(0, 3) {
			faces = append(faces, impl.Face{X: pick(), Y: pick(), Z: pick(), Axis: pick(), Sign: pick()})
		}
		hist := m.hist(m.pick(1, 9), m.pick(1, 5000))
		if m.pick(0, 1) == 1 {
			hist[m.pick(0, 255)], hist[m.pick(0, 255)] = pick(), pick()
		}
		v := m.volume(2, 1, 2, 2)
		if m.pick(0, 1) == 1 {
			v = impl.Volume{NX: pick(), NY: pick(), NZ: pick(), Vox: list(m.pick(0, 4))}
		}
		askParts(t, []impl.Image{image(), image(), image()}, atlas, hist, faces, v, pick())
	}
	askParts(t, make([]impl.Image, 3), nil, nil, nil, impl.Volume{}, 0)
}

// askParts wants what is told together to be refused together.
func askParts(t *testing.T, list, atlas []impl.Image, hist []int64, faces []impl.Face, v impl.Volume, link int64) {
	defer wantNoPanic(t, []any{list, atlas, hist, faces, v, link})
	if n := len(impl.Histogram(list[0])); n != 0 && n != 256 {
		t.Error(list[0], n)
	}
	if at, ok := impl.Threshold(hist); at < 0 || at > 254 || !ok && at != 0 {
		t.Error(hist, at, ok)
	}
	cut, cost := impl.Cut(list[0], list[1], link)
	if isZeroImage(cut) != (cost == -1) || cost < -1 || impl.CutCost(list[2], list[0], list[1], link) < -1 {
		t.Error(list, link, cut, cost)
	}
	if cost >= 0 && impl.CutCost(cut, list[0], list[1], link) != cost {
		t.Error(list, link, cut, cost)
	}
	for i, got := range []impl.Image{cut, impl.Watershed(list[0], list[1]), impl.Vote(atlas)} {
		if !isZeroImage(got) && !impl.ImageOk(got) {
			t.Error(i, list, atlas, got)
		}
	}
	if impl.Enclosed(faces) != 0 && impl.Closed(append(slices.Clone(faces), impl.Face{Axis: 9})) {
		t.Error(faces)
	}
	if !impl.VolumeOk(v) && len(impl.Surface(v)) != 0 {
		t.Error(v)
	}
	impl.Closed(faces)
}
