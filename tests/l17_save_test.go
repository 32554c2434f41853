package tests

import (
	"slices"
	"strings"
	"testing"

	"loop.example/g00050/impl"
)

func everyForm() []int64 { return []int64{0, 1, 2, 3} }

// bytesOfAllKinds is every byte once.
func bytesOfAllKinds() string {
	var all []byte
	for b := range 256 {
		all = append(all, byte(b))
	}
	return string(all)
}

func namesToSave() []string {
	return []string{"", "a", "amy", " ", "\x00", "\n", "a b\r\n\t", "\x1b2\xc3\xa9", "\xff\xff\x02\x00", bytesOfAllKinds(), "A1", "plain", strings.Repeat("n", 4096), strings.Repeat("\xff", 4095)}
}

// tonesImage has thrown pixels from 0 to most.
func (m *mixer) tonesImage(w, h, most int64) impl.Image {
	return impl.Image{W: w, H: h, Pix: m.list(int(w*h), 0, most)}
}

func imagesToSave() []impl.Image {
	m := mixer(301)
	list := []impl.Image{
		imageOf(1, 1, 0), imageOf(1, 1, 65535), imageOf(2, 1, 3, 900), imageOf(1, 2, 3, 900), imageOf(3, 2, 0, 65535, 0, 65535, 1, 0),
		imageOf(2, 3, 7, 7, 7, 7, 7, 7), imageOf(5, 1, 127, 128, 16383, 16384, 65535),
	}
	for _, size := range [][2]int64{{4, 4}, {7, 3}, {1, 64}, {64, 1}, {16, 16}, {31, 33}} {
		list = append(list, m.tonesImage(size[0], size[1], 65535), m.tonesImage(size[0], size[1], 60), m.tonesImage(size[0], size[1], 1))
	}
	return list
}

// The bytes, laid down by hand.
func TestSavedBytes(t *testing.T) {
	im := imageOf(2, 1, 3, 900)
	bare := "\x10\x00\x00\x00\x03\x00\x00\x00amy" +
		"\x28\x00\x01\x00\x08\x00\x00\x00\x02\x00\x00\x00\x01\x00\x00\x00" +
		"\x28\x00\x05\x00\x05\x00\x00\x00steps" +
		"\x28\x00\x09\x00\x04\x00\x00\x00\x02\x06\x82\x0e"
	told := "\x10\x00\x00\x00\x01\x03\x00\x00\x00amy" +
		"\x28\x00\x01\x00\x03\x08\x00\x00\x00\x02\x00\x00\x00\x01\x00\x00\x00" +
		"\x28\x00\x05\x00\x01\x05\x00\x00\x00steps" +
		"\x28\x00\x09\x00\x02\x04\x00\x00\x00\x02\x06\x82\x0e"
	for _, form := range everyForm() {
		body := bare
		if form%2 == 1 {
			body = told
		}
		wantFile(t, form, save(t, "by hand", im, "amy", form, "steps"), sealed(byte(form), body))
	}
	wantFile(t, "plain", save(t, "by hand", imageOf(1, 2, 258, 0), "", 2, "plain"), sealed(2, "\x10\x00\x00\x00\x00\x00\x00\x00"+
		"\x28\x00\x01\x00\x08\x00\x00\x00\x01\x00\x00\x00\x02\x00\x00\x00"+
		"\x28\x00\x05\x00\x05\x00\x00\x00plain"+
		"\x28\x00\x09\x00\x05\x00\x00\x00\x02\x02\x01\x00\x00"))
}

// An image that is saved is loaded, in every form and codec.
func TestSavedIsLoaded(t *testing.T) {
	for i, im := range imagesToSave() {
		for _, form := range everyForm() {
			for _, codec := range codecNames() {
				wantSaved(t, i, im, "amy", form, codec)
			}
		}
	}
}

func TestSavedNames(t *testing.T) {
	for _, name := range namesToSave() {
		for _, form := range everyForm() {
			for _, codec := range codecNames() {
				wantSaved(t, "name", imageOf(2, 2, 1, 2, 3, 4), name, form, codec)
			}
		}
	}
	for _, length := range []int{4097, 4098, 8192, 100000} {
		for _, form := range everyForm() {
			wantNotSaved(t, length, imageOf(1, 1, 5), strings.Repeat("n", length), form, "plain")
		}
	}
}

// Every image whose sides and pixels are right is saved; no other is.
func TestSavedImages(t *testing.T) {
	wrong := []impl.Image{
		{}, imageOf(0, 0), imageOf(0, 1), imageOf(1, 0), imageOf(1, 1), imageOf(1, 1, 5, 5), imageOf(2, 1, 5), imageOf(1, 2, 5), imageOf(-1, -1, 5), imageOf(-1, 1, 5), imageOf(1, -1, 5),
		imageOf(65, 1, make([]int64, 65)...), imageOf(1, 65, make([]int64, 65)...), imageOf(128, 32, make([]int64, 4096)...), imageOf(0, 5, make([]int64, 5)...),
		imageOf(1<<32, 1<<32, 5), imageOf(1<<32, 1<<32), imageOf(leastInt, 2), imageOf(mostInt, mostInt, 5), imageOf(2, mostInt/2+1),
	}
	for i, im := range wrong {
		for _, codec := range codecNames() {
			for _, form := range everyForm() {
				wantNotSaved(t, i, im, "amy", form, codec)
			}
		}
	}
	for _, size := range [][2]int64{{1, 1}, {1, 64}, {64, 1}, {64, 64}, {63, 64}, {2, 3}} {
		wantSaved(t, size, imageOf(size[0], size[1], make([]int64, size[0]*size[1])...), "amy", 0, "runs")
	}
}

func TestSavedPixels(t *testing.T) {
	for place := range 6 {
		for _, codec := range codecNames() {
			for _, pixel := range []int64{0, 1, 255, 256, 32768, 65534, 65535} {
				wantSaved(t, pixel, changed(imageOf(3, 2, 1, 2, 3, 4, 5, 6), place, pixel), "amy", 1, codec)
			}
			for _, pixel := range []int64{-1, -2, -65535, -65536, 65536, 65537, 131071, 1 << 32, 1<<32 + 5, impl.MaxPix, impl.MaxPix + 1, -impl.MaxPix, -impl.MaxPix - 1, leastInt, mostInt} {
				wantNotSaved(t, pixel, changed(imageOf(3, 2, 1, 2, 3, 4, 5, 6), place, pixel), "amy", 1, codec)
			}
		}
	}
}

func TestSavedForms(t *testing.T) {
	im := imageOf(2, 1, 3, 900)
	for _, codec := range codecNames() {
		for form := int64(-300); form <= 300; form++ {
			if form >= 0 && form <= 3 {
				wantSaved(t, "form", im, "amy", form, codec)
			} else {
				wantNotSaved(t, "form", im, "amy", form, codec)
			}
		}
		for _, form := range []int64{leastInt, leastInt + 1, leastInt + 2, mostInt, mostInt - 1, 1 << 32, 1<<32 + 1, 1 << 62, -1 << 32} {
			wantNotSaved(t, "form", im, "amy", form, codec)
		}
	}
}

func TestSavedCodecs(t *testing.T) {
	im := imageOf(2, 1, 3, 900)
	for _, form := range everyForm() {
		for _, codec := range noCodecs() {
			wantNotSaved(t, "codec", im, "amy", form, codec)
		}
	}
}

// withLength is an image, and how many bytes its codec has for it.
type withLength struct {
	codec string
	im    impl.Image
	bytes int
}

// imagesAtLimit are images whose bytes are just MaxValue12 or near it.
func imagesAtLimit() []withLength {
	wide := func(count int, from int64) impl.Image { // so many pixels that are far above the others: a step of two bytes up to each, and down from all but the last
		im := drawnImage(63, 64, func(x, y int64) int64 { return from })
		for k := range count {
			im.Pix[4031-2*k] += 100
		}
		return im
	}
	low := func(count int) impl.Image { // rice has seven bits for so many tones and eight for the others
		im := drawnImage(64, 64, func(x, y int64) int64 { return 127 })
		for k := range count {
			im.Pix[k*7] = 63
		}
		return im
	}
	mixed := func(count int) impl.Image { // runs of one pixel, so many of a tone of two bytes
		im := drawnImage(33, 62, func(x, y int64) int64 { return (y*33 + x) % 2 })
		for k := range count {
			im.Pix[k*9] = 200 + int64(k)
		}
		return im
	}
	return []withLength{
		{"plain", drawnImage(33, 62, func(x, y int64) int64 { return 65535 - x*y }), 4094},
		{"plain", drawnImage(32, 64, func(x, y int64) int64 { return 0 }), 4098},
		{"plain", drawnImage(64, 32, func(x, y int64) int64 { return 0 }), 4098},
		{"plain", drawnImage(64, 64, func(x, y int64) int64 { return 0 }), 8194},
		{"steps", wide(31, 0), 4095},
		{"steps", wide(31, 1000), 4096},
		{"steps", wide(32, 0), 4097},
		{"steps", wide(32, 1000), 4098},
		{"steps", drawnImage(64, 64, func(x, y int64) int64 { return 0 }), 4098},
		{"rice", low(25), 4096},
		{"rice", low(24), 4096},
		{"rice", low(23), 4097},
		{"rice", low(16), 4097},
		{"rice", low(15), 4098},
		{"runs", mixed(1), 4095},
		{"runs", mixed(2), 4096},
		{"runs", mixed(3), 4097},
		{"runs", drawnImage(64, 64, func(x, y int64) int64 { return (x + y) % 2 }), 8068},
	}
}

func TestSavedBytesAtTheLimit(t *testing.T) {
	seen := map[int]int{}
	for i, at := range imagesAtLimit() {
		packed, ok := plainCompress(at.codec, at.im.Pix)
		seen[len(packed)]++
		if !ok || len(packed) != at.bytes {
			t.Error(i, at.codec, len(packed), ok)
		}
		for _, form := range everyForm() {
			if at.bytes <= 4096 {
				wantSaved(t, i, at.im, "amy", form, at.codec)
				wantSaved(t, i, at.im, strings.Repeat("n", 4096), form, at.codec)
				wantNotSaved(t, i, at.im, strings.Repeat("n", 4097), form, at.codec)
			} else {
				wantNotSaved(t, i, at.im, "amy", form, at.codec)
				wantNotSaved(t, i, at.im, "", form, at.codec)
			}
		}
	}
	if seen[4096] < 3 || seen[4097] < 3 {
		t.Error("nothing at the limit", seen)
	}
}

// What another codec makes of an image that one has too many bytes for.
func TestSavedByAnother(t *testing.T) {
	flat := drawnImage(64, 64, func(x, y int64) int64 { return 9 })
	for _, codec := range codecNames() {
		if slices.Contains([]string{"plain", "steps"}, codec) {
			wantNotSaved(t, codec, flat, "flat", 3, codec)
		} else {
			wantSaved(t, codec, flat, "flat", 3, codec)
		}
	}
}
