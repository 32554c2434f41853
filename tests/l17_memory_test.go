package tests

import (
	"bytes"
	"slices"
	"strings"
	"sync"
	"testing"

	"loop.example/g00050/impl"
)

// saveToAsk is what SaveImage may be asked, also what it refuses.
type saveToAsk struct {
	im    impl.Image
	name  string
	form  int64
	codec string
}

func savesToAsk() []saveToAsk {
	var list []saveToAsk
	for k, im := range append(imagesToSave(), impl.Image{}, imageOf(1, 1, -1), imageOf(2, 2, 1), imageOf(1, 1, 65536)) {
		for _, codec := range append(codecNames(), "none") {
			list = append(list, saveToAsk{im, namesToSave()[k%len(namesToSave())], int64(k % 5), codec})
		}
	}
	for _, at := range imagesAtLimit() {
		list = append(list, saveToAsk{at.im, "amy", 1, at.codec})
	}
	return list
}

func TestSavesAreNewMemory(t *testing.T) {
	for i, ask := range savesToAsk() {
		want := plainSave(ask.im, ask.name, ask.form, ask.codec)
		im := impl.Image{W: ask.im.W, H: ask.im.H, Pix: roomy(ask.im.Pix, 77)}
		one := impl.SaveImage(im, ask.name, ask.form, ask.codec)
		other := impl.SaveImage(im, ask.name, ask.form, ask.codec)
		if !stays(im.Pix, ask.im.Pix, 77) {
			t.Error(i, "an argument changes")
		}
		wantFile(t, i, one, want)
		fillWith(one[:cap(one)], 0xa5)
		fillWith(im.Pix, -5)
		wantFile(t, i, other, want)
	}
}

// filesToLoad are files of saved images and others.
func filesToLoad() [][]byte {
	var files [][]byte
	for _, ask := range savesToAsk() {
		files = append(files, plainSave(ask.im, ask.name, ask.form, ask.codec))
	}
	good := files[0]
	return append(files, nil, []byte("bad"), good[:len(good)-1], plainFile(richList(), 3), plainFile(nil, 0), plainFile(savedList(2, 2, "amy", "plain", "\x04"), 0))
}

func TestLoadsAreNewMemory(t *testing.T) {
	for i, was := range filesToLoad() {
		wantIm, wantName, wantCode := plainLoad(was)
		b := roomy(was, 0x77)
		one, name, code := impl.LoadImage(b)
		other, otherName, _ := impl.LoadImage(b)
		if !stays(b, was, 0x77) {
			t.Error(i, "an argument changes")
		}
		wantImage(t, i, one, wantIm)
		wantNumber(t, i, code, wantCode)
		fillWith(one.Pix[:cap(one.Pix)], -5)
		if !stays(b, was, 0x77) {
			t.Error(i, "shared with an argument")
		}
		fillWith(b, 0xa5)
		wantImage(t, i, other, wantIm)
		if name != wantName || otherName != wantName {
			t.Errorf("%d: %q and %q, want %q", i, name, otherName, wantName)
		}
	}
}

// What lies behind a list's length is neither read nor handed out.
func TestHouseBehindTheLength(t *testing.T) {
	pix := []int64{3, 900, -1, 65536}
	wantSaved(t, "two of four", impl.Image{W: 2, H: 1, Pix: pix[:2]}, "amy", 0, "plain")
	wantNotSaved(t, "one of four", impl.Image{W: 2, H: 1, Pix: pix[:1]}, "amy", 0, "plain")
	wantNotSaved(t, "three of four", impl.Image{W: 3, H: 1, Pix: pix[:3]}, "amy", 0, "plain")
	good := plainSave(imageOf(2, 1, 3, 900), "amy", 0, "plain")
	longer := append(slices.Clone(good), good...)
	wantLoaded(t, "the first half", longer[:len(good)], imageOf(2, 1, 3, 900), "amy")
	wantNotLoaded(t, "a byte too few", longer[:len(good)-1], ldFile)
	wantNotLoaded(t, "both", longer, ldFile)
	if !bytes.Equal(longer[len(good):], good) || !slices.Equal(pix, []int64{3, 900, -1, 65536}) {
		t.Error("what is behind changes")
	}
}

func scriptsToRun() []string {
	m := mixer(310)
	list := []string{"", "show", strings.Join(richHouse(), "\n"), strings.Join(append(richHouse(), stateLines()...), "\n"), strings.Repeat("x", 20001), strings.Repeat("\n", 301), strings.Join(twinHouse("damage left 0", "fetch "+twinName+" 0", "show"), "\n")}
	for range 20 {
		var lines []string
		for range 30 {
			lines = append(lines, m.someLine())
		}
		list = append(list, strings.Join(lines, "\n"))
	}
	return list
}

// Two runs of one text are the same, whatever was run between them and is run meanwhile; nothing of one house is seen in another.
func TestHouseAskedAgain(t *testing.T) {
	scripts, saves, files := scriptsToRun(), savesToAsk(), filesToLoad()
	want := make([]string, len(scripts))
	for k, text := range scripts {
		want[k] = plainScript(text)
	}
	askAgain := func(worker int) {
		for k := range 60 {
			k = k*7 + worker*5
			if text := scripts[k%len(scripts)]; impl.HouseRun(text) != want[k%len(scripts)] {
				t.Errorf("script %d is answered otherwise", k%len(scripts))
			}
			ask := saves[k%len(saves)]
			save(t, k, ask.im, ask.name, ask.form, ask.codec)
			load(t, k, files[k%len(files)])
		}
	}
	askAgain(0)
	var workers sync.WaitGroup
	for worker := range 6 {
		workers.Add(1)
		go func() {
			defer workers.Done()
			askAgain(worker)
		}()
	}
	workers.Wait()
}

// No argument makes a call panic or go on for ever.
func TestHouseNeverPanics(t *testing.T) {
	defer wantNoPanic(t, "the house")
	m := mixer(311)
	odd := []int64{leastInt, leastInt + 1, -1, 0, 1, 2, 64, 65, 1 << 32, mostInt - 1, mostInt}
	for _, w := range odd {
		for _, h := range odd {
			for _, codec := range append(codecNames(), "") {
				save(t, []any{w, h}, impl.Image{W: w, H: h, Pix: m.list(int(m.pick(0, 3)), leastInt/2, mostInt/2)}, "amy", odd[m.pick(0, 10)], codec)
			}
		}
	}
	wantSoon(t, "long scripts", func() {
		run(t, "scans", strings.Join(append(shapeLines(m.shapes(20)), "paint 16 16"), "\n")+strings.Repeat("\nscan\nrebuild", 100))
		impl.HouseRun("paint 64 64\n" + strings.Repeat("scan\nrebuild\n", 149))
		impl.HouseRun("paint 64 64\n" + strings.Repeat("play loop 64; loop 64; loop 64; loop 64; loop 64; loop 64; end; end; end; end; end; end\n", 200))
		impl.HouseRun("paint 64 64\n" + strings.Repeat("play loop 32; read 256; end\nrebuild\n", 140))
	})
	for range 300 {
		text := string(m.someBytes(int(m.pick(0, 400))))
		run(t, "bytes", text)
		run(t, "bytes of words", strings.Join(strings.Split(text, "a"), "\nshow "))
	}
}
