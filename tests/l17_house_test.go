package tests

import (
	"fmt"
	"slices"
	"strings"
	"testing"

	"loop.example/g00050/impl"
)

const nothingShown = "ok 0 0 0"

func TestShapeLines(t *testing.T) {
	var turns []string
	for k := range 64 {
		turns = append(turns, boxLine(0, 0, 1), fmt.Sprint("ok ", k+1))
	}
	turns = append(turns, boxLine(0, 0, 1), refusedShape, "shape 9 0 0 0 0 0 0", refusedShape, "paint 1 1", "ok 64 0 0", "clear", "ok", "paint 1 1", "ok 0 0 0", boxLine(0, 0, 1000), "ok 1", "paint 1 1", "ok 1000 0 0")
	script(t, "MaxShapes", turns...)
	for _, s := range wrongShapes() {
		wantNoChange(t, richHouse(), shapeLine(s), refusedShape)
	}
	for _, s := range []impl.Shape{{Kind: 1, X: 1001}, {Kind: 1, X: -1001}, {Kind: 1, Y: 1001}, {Kind: 1, A: 1001}, {Kind: 1, B: 1001}, {Kind: 3, A: 1, C: 1001}, {Kind: 1, Value: -1001}, {Kind: -1}, {Kind: 999999999}, {Kind: 1, X: 999999999}, {Kind: 1, X: -999999999}} {
		wantNoChange(t, richHouse(), shapeLine(s), refusedShape)
	}
	script(t, "ends", "shape 1 1000 -1000 1000 1000 0 1000", "ok 1", "shape 3 -1000 1000 -1000 -1000 1000 -1000", "ok 2", "shape 4 0 0 1000 1000 0 0", "ok 3", "shape 2 0 0 1000 1 0 0", "ok 4")
	// The number of words ahead of what the shape is.
	script(t, "first", "shape 9 0 0 0 0 0", refusedLine, "shape 9 0 0 0 0 0 x", refusedLine, "shape 9 0 0 0 0 0 0 0", refusedLine)
}

func TestPaintLines(t *testing.T) {
	script(t, "no shapes", "paint 1 1", "ok 0 0 0", "show", shownAs(imageOf(1, 1, 0)), "paint 64 64", "ok 0 0 0", "show", shownAs(imageOf(64, 64, make([]int64, 4096)...)))
	for _, sides := range []string{"0 1", "1 0", "0 0", "-1 1", "1 -1", "65 1", "1 65", "65 65", "999999999 1", "1 999999999", "-999999999 -999999999"} {
		wantNoChange(t, richHouse(), "paint "+sides, refusedCall)
		wantAnswers(t, sides, []string{"paint " + sides, "show"}, refusedCall, nothingShown)
	}
	for _, size := range [][2]int64{{1, 1}, {1, 64}, {64, 1}, {64, 64}, {5, 7}} {
		im := drawnImage(size[0], size[1], func(x, y int64) int64 { return -3 + 10*oneIf(x == 0) })
		w := plainWeight(im)
		script(t, size, "shape 1 0 0 1000 1000 0 -3", "ok 1", "shape 1 0 0 0 1000 0 10", "ok 2", fmt.Sprintf("paint %d %d", size[0], size[1]), fmt.Sprintf("ok %d %d %d", w[0], w[1], w[2]), "show", shownAs(im))
	}
	// What is painted stays when the phantom changes.
	script(t, "stays", boxLine(1, 0, 4), "ok 1", "paint 2 1", "ok 4 4 0", "clear", "ok", "show", shownAs(imageOf(2, 1, 0, 4)), boxLine(0, 0, 1), "ok 1", "show", shownAs(imageOf(2, 1, 0, 4)), "paint 2 1", "ok 1 0 0")
	// A second clear is as good as the first.
	script(t, "clear", "clear", "ok", "clear", "ok", boxLine(0, 0, 1), "ok 1", "clear", "ok", "clear", "ok", boxLine(0, 0, 1), "ok 1")
}

func TestResiduesLines(t *testing.T) {
	script(t, "none", "residues", refusedCall, "show", nothingShown)
	var turns []string
	for k := range 13 {
		turns = append(turns, boxLine(0, 0, 1000), fmt.Sprint("ok ", k+1))
	}
	turns = append(turns, boxLine(0, 1, -3), "ok 14", "paint 1 2", "ok 12997 0 -3", "show", shownAs(imageOf(1, 2, 13000, -3)), "residues", "ok 12997 0 12286", "show", shownAs(imageOf(1, 2, 711, 12286)), "residues", "ok 12997 0 12286")
	script(t, "above and below", turns...)
	// Any right picture has residues, whatever its sides.
	script(t, "no side", boxLine(2, 1, -1), "ok 1", "paint 3 5", "ok -1 -2 -1", "residues", "ok 12288 24576 12288")
}

// playTurns are turns with some picture of 2 x 2, and a line of play with its answer.
func playTurns(line, answer string) []string {
	return []string{boxLine(0, 0, 5), "ok 1", boxLine(1, 1, 7), "ok 2", "paint 2 2", "ok 12 7 7", line, answer}
}

func TestPlayLines(t *testing.T) {
	im := imageOf(2, 2, 5, 0, 0, 7)
	for _, sequence := range []string{"", " ", "   ", "read 1", "read 2", "read 256", "  read 1", "read 1  ", "rf x 1; read 2; wait 4; rf x 1; grad y 1 4; read 2", "loop 2; rf x 1; read 1; wait 9; end", "wait 1", "grad x 1 1;read 1", "at 5 ; read 1", "loop 32; read 256; end", "grad y -1000 1; grad x 999 1; read 3", "rf y 2; read 1", "loop 64; end"} {
		ps, fault := parsed(sequence)
		list, _, code := unrolled(ps)
		if fault.Code != 0 || code != 0 {
			t.Fatal(sequence, fault, code)
		}
		path := sampled(list)
		back := plainSpectrum(impl.Image{W: 2, H: 2, Pix: sampledSpectrum(im, path).Pix}, true)
		script(t, sequence, append(playTurns("play "+sequence, fmt.Sprint("ok ", len(path))), "show", shownAs(im), "rebuild", fmt.Sprint("ok ", leftOut(path, 2)), "show", shownAs(back))...)
	}
	for _, wrong := range []string{"read", "read 0", "read 257", "read x", "Read 1", "read 1;", ";", "; read 1", "read 1;; read 1", "end", "loop 2", "loop 2; read 1", "read 1 1", "read +1", "read 01", "rf x 1; rf x 1", "at 5; wait 1; at 3", "loop 64; wait 10000; end", "loop 64; loop 64; wait 1; end; end", "read\t1", "read 1\r", "read 1\x00", "\xff", "play read 1", strings.Repeat("x", 5000), strings.Repeat(" ", 4097)} {
		wantNoChange(t, richHouse(), "play "+wrong, refusedCall)
	}
	script(t, "just MaxSeq bytes", playTurns("play read 1"+strings.Repeat(" ", 4090), "ok 1")...)
	script(t, "one more", playTurns("play read 1"+strings.Repeat(" ", 4091), refusedCall)...)
	for _, line := range []string{"play", "playread 1", "Play read 1"} {
		wantNoChange(t, richHouse(), line, refusedLine)
	}
	script(t, "all faults ahead of the picture, which is none", "play", refusedLine, "play ", refusedCall, "play read", refusedCall, "play read 1", refusedCall, "rebuild", refusedCall)
}

// A path with more samples than MaxSamples is nothing, and the document lists no refusal for it: so no place is sampled.
func TestPlayOfTooManySamples(t *testing.T) {
	for _, loops := range []string{"loop 33; read 256; end", "loop 32; read 256; end; read 1"} {
		script(t, loops, append(playTurns("play read 2", "ok 2"), "play "+loops, "ok 0", "rebuild", "ok 4", "show", shownAs(imageOf(2, 2, 0, 0, 0, 0)))...)
	}
	script(t, "just MaxSamples", append(playTurns("play loop 32; read 256; end", "ok 8192"), "rebuild", "ok 2")...)
}

// Which pictures have samples: squares with a side.
func TestPicturesToScan(t *testing.T) {
	for w := int64(1); w <= 65; w += 1 + w/17 {
		for _, h := range []int64{w, w - 1, w + 1, 1, 64} {
			if w > 64 || h < 1 || h > 64 {
				continue
			}
			fits := w == h && slices.Contains(sides(), w)
			ahead := []string{boxLine(0, 0, 3), fmt.Sprintf("paint %d %d", w, h)}
			want := []string{refusedCall, refusedCall, refusedCall, refusedCall}
			if fits {
				want = []string{fmt.Sprint("ok ", w*w), "ok 1", "ok 0", fmt.Sprint("ok ", w*w)}
			}
			got := lastAnswers(t, []any{w, h}, 4, append(ahead, "scan", "play read 1", "play ", "rebuild")...)
			if !slices.Equal(got, want) {
				t.Errorf("%d x %d: %q, want %q", w, h, got, want)
			}
		}
	}
	script(t, "none", "scan", refusedCall, "rebuild", refusedCall, "show", nothingShown)
}

// Samples and picture stay what they are when the other changes.
func TestSamplesStay(t *testing.T) {
	im := imageOf(2, 2, 5, 0, 0, 7)
	script(t, "picture after picture", append(playTurns("scan", "ok 4"), "paint 4 4", "ok 12 7 7", "rebuild", "ok 0", "show", shownAs(im), "clear", "ok", "paint 8 8", "ok 0 0 0", "rebuild", "ok 0", "show", shownAs(im), "rebuild", "ok 0")...)
	script(t, "refused scans", append(playTurns("scan", "ok 4"), "paint 3 3", "ok 12 7 7", "scan", refusedCall, "play read 1", refusedCall, "rebuild", "ok 0", "show", shownAs(im))...)
	script(t, "samples give place", append(playTurns("scan", "ok 4"), "play read 1", "ok 1", "rebuild", "ok 3")...)
}

func TestStoreLines(t *testing.T) {
	ahead := playTurns("show", shownAs(imageOf(2, 2, 5, 0, 0, 7)))
	for _, codec := range codecNames() {
		for form := range 4 {
			script(t, codec, append(slices.Clone(ahead), fmt.Sprintf("store amy %d %s", form, codec), "ok 1", "clear", "ok", "paint 1 1", "ok 0 0 0", "fetch amy 1", "ok 1", "show", shownAs(imageOf(2, 2, 5, 0, 0, 7)))...)
		}
	}
	script(t, "versions", append(slices.Clone(ahead), "store amy 0 plain", "ok 1", "store amy 0 plain", "ok 1", "store amy 1 plain", "ok 2", "store amy 0 runs", "ok 3", "store bob 0 runs", "ok 1", "store amy 0 runs", "ok 3", "store amy 0 plain", "ok 4", "clear", "ok", "paint 1 1", "ok 0 0 0", "store amy 0 plain", "ok 5")...)
	for _, wrong := range []string{"store amy 4 plain", "store amy -1 plain", "store amy 999999999 plain", "store amy 0 none", "store amy 0 Plain", "store amy 0 ", "store amy 0 plain\r", "store  4 plain", "store " + strings.Repeat("n", 41) + " 4 plain"} {
		wantNoChange(t, richHouse(), wrong, refusedCall)
	}
	// SaveImage comes ahead of the deed, and the words ahead of both.
	script(t, "no picture", "store amy 0 plain", refusedCall, "store  0 plain", refusedCall, "store  0 ", refusedCall, "store  x ", refusedLine, "store amy 0 plain x", refusedLine, "fetch amy 1", "error 14")
	script(t, "below 0", boxLine(0, 0, -1), "ok 1", "paint 1 1", "ok -1 0 0", "store amy 0 plain", refusedCall, "store  0 plain", refusedCall, "residues", "ok 12288 0 0", "store amy 0 plain", "ok 1")
	var great []string
	for k := range 64 {
		great = append(great, "shape 1 0 0 1000 1000 0 1000", fmt.Sprint("ok ", k+1))
	}
	script(t, "64000 is a tone", append(great, "paint 1 1", "ok 64000 0 0", "store amy 0 plain", "ok 1")...)
	// A body may be too long for the archive, or for an element first.
	script(t, "long", "paint 31 32", "ok 0 0 0", "store a 0 plain", "ok 1", "paint 32 32", "ok 0 0 0", "store a 0 plain", "error 12", "paint 64 64", "ok 0 0 0", "store a 0 plain", refusedCall, "store a 0 runs", "ok 2", "store a 0 rice", "ok 3", "store  0 rice", "error 11")
}

// Just MaxBody bytes are stored, one more are not: names make the file longer byte by byte.
func TestStoreOfLongBodies(t *testing.T) {
	found := map[string]int{}
	for length := 1; length <= 40; length++ {
		name := strings.Repeat("n", length)
		size := len(plainSave(imageOf(18, 55, make([]int64, 990)...), name, 0, "plain"))
		want := "ok 1"
		if size > 2048 {
			want = "error 12"
		}
		if size == 2048 || size == 2049 {
			found[want]++
		}
		script(t, size, "paint 18 55", "ok 0 0 0", "store "+name+" 0 plain", want)
	}
	if found["ok 1"] != 1 || found["error 12"] != 1 {
		t.Error("not just at the limit", found)
	}
}

// Each code of ArchDo that lines can meet: all but ArBad, since every archive of the house is right.
func TestDeedCodes(t *testing.T) {
	wantNoChange(t, richHouse(), "store  0 plain", "error 11")
	wantNoChange(t, richHouse(), "store "+strings.Repeat("n", 41)+" 0 plain", "error 11")
	for _, deed := range []string{"commit", "hold", "free", "drop", "fetch"} {
		for _, entry := range []string{"nobody 1", "kept 2", "kept 1000", "Kept 1", "waits 0"} {
			wantNoChange(t, richHouse(), deed+" "+entry, "error 14")
		}
		for _, entry := range []string{"kept -1", "kept 1001", "nobody -1", "nobody 1001", "kept 999999999", "kept -999999999"} {
			wantNoChange(t, richHouse(), deed+" "+entry, "error 17")
		}
	}
	wantNoChange(t, richHouse(), "drop held 1", "error 16")
	wantNoChange(t, richHouse(), "free kept 1", "error 16")
	both := append(richHouse(), "damage left -1", "damage right -1")
	wantNoChange(t, both, "fetch kept 1", "error 15")
	wantNoChange(t, both, "fetch kept 0", "error 15")
	wantNoChange(t, both, "commit waits 1", "error 15")
	wantNoChange(t, append(richHouse(), "damage right -1"), "commit waits 1", "error 15")
	wantNoChange(t, append(richHouse(), "damage left 2"), "commit waits 1", "error 15")
	holds := append(richHouse(), slices.Repeat([]string{"hold kept 1"}, 8)...)
	wantNoChange(t, holds, "hold kept 1", "error 16")
	script(t, "holds", "paint 1 1", "ok 0 0 0", "store a 0 plain", "ok 1", "hold a 1", "ok", "hold a 1", "ok", "free a 1", "ok", "drop a 1", "error 16", "free a 1", "ok", "free a 1", "error 16", "drop a 1", "ok", "drop a 1", "error 14", "store a 0 plain", "ok 1")
	script(t, "commits", "paint 1 1", "ok 0 0 0", "store a 0 plain", "ok 1", "fetch a 0", "error 14", "commit a 0", "error 14", "commit a 1", "ok", "commit a 1", "ok", "fetch a 0", "ok 1", "store a 1 plain", "ok 2", "fetch a 0", "ok 1", "fetch a 2", "ok 2", "commit a 2", "ok", "fetch a 0", "ok 2")
}

func TestFullArchive(t *testing.T) {
	turns := []string{"paint 1 1", "ok 0 0 0"}
	for k := range 200 {
		turns = append(turns, fmt.Sprintf("store n%d 0 plain", k), "ok 1")
	}
	turns = append(turns, "store n200 0 plain", "error 13", "store n199 0 plain", "ok 1", "store n199 0 runs", "error 13", "store  0 plain", "error 11", "drop n7 1", "ok", "store n200 0 plain", "ok 1", "store n7 0 plain", "error 13", "fetch n200 1", "ok 1", "fetch n7 1", "error 14", "scrub", "ok 0", "damage left -1", "ok", "scrub", "ok 200")
	script(t, "MaxEntries", turns...)
}

// twinHouse stores an image whose file has the Digest of the body bad, so that a copy that is damaged is as sound as ever.
func twinHouse(lines ...string) []string {
	return append([]string{boxLine(0, 0, 5), "paint 1 1", "store " + twinName + " 0 plain", "commit " + twinName + " 1", "paint 2 1"}, lines...)
}

// A body that the archive hands out, but that is no image: refused behind the deed's own code.
func TestFetchOfNoImage(t *testing.T) {
	file := plainSave(imageOf(1, 1, 5), twinName, 0, "plain")
	if plainDigest(file) != plainDigest([]byte("bad")) {
		t.Fatal("no twins", plainDigest(file), plainDigest([]byte("bad")))
	}
	aheadAnswers := []string{"ok 1", "ok 5 0 0", "ok 1", "ok", "ok 5 0 0"}
	now := shownAs(imageOf(2, 1, 5, 0))
	answers := func(more ...string) []string { return append(slices.Clone(aheadAnswers), more...) }
	wantAnswers(t, "sound", twinHouse("fetch "+twinName+" 1", "show"), answers("ok 1", shownAs(imageOf(1, 1, 5)))...)
	wantAnswers(t, "left", twinHouse("damage left 0", "fetch "+twinName+" 1", "show", "fetch "+twinName+" 0", "show"), answers("ok", refusedCall, now, refusedCall, now)...)
	wantAnswers(t, "right", twinHouse("damage right 0", "fetch "+twinName+" 1", "show"), answers("ok", "ok 1", shownAs(imageOf(1, 1, 5)))...)
	wantAnswers(t, "the deed's own code first", twinHouse("damage left 0", "fetch "+twinName+" 2", "fetch "+twinName+" -1", "damage left -1", "fetch "+twinName+" 1", "show"), answers("ok", "error 14", "error 17", "ok", "ok 1", shownAs(imageOf(1, 1, 5)))...)
	wantAnswers(t, "both", twinHouse("damage left 0", "damage right -1", "fetch "+twinName+" 1", "show", "scrub", "fetch "+twinName+" 1", "drop "+twinName+" 1", "fetch "+twinName+" 1"), answers("ok", "ok", refusedCall, now, "ok 1", refusedCall, "ok", "error 14")...)
}

func TestDamageLines(t *testing.T) {
	ahead := append(richHouse(), "paint 4 4")
	fetches := []string{"fetch held 1", "fetch kept 1", "fetch waits 1"} // in the order of the shelves
	okay, lost := "ok 1", "error 15"
	for _, side := range []string{"left", "right"} {
		other := map[string]string{"left": "right", "right": "left"}[side]
		for _, at := range []int{-999999999, -2, -1, 0, 1, 2, 3, 4, 999999999} {
			damage := fmt.Sprintf("damage %s %d", side, at)
			// One side alone loses nothing.
			got := lastAnswers(t, damage, 4, slices.Concat(ahead, []string{damage}, fetches)...)
			if !slices.Equal(got, []string{"ok", okay, okay, okay}) {
				t.Errorf("%s: %q", damage, got)
			}
			// With the other side gone, what it harmed is lost.
			want := []string{"ok", "ok", okay, okay, okay}
			for k := range 3 {
				if at == k || at < 0 || at > 2 {
					want[2+k] = lost
				}
			}
			got = lastAnswers(t, damage, 5, slices.Concat(ahead, []string{damage, "damage " + other + " -1"}, fetches)...)
			if !slices.Equal(got, want) {
				t.Errorf("%s: %q, want %q", damage, got, want)
			}
			// A scrub mends it, and says how many copies it laid down.
			laid := "ok 1"
			if at < 0 || at > 2 {
				laid = "ok 3"
			}
			got = lastAnswers(t, damage, 6, slices.Concat(ahead, []string{damage, "scrub", "damage " + other + " -1"}, fetches)...)
			if !slices.Equal(got, []string{"ok", laid, "ok", okay, okay, okay}) {
				t.Errorf("%s, scrub: %q", damage, got)
			}
		}
	}
	for _, wrong := range []string{"damage both 0", "damage Left 0", "damage LEFT 0", "damage lef 0", "damage lefts 0", "damage  0", "damage left  0", "damage 0 left", "damage left", "damage left 0 bad", "damage left right", "damage right\r 0", "damage leftright 0", "damage \x00left 0", "damage 0 0", "damage l 0"} {
		wantNoChange(t, richHouse(), wrong, refusedLine)
	}
	script(t, "nothing to harm", "damage left 0", "ok", "damage right -1", "ok", "scrub", "ok 0")
}

func TestScrubAndTickLines(t *testing.T) {
	script(t, "empty", "scrub", "ok 0", "tick", "ok 0", "tick", "ok 0", "scrub", "ok 0")
	script(t, "many", append(playTurns("store a 0 plain", "ok 1"), "tick", "ok 0", "store b 0 plain", "ok 1", "damage right -1", "ok", "commit a 1", "error 15", "scrub", "ok 2", "scrub", "ok 0", "commit a 1", "ok", "tick", "ok 0")...)
	wantText(t, strings.Repeat("tick\nscrub\n", 150), strings.Repeat("ok 0\nok 0\n", 150))
}

func TestShowLines(t *testing.T) {
	script(t, "none", "show", nothingShown, "show", nothingShown)
	script(t, "one", boxLine(0, 0, 5), "ok 1", "paint 1 1", "ok 5 0 0", "show", "ok 1 1 508141608236056407")
	for _, im := range []impl.Image{imageOf(1, 1, -1), imageOf(2, 1, -1000, 1000), imageOf(1, 3, 256, -256, 255), imageOf(3, 1, 0, 0, 0), imageOf(1, 3, 0, 0, 0)} {
		var lines []string
		for i, pixel := range im.Pix {
			lines = append(lines, boxLine(int64(i)%im.W, int64(i)/im.W, pixel))
		}
		lines = append(lines, fmt.Sprintf("paint %d %d", im.W, im.H), "show", "show")
		want := []string{shownAs(im), shownAs(im)}
		if got := lastAnswers(t, im, 2, lines...); !slices.Equal(got, want) {
			t.Errorf("%v: %q, want %q", im, got, want)
		}
		var b []byte
		for _, pixel := range im.Pix {
			b = append(b, lowFirst(pixel, 8)...)
		}
		wantNumber(t, im, pixelDigest(im), plainDigest(b))
	}
}
