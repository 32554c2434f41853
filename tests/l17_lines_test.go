package tests

import (
	"fmt"
	"slices"
	"strings"
	"testing"

	"loop.example/g00050/impl"
)

const refusedLine, refusedShape, refusedCall = "error 1", "error 2", "error 3"

// wantText asks for just this answer to a text.
func wantText(t *testing.T, text, want string) {
	t.Helper()
	run(t, "text", text)
	if got := impl.HouseRun(text); got != want {
		t.Errorf("%.100q: %.100q, want %.100q", text, got, want)
	}
}

func TestScriptsOfFewLines(t *testing.T) {
	wantText(t, "", "")
	wantText(t, "\n", "")
	wantText(t, "\n\n\n", "")
	wantText(t, "clear", "ok\n")
	wantText(t, "clear\n", "ok\n")
	wantText(t, "\nclear", "ok\n")
	wantText(t, "\n\nclear\n\n\nclear\n\n", "ok\nok\n")
	wantText(t, "clear\nclear", "ok\nok\n")
	wantText(t, "clear\nno\nclear\n", "ok\nerror 1\nok\n")
	wantText(t, " ", "error 1\n")
	wantText(t, "  ", "error 1\n")
	wantText(t, " \n", "error 1\n")
	wantText(t, "\n \n\n  \n", "error 1\nerror 1\n")
	wantText(t, "\r\n", "error 1\n")
	wantText(t, "clear\r\nclear\r\n", "error 1\nerror 1\n")
	wantText(t, "\x00", "error 1\n")
	wantText(t, "clear\n\x00", "ok\nerror 1\n")
	wantText(t, "\xff\n\x80clear\nclear\xc3\xa9\n", "error 1\nerror 1\nerror 1\n")
	wantText(t, "\t\nclear\t\n\tclear", "error 1\nerror 1\nerror 1\n")
}

// textOf has so many bytes, in three lines.
func textOf(length int) string {
	head, tail := "clear\n", "\nclear\n"
	return head + strings.Repeat("x", length-len(head)-len(tail)) + tail
}

func TestScriptsOfManyBytes(t *testing.T) {
	for _, length := range []int{300, 19998, 19999, 20000} {
		wantText(t, textOf(length), "ok\nerror 1\nok\n")
		wantText(t, strings.Repeat("x", length), "error 1\n")
		wantText(t, strings.TrimSuffix(textOf(length+1), "\n"), "ok\nerror 1\nok\n")
		wantText(t, strings.Repeat(strings.Repeat("x", length/100-1)+"\n", 100), strings.Repeat("error 1\n", 100))
	}
	for _, length := range []int{20001, 20002, 20100, 40000, 1 << 21} {
		wantText(t, textOf(length), "")
		wantText(t, strings.Repeat("x", length), "")
		wantText(t, strings.TrimSuffix(textOf(length+1), "\n"), "")
		wantText(t, strings.Repeat("\n", length), "")
		wantText(t, strings.Repeat("x", length-1)+"\n", "")
	}
}

func TestScriptsOfManyLines(t *testing.T) {
	ok := func(count int) string { return strings.Repeat("ok\n", count) }
	for _, count := range []int{1, 2, 150, 299, 300} {
		wantText(t, strings.Repeat("clear\n", count), ok(count))
		wantText(t, strings.Repeat("clear\n", count-1)+"clear", ok(count))
		wantText(t, strings.Repeat("\n", count), "")
		wantText(t, strings.Repeat("\n", count-1)+"clear\n", ok(1))
		wantText(t, strings.Repeat("\n", count-1)+"clear", ok(1))
		wantText(t, "clear\n"+strings.Repeat("\n", count-1), ok(1))
	}
	for _, count := range []int{301, 302, 600, 3000} {
		wantText(t, strings.Repeat("clear\n", count), "")
		wantText(t, strings.Repeat("clear\n", count-1)+"clear", "")
		wantText(t, strings.Repeat("\n", count), "")
		wantText(t, strings.Repeat("\n", count-1)+"clear\n", "")
		wantText(t, strings.Repeat("\n", count-1)+"clear", "")
		wantText(t, "clear\n"+strings.Repeat("\n", count-1), "")
		wantText(t, strings.Repeat("\n", count-1)+" ", "")
	}
	// Half of 300 and of 302 lines without a byte.
	wantText(t, strings.Repeat("clear\n\n", 150), ok(150))
	wantText(t, strings.Repeat("\nclear\n", 150), ok(150))
	wantText(t, strings.Repeat("\nclear\n", 149)+"\nclear", ok(150))
	wantText(t, strings.Repeat("clear\n\n", 150)+"\n", "")
	wantText(t, strings.Repeat("clear\n\n", 150)+"clear", "")
	wantText(t, strings.Repeat("clear\n\n", 151), "")
	// All limits met at once.
	lines := strings.Repeat(strings.Repeat("x", 65)+"\n", 300)
	wantText(t, lines+strings.Repeat("y", 20000-len(lines)), "") // 301 lines
	wantText(t, strings.Repeat("y", 20000-len(lines))+lines, strings.Repeat("error 1\n", 300))
	wantText(t, strings.Repeat("y", 20001-len(lines))+lines, "")
}

// rightLines are one of each line of the table, all of which are done in the house of richHouse.
func rightLines() []string {
	return []string{"shape 1 0 0 0 0 0 1", "clear", "paint 2 2", "residues", "play read 3", "scan", "rebuild", "store new 0 plain", "commit kept 1", "hold kept 1", "free held 1", "drop waits 1", "fetch kept 0", "scrub", "tick", "damage left 0", "show"}
}

// richHouse has a phantom, a picture, samples, and an archive with entries kept, held and waiting.
func richHouse() []string {
	return []string{boxLine(0, 0, 5), boxLine(1, 1, 7), "paint 2 2", "scan", "store kept 0 plain", "commit kept 1", "store held 3 runs", "hold held 1", "store waits 1 rice"}
}

// stateLines show nearly all that a house has.
func stateLines() []string {
	return []string{"show", "rebuild", "show", "paint 4 4", "show", "fetch kept 1", "show", "fetch held 1", "show", "fetch waits 1", "show", "fetch new 1", "show", "free held 1", "free held 1", "free kept 1", "store waits 1 rice", "scrub", boxLine(2, 2, 1), "paint 4 4", "show"}
}

// wantNoChange asks that a line is refused with a code, and that all lines behind it answer as if it were not there.
func wantNoChange(t *testing.T, ahead []string, line, want string) {
	t.Helper()
	behind := stateLines()
	without := lastAnswers(t, "without", len(behind), slices.Concat(ahead, behind)...)
	with := lastAnswers(t, line, len(behind)+1, slices.Concat(ahead, []string{line}, behind)...)
	if with[0] != want {
		t.Errorf("%.100q: %s, want %s", line, with[0], want)
	}
	if !slices.Equal(with[1:], without) {
		t.Errorf("%.100q changes something: %q, want %q", line, with[1:], without)
	}
}

func TestRightLines(t *testing.T) {
	answers := []string{"ok 3", "ok", "ok 12 7 7", "ok 12 7 7", "ok 3", "ok 4", "ok 0", "ok 1", "ok", "ok", "ok", "ok", "ok 1", "ok 0", "ok 0", "ok", shownAs(imageOf(2, 2, 5, 0, 0, 7))}
	for k, line := range rightLines() {
		if got := lastAnswers(t, line, 1, append(richHouse(), line)...)[0]; got != answers[k] {
			t.Errorf("%q: %s, want %s", line, got, answers[k])
		}
	}
}

// A word too few, a word too many, blanks where none belong, other bytes, other cases: the line is none.
func TestGarbledLines(t *testing.T) {
	for _, line := range rightLines() {
		words := strings.Split(line, " ")
		garbled := []string{
			" " + line, line[:1] + " " + line[1:], line + "\x00", line + "\r", line + "\t", "\x00" + line, "\xff" + line, "\t" + line,
			strings.ToUpper(line), strings.ToUpper(line[:1]) + line[1:], strings.ToUpper(words[0]) + line[len(words[0]):],
			words[0] + "s" + line[len(words[0]):], line[1:], words[0][:len(words[0])-1] + line[len(words[0]):],
			words[0] + "\t" + line[len(words[0]):], words[0] + "\xa0" + line[len(words[0]):],
		}
		if words[0] == "play" || words[0] == "store" { // their last word may have any bytes
			garbled = slices.DeleteFunc(garbled, func(s string) bool { return strings.HasPrefix(s, words[0]+" ") })
		}
		if words[0] != "play" {
			garbled = append(garbled, line+" ", line+" x", line+" 0", line+"  ", strings.Replace(line, words[0], words[0]+" ", 1), strings.TrimSuffix(strings.Repeat(line+" ", 2), " "))
			if len(words) > 1 {
				garbled = append(garbled, strings.Join(words[:len(words)-1], " "), words[0], words[0]+" ", strings.ReplaceAll(line, " ", "  "), strings.ReplaceAll(line, " ", "\t"), strings.ReplaceAll(line, " ", ""))
			} else {
				garbled = append(garbled, line+line)
			}
		} else {
			garbled = append(garbled, "play", "playread 3", "play\tread 3")
		}
		for _, wrong := range garbled {
			wantNoChange(t, richHouse(), wrong, refusedLine)
		}
	}
	for _, wrong := range []string{"ok", "error 1", "bad", "house", "render", "fetch", "paint 2", "paint", "store kept plain", "store kept 0", "commit 1", "commit kept", "fetch kept", "hold", "damage left", "damage 0", "damage", "scrub 1", "tick 1", "shape 1 0 0 0 0 0", "shape 1 0 0 0 0 0 1 1", "shape", "0", "-", ";", "read 3", "rf x 1", "#", "// clear"} {
		wantNoChange(t, richHouse(), wrong, refusedLine)
	}
}

// Where a line asks for a number, nothing else is one.
func TestNumbersOfLines(t *testing.T) {
	noNumbers := []string{"", "-", "+", "-0", "+0", "00", "01", "-00", "-01", "+1", "--1", "-+1", "1-", "1.", "1.0", ".1", "1e1", "0x1", "0b1", "1_0", "1,0", "a", "one", "1a", "a1", "\xd9\xa1", "1\x00", "\x001", "1\r", "\t1", "1000000000", "-1000000000", "9999999999", "1234567890", "0000000001", "18446744073709551617", "-18446744073709551615", "9223372036854775808", strings.Repeat("1", 400), strings.Repeat("0", 9), "\xef\xbc\x91", "1\xff", "\xb2"}
	for _, line := range rightLines() {
		words := strings.Split(line, " ")
		for k, word := range words[1:] {
			if words[0] == "play" || !wholeForm.MatchString(word) {
				continue
			}
			for _, wrong := range noNumbers {
				other := slices.Clone(words)
				other[1+k] = wrong
				if got := lastAnswers(t, wrong, 1, append(richHouse(), strings.Join(other, " "))...)[0]; got != refusedLine {
					t.Errorf("%.100q: %s", other, got)
				}
			}
			// These are numbers, so the line is not refused for its words.
			for _, number := range []string{"0", "-1", "9", "10", "-10", "999999999", "-999999999", "100000000", "123456789"} {
				other := slices.Clone(words)
				other[1+k] = number
				if got := lastAnswers(t, number, 1, append(richHouse(), strings.Join(other, " "))...)[0]; got == refusedLine {
					t.Errorf("%.100q: %s", other, got)
				}
			}
		}
	}
	for _, wrong := range noNumbers {
		wantNoChange(t, richHouse(), "paint "+wrong+" 2", refusedLine)
		wantNoChange(t, richHouse(), "fetch kept "+wrong, refusedLine)
	}
}

// What each number of a line stands for.
func TestPlacesOfNumbers(t *testing.T) {
	s := impl.Shape{Kind: impl.ShBand, X: 3, Y: -2, A: 4, B: -5, C: 6, Value: -7}
	im := drawnImage(9, 6, func(x, y int64) int64 { return densityOf([]impl.Shape{s}, x, y) })
	w := plainWeight(im)
	script(t, "a band", "shape 3 3 -2 4 -5 6 -7", "ok 1", "paint 9 6", fmt.Sprintf("ok %d %d %d", w[0], w[1], w[2]), "show", shownAs(im))
	if w[0] == 0 {
		t.Error("nothing is drawn")
	}
	for _, s := range rightShapes() {
		s.X, s.Y = 4, 3
		im := drawnImage(12, 11, func(x, y int64) int64 { return densityOf([]impl.Shape{s}, x, y) })
		w := plainWeight(im)
		script(t, s, shapeLine(s), "ok 1", "paint 12 11", fmt.Sprintf("ok %d %d %d", w[0], w[1], w[2]), "show", shownAs(im))
	}
	script(t, "sides", "paint 3 2", "ok 0 0 0", "show", shownAs(imageOf(3, 2, make([]int64, 6)...)), "paint 2 3", "ok 0 0 0", "show", shownAs(imageOf(2, 3, make([]int64, 6)...)))
}

// A name is whatever stands between two blanks, of no byte too; that is then asked of the archive.
func TestNamesOfLines(t *testing.T) {
	for _, name := range []string{"a", "0", "-1", "left", "store", ";", "\x00", "\r", "\t", "\xff\xfe", "\xc3\xa9", "\x1b2\xc3\xa9", "\xa0", "A1", strings.Repeat("n", 40), strings.Repeat("\xff", 40)} {
		script(t, name, boxLine(0, 0, 9), "ok 1", "paint 1 1", "ok 9 0 0",
			"store "+name+" 0 plain", "ok 1", "commit "+name+" 1", "ok", "hold "+name+" 1", "ok", "paint 2 2", "ok 9 0 0", "fetch "+name+" 0", "ok 1", "show", shownAs(imageOf(1, 1, 9)),
			"drop "+name+" 1", "error 16", "free "+name+" 1", "ok", "drop "+name+" 1", "ok", "fetch "+name+" 0", "error 14")
	}
	script(t, "no byte", "paint 1 1", "ok 0 0 0", "store  0 plain", "error 11", "commit  1", "error 14", "hold  1", "error 14", "free  1", "error 14", "drop  1", "error 14", "fetch  1", "error 14", "fetch  0", "error 14", "damage  0", refusedLine)
	long := strings.Repeat("n", 41)
	script(t, "long", "paint 1 1", "ok 0 0 0", "store "+long+" 0 plain", "error 11", "commit "+long+" 1", "error 14", "fetch "+long+" 0", "error 14")
}
