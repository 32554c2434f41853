package tests

import (
	"fmt"
	"slices"
	"strings"
	"testing"

	"loop.example/g00050/impl"
)

// phantomsOf are phantoms for a picture of n columns and rows: with values below 0 and above Prime, few shapes and many.
func (m *mixer) phantomsOf(n int64) [][]impl.Shape {
	near := func(count int) []impl.Shape {
		list := m.shapes(count)
		for k := range list {
			list[k].X, list[k].Y = m.pick(0, n-1), m.pick(0, n-1)
		}
		return list
	}
	heavy := impl.Shape{Kind: impl.ShBox, X: n / 2, Y: n / 3, A: n / 4, B: n / 2, Value: 1000}
	return [][]impl.Shape{nil, near(1), near(3), {{Kind: impl.ShBox, A: 1000, B: 1000, Value: -7}}, append(slices.Repeat([]impl.Shape{heavy}, 13), near(2)...)}
}

// The whole way: painted, scanned whole and rebuilt, the picture is the phantom's residues.
func TestScannedAndRebuilt(t *testing.T) {
	m := mixer(305)
	for _, n := range sides() {
		for i, phantom := range m.phantomsOf(n) {
			if n == 64 && i > 2 {
				continue // the plain reckoning is slow
			}
			what := []any{"side", n, "phantom", i}
			paint := fmt.Sprintf("paint %d %d", n, n)
			want := residuesOf(drawnImage(n, n, func(x, y int64) int64 { return densityOf(phantom, x, y) }))
			lines := append(shapeLines(phantom), paint, "residues", "show", paint, "scan", "rebuild", "show")
			got := lastAnswers(t, what, 5, lines...)
			if got[0] != shownAs(want) || got[2] != fmt.Sprint("ok ", n*n) || got[3] != "ok 0" || got[4] != got[0] {
				t.Errorf("%v: %q, want %q", what, got, shownAs(want))
			}
			// The picture of residues, scanned in its turn, stays.
			again := lastAnswers(t, what, 4, append(lines, "scan", "rebuild", "residues", "show")...)
			if again[1] != "ok 0" || again[3] != got[0] {
				t.Errorf("%v: again %q, want %q", what, again, got[0])
			}
		}
	}
}

// Stored, committed and fetched it is the same, with one shelf gone too, or one copy harmed.
func TestStoredAndFetched(t *testing.T) {
	m := mixer(306)
	for _, n := range []int64{1, 2, 4, 8, 16} {
		for i, phantom := range m.phantomsOf(n) {
			want := shownAs(residuesOf(drawnImage(n, n, func(x, y int64) int64 { return densityOf(phantom, x, y) })))
			lines := append(shapeLines(phantom), fmt.Sprintf("paint %d %d", n, n), "scan", "rebuild", "store other 0 runs")
			for k, harm := range []string{"", "damage left -1", "damage right -1", "damage left 0", "damage right 0", "damage left 1", "damage right 1", "damage left 2", "damage right 999999999"} {
				form, codec := k%4, codecNames()[(k+i)%4]
				whole := append(slices.Clone(lines), fmt.Sprintf("store image %d %s", form, codec), "commit image 1", harm, "clear", boxLine(0, 0, 77), "paint 3 2", "show", "fetch image 0", "show", "scrub", "fetch image 1", "show")
				got := lastAnswers(t, []any{n, i, harm}, 6, whole...)
				if got[0] != shownAs(imageOf(3, 2, 77, 0, 0, 0, 0, 0)) || got[1] != "ok 1" || got[2] != want || got[4] != "ok 1" || got[5] != want {
					t.Errorf("side %d, phantom %d, %q, form %d, %s: %q, want %q", n, i, harm, form, codec, got, want)
				}
			}
		}
	}
}

// At any path, as many places are missing as the path leaves out.
func TestPlayedAndRebuilt(t *testing.T) {
	m := mixer(307)
	for range 60 {
		n := sides()[m.pick(0, 4)]
		ps := m.orders(int(m.pick(0, 12)), 2)
		list, _, code := unrolled(ps)
		phantom := m.shapes(3)
		lines := append(shapeLines(phantom), fmt.Sprintf("paint %d %d", n, n), "play "+impl.ShowSeq(ps), "rebuild")
		got := lastAnswers(t, impl.ShowSeq(ps), 2, lines...)
		want := []string{refusedCall, refusedCall}
		if code == 0 {
			path := sampled(list)
			want = []string{fmt.Sprint("ok ", len(path)), fmt.Sprint("ok ", leftOut(path, n))}
		}
		if !slices.Equal(got, want) {
			t.Errorf("%s: %q, want %q", impl.ShowSeq(ps), got, want)
		}
	}
}

// someLine is a line that a house of few names will often do; now and then it is garbled.
func (m *mixer) someLine() string {
	name := []string{"a", "b", "ab"}[m.pick(0, 2)]
	version := m.pick(0, 3)
	line := []string{
		shapeLine(m.shape()), boxLine(m.pick(0, 3), m.pick(0, 3), m.pick(-5, 30)), boxLine(m.pick(0, 3), m.pick(0, 3), m.pick(0, 1000)), "clear",
		fmt.Sprintf("paint %d %d", m.pick(0, 5), m.pick(1, 5)), "paint 4 4", "paint 2 2", "residues", "residues", "scan", "rebuild",
		"play " + impl.ShowSeq(m.orders(int(m.pick(0, 5)), 1)), "play loop 4; rf x 1; read 3; wait 9; end",
		fmt.Sprintf("store %s %d %s", name, m.pick(0, 3), codecNames()[m.pick(0, 3)]), fmt.Sprintf("store %s 0 plain", name), fmt.Sprintf("store %s %d runs", name, m.pick(-1, 4)),
		fmt.Sprintf("commit %s %d", name, version), fmt.Sprintf("commit %s 1", name), fmt.Sprintf("hold %s %d", name, version), fmt.Sprintf("free %s %d", name, version), fmt.Sprintf("drop %s %d", name, version),
		fmt.Sprintf("fetch %s %d", name, version), fmt.Sprintf("fetch %s 0", name), "scrub", "tick",
		fmt.Sprintf("damage left %d", m.pick(-1, 4)), fmt.Sprintf("damage right %d", m.pick(-1, 4)), "show", "show",
	}[m.pick(0, 28)]
	if m.pick(0, 14) > 0 {
		return line
	}
	at := int(m.pick(0, int64(len(line))))
	switch m.pick(0, 3) {
	case 0:
		return line[:at]
	case 1:
		return line[:at] + " " + line[at:]
	case 2:
		return line[:at] + string([]byte{byte(m.pick(0, 255))}) + line[at:]
	}
	return line + fmt.Sprint(" ", m.pick(-3, 12))
}

// Thrown scripts are answered as the words say.
func TestScriptsAsTheWordsSay(t *testing.T) {
	m := mixer(308)
	told := map[string]int{}
	for k := range 400 {
		var lines []string
		for range m.pick(20, 60) {
			lines = append(lines, m.someLine())
		}
		for _, answer := range run(t, k, strings.Join(lines, "\n")) {
			if strings.HasPrefix(answer, "error") {
				told[answer]++
			} else {
				told["ok"]++
			}
		}
	}
	for _, answer := range []string{"ok", "error 1", "error 3", "error 14", "error 15", "error 16"} {
		if told[answer] < 50 {
			t.Error("too few", answer, told)
		}
	}
}

// Every line that is refused changes nothing: without it all other lines are answered the same.
func TestRefusedLinesChangeNothing(t *testing.T) {
	m := mixer(309)
	for k := range 150 {
		var lines []string
		for range 40 {
			line := m.someLine()
			if line != "" && !strings.Contains(line, "\n") {
				lines = append(lines, line)
			}
		}
		var kept, want []string
		for i, answer := range run(t, k, strings.Join(lines, "\n")) {
			if !strings.HasPrefix(answer, "error") {
				kept, want = append(kept, lines[i]), append(want, answer)
			}
		}
		if got := run(t, k, strings.Join(kept, "\n")); !slices.Equal(got, want) {
			t.Errorf("%d: %q, want %q", k, got, want)
		}
	}
}
