package tests

import (
	"slices"
	"strings"
	"testing"

	"loop.example/g00050/impl"
)

func wantDamaged(t *testing.T, a impl.Arch, right bool, at int64, body string) impl.Arch {
	t.Helper()
	was := cloneArch(a)
	got := impl.Damage(a, right, at, body)
	wantArch(t, []any{"right", right, "at", at, len(body)}, got, plainDamage(was, right, at, body))
	wantArch(t, "what was handed in", a, was)
	wantAnswer(t, "right behind it", impl.ArchOk(got), true)
	return got
}

func TestDamageByHand(t *testing.T) {
	a := kept(soundOne("a", 1, "one"), soundOne("a", 2, "two"), soundOne("b", 1, "three"))
	a.Clock, a.Audit = 5, longBook(7, 5)
	for _, body := range []string{"", "x", "one", strings.Repeat("b", 2047), strings.Repeat("b", 2048)} {
		for at := range int64(3) {
			want := cloneArch(a)
			want.Left[at].Body = body
			wantArch(t, at, wantDamaged(t, a, false, at, body), want)
			want = cloneArch(a)
			want.Right[at].Body = body
			wantArch(t, at, wantDamaged(t, a, true, at, body), want)
		}
		for _, at := range []int64{leastInt, leastInt + 1, -1 << 32, -2, -1, 3, 4, 200, 1 << 32, 1<<32 + 1, mostInt - 1, mostInt} {
			want := cloneArch(a)
			want.Left = nil
			wantArch(t, at, wantDamaged(t, a, false, at, body), want)
			want = cloneArch(a)
			want.Right = nil
			wantArch(t, at, wantDamaged(t, a, true, at, body), want)
		}
	}
	// A body that is too long, wherever it should stand.
	for _, at := range []int64{leastInt, -1, 0, 2, 3, mostInt} {
		for _, right := range []bool{false, true} {
			for _, n := range []int{2049, 2050, 1 << 20} {
				wantArch(t, "too long", impl.Damage(a, right, at, strings.Repeat("b", n)), impl.Arch{})
			}
		}
	}
}

func TestDamageOfEmptyAndUnlikeShelves(t *testing.T) {
	for _, at := range []int64{leastInt, -1, 0, 1, mostInt} {
		for _, right := range []bool{false, true} {
			wantArch(t, at, wantDamaged(t, impl.Arch{}, right, at, "x"), impl.Arch{})
			wantArch(t, at, impl.Damage(impl.Arch{}, right, at, strings.Repeat("x", 2049)), impl.Arch{})
			// How many there are is asked of the shelf that is damaged.
			a := kept(manyCopies("m", 3)...)
			a.Left = a.Left[:1]
			wantDamaged(t, a, right, at, "x")
			a.Left, a.Right = a.Right, a.Left
			wantDamaged(t, a, right, at, "x")
		}
	}
	full := kept(manyCopies("m", 200)...)
	for _, at := range []int64{0, 100, 199, 200, 201} {
		wantDamaged(t, full, false, at, "x")
		wantDamaged(t, full, true, at, "x")
	}
	// With no copy on a shelf nothing is left of it, however it is told.
	a := kept(soundOne("a", 1, "one"))
	a.Left = []impl.Copy{}
	wantDamaged(t, a, false, 0, "x")
}

func TestDamageOfWhatIsNotRight(t *testing.T) {
	m := mixer(242)
	refused := 0
	for range 3000 {
		a := m.twistedArch()
		right, at, body := m.pick(0, 1) == 1, m.pick(-1, 7), strings.Repeat("b", int(m.pick(0, 5)))
		got := impl.Damage(a, right, at, body)
		wantArch(t, at, got, plainDamage(a, right, at, body))
		if !plainArchOk(a) {
			refused++
			wantArch(t, "not right", got, impl.Arch{})
		}
	}
	if refused < 300 {
		t.Error("too few", refused)
	}
}

// Damage writes no note, and the sum that stays tells it.
func TestDamageIsFound(t *testing.T) {
	a := kept(soundOne("a", 1, "one"))
	b := impl.Damage(a, false, 0, "two")
	if b.Left[0] != (impl.Copy{Name: "a", Version: 1, Body: "two", Sum: a.Left[0].Sum}) || len(b.Audit) != 0 {
		t.Error(briefArch(b))
	}
	// With its own body again nothing is damaged any more.
	wantArch(t, "mended", impl.Damage(b, false, 0, "one"), a)
	if !slices.Equal(b.Right, a.Right) {
		t.Error("the other shelf")
	}
}
