package tests

import (
	"slices"
	"strings"
	"testing"

	"loop.example/g00050/impl"
)

// wantScrubbed scrubs, asks for so many copies laid down, and that a second scrub finds nothing to do.
func wantScrubbed(t *testing.T, a impl.Arch, laid int64) impl.Arch {
	t.Helper()
	got := wantDone(t, a, scrubbing(), laid)
	want := cloneArch(a)
	want.Left, want.Right = got.Left, got.Right
	want.Audit = chained(append(want.Audit, impl.Note{Tick: a.Clock, Kind: impl.DeedScrub, Version: laid}))
	wantArch(t, "all but the shelves", got, want)
	again := wantDone(t, got, scrubbing(), 0)
	again.Audit = got.Audit
	wantArch(t, "a second scrub", again, got)
	return got
}

func TestScrubByHand(t *testing.T) {
	sound := kept(soundOne("a", 1, "one"), soundOne("a", 2, "two"), soundOne("b", 1, ""), soundOne("c", 3, strings.Repeat("c", 2048)))
	sound.Index[1].State = impl.ArWaiting
	sound.Index[2].Hold = 3
	wantScrubbed(t, impl.Arch{}, 0)
	wantScrubbed(t, sound, 0)
	for k := range sound.Index {
		for _, right := range []bool{false, true} {
			// One copy damaged, one gone, the whole shelf gone.
			got := wantScrubbed(t, impl.Damage(sound, right, int64(k), "bad"), 1)
			got.Audit = nil
			wantArch(t, "damaged", got, sound)
			gone := cloneArch(sound)
			if right {
				gone.Right = slices.Delete(gone.Right, k, k+1)
			} else {
				gone.Left = slices.Delete(gone.Left, k, k+1)
			}
			got = wantScrubbed(t, gone, 1)
			got.Audit = nil
			wantArch(t, "gone", got, sound)
			got = wantScrubbed(t, impl.Damage(sound, right, -1, ""), 4)
			got.Audit = nil
			wantArch(t, "all gone", got, sound)
			// Lost on both shelves: what is left of it stays as it is, or stays away.
			lost := impl.Damage(impl.Damage(sound, right, int64(k), "bad"), !right, int64(k), "worse")
			got = wantScrubbed(t, lost, 0)
			got.Audit = nil
			wantArch(t, "lost", got, lost)
			one := impl.Damage(gone, !right, int64(k), "worse")
			got = wantScrubbed(t, one, 0)
			got.Audit = nil
			wantArch(t, "gone and damaged", got, one)
		}
	}
	// Some from the left, some from the right.
	mixed := impl.Damage(impl.Damage(sound, false, 0, "bad"), true, 1, "bad")
	mixed.Left = slices.Delete(mixed.Left, 3, 4)
	got := wantScrubbed(t, mixed, 3)
	got.Audit = nil
	wantArch(t, "mixed", got, sound)
}

// A copy that is replaced is replaced whole, and what is sound on both shelves stays as it is.
func TestScrubBySums(t *testing.T) {
	a := kept(soundOne("a", 1, "one"))
	b := cloneArch(a)
	b.Left[0].Sum++
	got := wantScrubbed(t, b, 1)
	got.Audit = nil
	wantArch(t, "a sum", got, a)
	b.Right[0] = soundOne("a", 1, "else")
	wantScrubbed(t, b, 0)
	b.Index[0].Sum = b.Right[0].Sum
	got = wantScrubbed(t, b, 1)
	if got.Left[0] != soundOne("a", 1, "else") {
		t.Error(briefArch(got))
	}
	one, other := twinBodies(t)
	a = kept(soundOne("a", 1, one))
	a.Right[0].Body = other
	got = wantScrubbed(t, a, 0)
	if got.Left[0].Body != one || got.Right[0].Body != other {
		t.Error(briefArch(got))
	}
}

func TestScrubOfStrays(t *testing.T) {
	sound := kept(soundOne("b", 2, "one"), soundOne("d", 1, "two"))
	a := cloneArch(sound)
	a.Left = []impl.Copy{soundOne("a", 1, "x"), soundOne("b", 1, "one"), a.Left[0], soundOne("b", 3, "one"), soundOne("c", 1, "x"), a.Left[1], soundOne("e", 1, "x")}
	a.Right = []impl.Copy{{Name: "B", Version: 2, Body: "one"}, a.Right[0], soundOne("b", 1000, ""), a.Right[1], soundOne("d", 2, "two")}
	got := wantScrubbed(t, a, 0)
	got.Audit = nil
	wantArch(t, "strays", got, sound)
	// Nothing but strays, on full shelves.
	got = wantScrubbed(t, impl.Arch{Left: manyCopies("s", 200), Right: manyCopies("r", 200)}, 0)
	wantNumber(t, "copies", int64(len(got.Left)+len(got.Right)), 0)
	// Entries of which one shelf has all, and the other one nothing but strays.
	full := kept(manyCopies("m", 200)...)
	a = cloneArch(full)
	a.Left = manyCopies("a", 200)
	got = wantScrubbed(t, a, 200)
	got.Audit = nil
	wantArch(t, "200 entries", got, full)
	// Strays that stand between what is laid down.
	for k := range 100 {
		a.Right[2*k].Version = 500
		a.Left[2*k] = full.Left[2*k]
	}
	slices.SortFunc(a.Left, func(a, b impl.Copy) int {
		return compareArchMarks(archMark{a.Name, a.Version}, archMark{b.Name, b.Version})
	})
	got = wantScrubbed(t, a, 200)
	got.Audit = nil
	wantArch(t, "200 entries", got, full)
}

// Names, versions and bodies that stand in a scrub or a tick are not asked, but for the range of Versions.
func TestScrubAndTickAskNothing(t *testing.T) {
	a := richArch()
	for _, kind := range []int64{impl.DeedScrub, impl.DeedTick} {
		want, _ := impl.ArchDo(a, impl.Deed{Kind: kind})
		for _, d := range []impl.Deed{deedOn(kind, "amy", 1), deedOn(kind, "", 1000), deedOn(kind, strings.Repeat("n", 50), 7), {Kind: kind, Body: strings.Repeat("b", 5000)}} {
			got, answer := doDeed(t, a, d)
			wantArch(t, briefDeed(d), got, want)
			wantNumber(t, briefDeed(d), answer.Code, 0)
		}
	}
}

func TestTicks(t *testing.T) {
	for _, clock := range []int64{0, 1, 7, 999999998, 999999999, 1000000000} {
		a := kept(soundOne("a", 1, "one"))
		a.Clock = clock
		if clock == 1000000000 {
			wantCode(t, a, ticking(), impl.ArFull)
			// All else goes on.
			wantDone(t, a, deedOn(impl.DeedHold, "a", 1), 0)
			continue
		}
		got := wantDone(t, a, ticking(), 0)
		want := cloneArch(a)
		want.Clock = clock + 1
		want.Audit = chained([]impl.Note{{Tick: clock + 1, Kind: impl.DeedTick}})
		wantArch(t, clock, got, want)
		got = wantDone(t, got, deedOn(impl.DeedHold, "a", 1), 0)
		wantNumber(t, "the tick of what is done then", got.Audit[1].Tick, clock+1)
	}
	a := impl.Arch{Clock: 1000000000, Audit: longBook(4000, 1000000000)}
	wantCode(t, a, ticking(), impl.ArFull)
}
