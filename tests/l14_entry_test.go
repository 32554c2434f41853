package tests

import (
	"slices"
	"strings"
	"testing"

	"loop.example/g00050/impl"
)

// wantNoEntry asks for ArNone from every deed that names an entry.
func wantNoEntry(t *testing.T, a impl.Arch, name string, version int64) {
	t.Helper()
	for _, kind := range kindsOnEntries() {
		if kind != impl.DeedFetch || version != 0 {
			wantCode(t, a, deedOn(kind, name, version), impl.ArNone)
		}
	}
}

func TestNoSuchEntry(t *testing.T) {
	rich := richArch()
	full := cloneArch(rich)
	full.Clock, full.Audit = 3000, longBook(4000, 3000)
	for _, a := range []impl.Arch{{}, rich, full} {
		for _, name := range []string{"", "x", "am", "amyy", "Amy", "zoe", "aaa", strings.Repeat("n", 40), strings.Repeat("n", 41), strings.Repeat("n", 9999)} {
			for _, version := range []int64{0, 1, 3, 999, 1000} {
				wantNoEntry(t, a, name, version)
			}
			wantCode(t, a, deedOn(impl.DeedFetch, name, 0), impl.ArNone)
		}
	}
	// Versions that the name has not, and Version 0, which means the newest kept one for a fetch alone.
	for _, version := range []int64{0, 3, 9, 11, 1000} {
		wantNoEntry(t, rich, "amy", version)
	}
	wantNoEntry(t, rich, "dan", 2)
	// A Body that a deed has beside is not asked.
	long := deedOn(impl.DeedCommit, "none", 1)
	long.Body = strings.Repeat("b", 3000)
	wantCode(t, rich, long, impl.ArNone)
}

func TestCommitByHand(t *testing.T) {
	a := wantDone(t, impl.Arch{}, storeOf("a", "one"), 1)
	a = wantDone(t, a, storeOf("a", "two"), 2)
	got := wantDone(t, a, deedOn(impl.DeedCommit, "a", 1), 0)
	want := cloneArch(a)
	want.Index[0].State = impl.ArKept
	want.Audit = chained(append(want.Audit, impl.Note{Kind: impl.DeedCommit, Name: "a", Version: 1}))
	wantArch(t, "a commit", got, want)
	wantStill(t, got, deedOn(impl.DeedCommit, "a", 1), impl.Answer{})
	wantDone(t, got, deedOn(impl.DeedCommit, "a", 2), 0)
	// Holds stay.
	a = wantDone(t, a, deedOn(impl.DeedHold, "a", 2), 0)
	a = wantDone(t, a, deedOn(impl.DeedCommit, "a", 2), 0)
	if a.Index[1].Hold != 1 || a.Index[1].State != impl.ArKept || a.Index[0].State != impl.ArWaiting {
		t.Error(briefArch(a))
	}
}

// A commit needs a sound copy on both shelves.
func TestCommitOfWhatIsLost(t *testing.T) {
	sound := kept(soundOne("a", 1, "one"), soundOne("b", 1, "two"))
	sound.Index[0].State = impl.ArWaiting
	commit := deedOn(impl.DeedCommit, "a", 1)
	wantDone(t, sound, commit, 0)
	gone := func(shelf []impl.Copy) []impl.Copy { return shelf[1:] }
	body := func(shelf []impl.Copy) []impl.Copy { shelf[0].Body = "damaged"; return shelf }
	sum := func(shelf []impl.Copy) []impl.Copy { shelf[0].Sum++; return shelf }
	both := func(shelf []impl.Copy) []impl.Copy { shelf[0] = soundOne("a", 1, "else"); return shelf }
	name := func(shelf []impl.Copy) []impl.Copy { shelf[0].Name = "0"; return shelf }
	version := func(shelf []impl.Copy) []impl.Copy { shelf[0].Version = 2; return shelf }
	none := func(shelf []impl.Copy) []impl.Copy { return nil }
	same := func(shelf []impl.Copy) []impl.Copy { return shelf }
	faults := []func([]impl.Copy) []impl.Copy{same, gone, body, sum, both, name, version, none}
	for i, left := range faults {
		for j, right := range faults {
			if i == 0 && j == 0 {
				continue
			}
			a := cloneArch(sound)
			a.Left, a.Right = left(a.Left), right(a.Right)
			wantCode(t, a, commit, impl.ArLost)
			// ArLost is named ahead of ArFull.
			a.Audit = longBook(4000, 0)
			wantCode(t, a, commit, impl.ArLost)
			// What is kept already is so still, whatever was lost.
			a.Index[0].State = impl.ArKept
			wantStill(t, a, commit, impl.Answer{})
			a.Audit = nil
			wantStill(t, a, commit, impl.Answer{})
		}
	}
	// The entry's own sum.
	for _, off := range []int64{1, -1} {
		a := cloneArch(sound)
		a.Index[0].Sum += off
		wantCode(t, a, commit, impl.ArLost)
		a.Left[0].Sum += off
		a.Right[0].Sum += off
		wantCode(t, a, commit, impl.ArLost)
	}
	// Two bodies with one Digest are sound both.
	one, other := twinBodies(t)
	a := kept(soundOne("a", 1, one))
	a.Index[0].State, a.Right[0].Body = impl.ArWaiting, other
	wantDone(t, a, commit, 0)
}

func TestNotesAreFewEnough(t *testing.T) {
	for _, n := range []int{3998, 3999, 4000} {
		a := kept(soundOne("a", 1, "one"), soundOne("a", 2, "two"))
		a.Index[0].State, a.Index[1].Hold = impl.ArWaiting, 1
		a.Clock, a.Audit = 2000, longBook(n, 2000)
		for _, d := range []impl.Deed{deedOn(impl.DeedCommit, "a", 1), deedOn(impl.DeedHold, "a", 1), deedOn(impl.DeedFree, "a", 2), deedOn(impl.DeedDrop, "a", 1), scrubbing(), ticking()} {
			if n == 4000 {
				wantCode(t, a, d, impl.ArFull)
			} else {
				wantDone(t, a, d, 0)
			}
		}
		// What is named ahead of ArFull, and what needs no note.
		wantStill(t, a, deedOn(impl.DeedCommit, "a", 2), impl.Answer{})
		wantStill(t, a, deedOn(impl.DeedFetch, "a", 1), impl.Answer{Version: 1, Body: "one"})
		wantCode(t, a, deedOn(impl.DeedFree, "a", 1), impl.ArHeld)
		wantCode(t, a, deedOn(impl.DeedDrop, "a", 2), impl.ArHeld)
		a.Index[0].Hold = 8
		wantCode(t, a, deedOn(impl.DeedHold, "a", 1), impl.ArHeld)
	}
}

func TestFetchOfTheNewest(t *testing.T) {
	fetch := deedOn(impl.DeedFetch, "a", 0)
	a := kept(soundOne("a", 1, "one"), soundOne("a", 2, "two"), soundOne("a", 9, "nine"), soundOne("a", 10, "ten"), soundOne("aa", 11, "no"), soundOne("b", 12, "no"))
	for states := range 16 {
		newest := impl.Answer{Code: impl.ArNone}
		for k := range 4 {
			a.Index[k].State = impl.ArWaiting
			if states>>k&1 == 1 {
				a.Index[k].State = impl.ArKept
				newest = impl.Answer{Version: a.Left[k].Version, Body: a.Left[k].Body}
			}
		}
		wantStill(t, a, fetch, newest)
		// Each one by its version, kept or waiting.
		for k := range 4 {
			wantStill(t, a, deedOn(impl.DeedFetch, "a", a.Index[k].Version), impl.Answer{Version: a.Index[k].Version, Body: a.Left[k].Body})
		}
		wantCode(t, a, deedOn(impl.DeedFetch, "a", 3), impl.ArNone)
		wantCode(t, a, deedOn(impl.DeedFetch, "a", 11), impl.ArNone)
	}
}

// A fetch is content with one sound copy, and looks for no other version where the newest kept one has none.
func TestFetchOfWhatIsLost(t *testing.T) {
	a := kept(soundOne("a", 1, "one"), soundOne("a", 2, "two"))
	for _, version := range []int64{0, 2} {
		d := deedOn(impl.DeedFetch, "a", version)
		want := impl.Answer{Version: 2, Body: "two"}
		for _, right := range []bool{false, true} {
			for _, at := range []int64{1, -1} {
				one := impl.Damage(a, right, at, "bad")
				wantStill(t, one, d, want)
				for _, at := range []int64{1, -1} {
					both := impl.Damage(one, !right, at, "bad")
					wantCode(t, both, d, impl.ArLost)
					both.Index[1].State = impl.ArWaiting
					if version == 2 {
						wantCode(t, both, d, impl.ArLost)
					}
				}
			}
		}
	}
	// Sums that are off, the copy's own and the entry's.
	d := deedOn(impl.DeedFetch, "a", 2)
	b := cloneArch(a)
	b.Left[1].Sum++
	wantStill(t, b, d, impl.Answer{Version: 2, Body: "two"})
	b.Right[1].Sum--
	wantCode(t, b, d, impl.ArLost)
	b.Right[1].Sum++
	b.Index[1].Sum++
	wantCode(t, b, d, impl.ArLost)
	b.Right[1] = soundOne("a", 2, "else")
	wantCode(t, b, d, impl.ArLost)
	b.Index[1].Sum = b.Right[1].Sum
	wantStill(t, b, d, impl.Answer{Version: 2, Body: "else"})
	// Every body comes back as it is.
	for _, body := range []string{"", "\x00", "\xff\xfe", strings.Repeat("b", 2048)} {
		wantStill(t, kept(soundOne("a", 5, body)), deedOn(impl.DeedFetch, "a", 0), impl.Answer{Version: 5, Body: body})
	}
}

func TestHoldsByHand(t *testing.T) {
	for _, state := range []int64{impl.ArWaiting, impl.ArKept} {
		a := kept(soundOne("a", 1, "one"), soundOne("a", 2, "two"), soundOne("b", 1, "three"))
		a.Index[1].State = state
		for holds := range int64(8) {
			a.Index[1].Hold = holds
			got := wantDone(t, a, deedOn(impl.DeedHold, "a", 2), 0)
			want := cloneArch(a)
			want.Index[1].Hold = holds + 1
			want.Audit = chained([]impl.Note{{Kind: impl.DeedHold, Name: "a", Version: 2}})
			wantArch(t, holds, got, want)
			got = wantDone(t, got, deedOn(impl.DeedFree, "a", 2), 0)
			want.Index[1].Hold = holds
			want.Audit = chained(append(want.Audit, impl.Note{Kind: impl.DeedFree, Name: "a", Version: 2}))
			wantArch(t, holds, got, want)
		}
		a.Index[1].Hold = 8
		wantCode(t, a, deedOn(impl.DeedHold, "a", 2), impl.ArHeld)
		wantDone(t, a, deedOn(impl.DeedFree, "a", 2), 0)
		a.Index[1].Hold = 0
		wantCode(t, a, deedOn(impl.DeedFree, "a", 2), impl.ArHeld)
		// Copies are not asked.
		a.Left, a.Right = nil, nil
		wantDone(t, a, deedOn(impl.DeedHold, "a", 2), 0)
	}
}

func TestDropByHand(t *testing.T) {
	a := kept(soundOne("a", 1, "one"), soundOne("a", 2, "two"), soundOne("a", 3, "three"), soundOne("b", 2, "four"))
	for k := range a.Index {
		got := wantDone(t, a, deedOn(impl.DeedDrop, a.Index[k].Name, a.Index[k].Version), 0)
		want := cloneArch(a)
		want.Index = slices.Delete(want.Index, k, k+1)
		want.Left = slices.Delete(want.Left, k, k+1)
		want.Right = slices.Delete(want.Right, k, k+1)
		want.Audit = chained([]impl.Note{{Kind: impl.DeedDrop, Name: a.Index[k].Name, Version: a.Index[k].Version}})
		wantArch(t, k, got, want)
		wantNoEntry(t, got, a.Index[k].Name, a.Index[k].Version)
		// What is held is not dropped, however often it is held.
		for holds := int64(1); holds <= 8; holds++ {
			held := cloneArch(a)
			held.Index[k].Hold = holds
			wantCode(t, held, deedOn(impl.DeedDrop, a.Index[k].Name, a.Index[k].Version), impl.ArHeld)
		}
	}
	// What waits is dropped as well, and what has lost a copy or both; stray copies stay.
	a.Index[1].State = impl.ArWaiting
	a.Left = slices.Delete(a.Left, 1, 2)
	a.Left = append(a.Left, soundOne("c", 2, "stray"))
	a.Right[1].Body = "damaged"
	got := wantDone(t, a, deedOn(impl.DeedDrop, "a", 2), 0)
	wantNumber(t, "left", int64(len(got.Left)), 4)
	wantNumber(t, "right", int64(len(got.Right)), 3)
	a.Left, a.Right = nil, nil
	wantDone(t, a, deedOn(impl.DeedDrop, "a", 2), 0)
}

// A version that has gone is given again if it was the newest.
func TestDroppedVersions(t *testing.T) {
	a := impl.Arch{}
	for _, body := range []string{"one", "two", "three"} {
		a, _ = doDeed(t, a, storeOf("a", body))
	}
	newest := wantDone(t, a, deedOn(impl.DeedDrop, "a", 3), 0)
	again := wantDone(t, newest, storeOf("a", "new"), 3)
	wantStill(t, again, deedOn(impl.DeedFetch, "a", 3), impl.Answer{Version: 3, Body: "new"})
	// With the newest one gone, the one ahead of it is what is there.
	wantStill(t, newest, storeOf("a", "two"), impl.Answer{Version: 2})
	wantDone(t, newest, storeOf("a", "three"), 3)
	elder := wantDone(t, a, deedOn(impl.DeedDrop, "a", 1), 0)
	wantDone(t, elder, storeOf("a", "one"), 4)
	both := wantDone(t, newest, deedOn(impl.DeedDrop, "a", 2), 0)
	none := wantDone(t, both, deedOn(impl.DeedDrop, "a", 1), 0)
	wantDone(t, none, storeOf("a", "three"), 1)
	if len(none.Index)+len(none.Left)+len(none.Right) != 0 || len(none.Audit) != 6 {
		t.Error(briefArch(none))
	}
}

// ArBad ahead of ArDeed, and ArDeed ahead of all else.
func TestNoDeeds(t *testing.T) {
	rich := richArch()
	full := cloneArch(rich)
	full.Clock, full.Audit = 3000, longBook(4000, 3000)
	wrong := cloneArch(rich)
	wrong.Clock = -1
	versions := []int64{leastInt, leastInt + 1, -1 << 32, -1000, -2, -1, 1001, 1002, 1 << 32, 1<<32 + 1, mostInt - 1, mostInt}
	var deeds []impl.Deed
	for kind := int64(0); kind <= 9; kind++ {
		for _, version := range versions {
			for _, name := range []string{"", "amy", "none", strings.Repeat("n", 41)} {
				deeds = append(deeds, deedOn(kind, name, version), impl.Deed{Kind: kind, Name: name, Version: version, Body: strings.Repeat("b", 2049)})
			}
		}
	}
	for _, kind := range []int64{leastInt, leastInt + 1, -1, 0, 9, 10, 257, 1<<32 + 1, mostInt} {
		for _, version := range append(versions, 0, 1, 2, 1000) {
			deeds = append(deeds, deedOn(kind, "amy", version), deedOn(kind, "", version))
		}
	}
	for _, d := range deeds {
		wantCode(t, impl.Arch{}, d, impl.ArDeed)
		wantCode(t, rich, d, impl.ArDeed)
		got, answer := impl.ArchDo(wrong, d)
		if answer != (impl.Answer{Code: impl.ArBad}) || !sameArch(got, impl.Arch{}) {
			t.Error(briefDeed(d), answer, briefArch(got))
		}
	}
	for _, d := range deeds[:40] {
		wantCode(t, full, d, impl.ArDeed)
	}
}
