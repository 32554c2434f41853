package tests

import (
	"fmt"
	"slices"
	"strings"
	"testing"

	"loop.example/g00050/impl"
)

func TestFirstStore(t *testing.T) {
	a := wantDone(t, impl.Arch{}, storeOf("a", "one"), 1)
	one := soundOne("a", 1, "one")
	want := impl.Arch{Index: []impl.Entry{{Name: "a", Version: 1, Sum: one.Sum, State: impl.ArWaiting}}, Left: []impl.Copy{one}, Right: []impl.Copy{one}}
	want.Audit = chained([]impl.Note{{Kind: impl.DeedStore, Name: "a", Version: 1}})
	wantArch(t, "the first store", a, want)
	// What stands in the deed's Version is not asked, but for its range.
	for _, version := range []int64{1, 2, 500, 1000} {
		d := storeOf("a", "one")
		d.Version = version
		wantArch(t, version, wantDone(t, impl.Arch{}, d, 1), want)
	}
}

func TestNamesOfAStore(t *testing.T) {
	for _, a := range []impl.Arch{{}, richArch()} {
		for _, name := range []string{"", "x", "\x00", "\xff", " ", "amy", strings.Repeat("x", 39), strings.Repeat("x", 40), strings.Repeat("x", 41), strings.Repeat("é", 20), strings.Repeat("é", 20) + "x", strings.Repeat("x", 5000)} {
			for _, body := range []string{"", "b", strings.Repeat("b", 2048), strings.Repeat("b", 2049), strings.Repeat("b", 100000)} {
				switch {
				case len(name) < 1 || len(name) > 40:
					wantCode(t, a, storeOf(name, body), impl.ArName)
				case len(body) > 2048:
					wantCode(t, a, storeOf(name, body), impl.ArBody)
				case name == "amy" && len(a.Index) > 0:
					wantDone(t, a, storeOf(name, body), 11)
				default:
					wantDone(t, a, storeOf(name, body), 1)
				}
			}
		}
	}
}

func TestVersionsRise(t *testing.T) {
	a := impl.Arch{}
	for k := range int64(30) {
		a = wantDone(t, a, storeOf("a", fmt.Sprint("body ", k)), k+1)
		a = wantDone(t, a, storeOf("b", fmt.Sprint("other ", k)), k+1)
	}
	// Names do not share versions, not even where one begins with the other.
	wantDone(t, a, storeOf("aa", "x"), 1)
	wantDone(t, a, storeOf("A", "x"), 1)
}

// What is stored again is not doubled.
func TestStoredAgain(t *testing.T) {
	for _, body := range []string{"", "one", "\x00", strings.Repeat("b", 2048)} {
		waiting := wantDone(t, impl.Arch{}, storeOf("a", body), 1)
		kept := wantDone(t, waiting, deedOn(impl.DeedCommit, "a", 1), 0)
		held := wantDone(t, kept, deedOn(impl.DeedHold, "a", 1), 0)
		for _, a := range []impl.Arch{waiting, kept, held} {
			same := impl.Answer{Version: 1}
			wantStill(t, a, storeOf("a", body), same)
			other := body + "x"
			if len(other) > 2048 {
				other = "x"
			}
			// One shelf is enough, both gone are not.
			for _, right := range []bool{false, true} {
				for _, at := range []int64{-1, 0} {
					one := impl.Damage(a, right, at, other)
					wantStill(t, one, storeOf("a", body), same)
					for _, at := range []int64{-1, 0} {
						both := impl.Damage(one, !right, at, other)
						wantDone(t, both, storeOf("a", body), 2)
						wantDone(t, both, storeOf("a", other), 2)
					}
				}
			}
			// A body of another length, and one with another byte.
			wantDone(t, a, storeOf("a", other), 2)
			wantDone(t, a, storeOf("b", body), 1)
		}
	}
}

func TestStoredAgainOfAnElderVersion(t *testing.T) {
	a := kept(soundOne("a", 1, "one"), soundOne("a", 2, "two"), soundOne("a", 4, "four"))
	wantDone(t, a, storeOf("a", "one"), 5)
	wantDone(t, a, storeOf("a", "two"), 5)
	wantStill(t, a, storeOf("a", "four"), impl.Answer{Version: 4})
	// The newest one counts, whether it waits or is kept.
	a.Index[2].State = impl.ArWaiting
	wantDone(t, a, storeOf("a", "two"), 5)
	wantStill(t, a, storeOf("a", "four"), impl.Answer{Version: 4})
}

// Soundness is asked of both sums.
func TestStoredAgainWithSumsOff(t *testing.T) {
	sound := kept(soundOne("a", 1, "one"))
	for _, off := range []int64{1, -1} {
		a := cloneArch(sound)
		a.Left[0].Sum += off
		wantStill(t, a, storeOf("a", "one"), impl.Answer{Version: 1})
		a.Right[0].Sum += off
		wantDone(t, a, storeOf("a", "one"), 2)
		a.Index[0].Sum += off
		wantDone(t, a, storeOf("a", "one"), 2)
		a.Left[0].Sum = sound.Left[0].Sum
		wantDone(t, a, storeOf("a", "one"), 2)
		a = cloneArch(sound)
		a.Index[0].Sum += off
		wantDone(t, a, storeOf("a", "one"), 2)
	}
	// A copy of the body under another version or name is none of the newest entry's.
	a := cloneArch(sound)
	a.Left[0].Version, a.Right[0].Name = 2, "b"
	wantDone(t, a, storeOf("a", "one"), 2)
}

// Two bodies with one Digest are two bodies: each is there just if a shelf has it.
func TestStoredAgainOfTwins(t *testing.T) {
	one, other := twinBodies(t)
	a := kept(soundOne("a", 3, one))
	wantStill(t, a, storeOf("a", one), impl.Answer{Version: 3})
	b := wantDone(t, a, storeOf("a", other), 4)
	wantStill(t, b, storeOf("a", other), impl.Answer{Version: 4})
	wantDone(t, b, storeOf("a", one), 5)
	for _, right := range []bool{false, true} {
		mixed := impl.Damage(a, right, 0, other)
		wantStill(t, mixed, storeOf("a", one), impl.Answer{Version: 3})
		wantStill(t, mixed, storeOf("a", other), impl.Answer{Version: 3})
		wantDone(t, impl.Damage(mixed, !right, 0, other), storeOf("a", one), 4)
		wantDone(t, impl.Damage(mixed, right, -1, ""), storeOf("a", other), 4)
	}
}

func TestStoreWithManyEntries(t *testing.T) {
	for _, n := range []int{198, 199, 200} {
		a := kept(manyCopies("m", n)...)
		for _, name := range []string{"a", "m050", "m050x", "z"} {
			if n == 200 {
				wantCode(t, a, storeOf(name, "new"), impl.ArFull)
				wantCode(t, a, storeOf("", "new"), impl.ArName)
				wantCode(t, a, storeOf(name, strings.Repeat("n", 2049)), impl.ArBody)
				continue
			}
			version := int64(1)
			if name == "m050" {
				version = a.Index[50].Version + 1
			}
			wantDone(t, a, storeOf(name, "new"), version)
		}
		// What is there already is told, however full it is.
		wantStill(t, a, storeOf("m050", "body 50"), impl.Answer{Version: a.Index[50].Version})
		b := impl.Damage(a, false, -1, "")
		wantStill(t, b, storeOf("m050", "body 50"), impl.Answer{Version: a.Index[50].Version})
		b.Audit = longBook(4000, 0)
		wantStill(t, b, storeOf("m050", "body 50"), impl.Answer{Version: a.Index[50].Version})
	}
}

func TestStoreAtTheLastVersion(t *testing.T) {
	for _, newest := range []int64{998, 999, 1000} {
		for _, state := range []int64{impl.ArWaiting, impl.ArKept} {
			a := kept(soundOne("a", 3, "three"), soundOne("a", newest, "newest"), soundOne("b", 2, "two"))
			a.Index[1].State = state
			wantStill(t, a, storeOf("a", "newest"), impl.Answer{Version: newest})
			if newest == 1000 {
				wantCode(t, a, storeOf("a", "new"), impl.ArFull)
				wantCode(t, a, storeOf("a", "three"), impl.ArFull)
			} else {
				wantDone(t, a, storeOf("a", "new"), newest+1)
			}
			wantDone(t, a, storeOf("b", "new"), 3)
			// Copies that no entry has, of any version, are no versions that were given.
			a.Left = append(a.Left, soundOne("c", 1000, "stray"))
			wantDone(t, a, storeOf("c", "stray"), 1)
		}
	}
	// Dropped, the last version is given again.
	a := kept(soundOne("a", 1000, "last"))
	wantCode(t, a, storeOf("a", "new"), impl.ArFull)
	a = wantDone(t, a, deedOn(impl.DeedDrop, "a", 1000), 0)
	wantDone(t, a, storeOf("a", "new"), 1)
}

func TestStoreWithManyNotes(t *testing.T) {
	for _, n := range []int{3998, 3999, 4000} {
		a := kept(soundOne("a", 1, "one"))
		a.Clock, a.Audit = 2000, longBook(n, 2000)
		wantStill(t, a, storeOf("a", "one"), impl.Answer{Version: 1})
		wantCode(t, a, storeOf("", "new"), impl.ArName)
		wantCode(t, a, storeOf("a", strings.Repeat("n", 2049)), impl.ArBody)
		if n == 4000 {
			wantCode(t, a, storeOf("a", "new"), impl.ArFull)
			wantCode(t, a, storeOf("b", "one"), impl.ArFull)
		} else {
			wantDone(t, a, storeOf("a", "new"), 2)
			wantDone(t, a, storeOf("b", "one"), 1)
		}
	}
}

// A copy that stands there under the new name and version gives place.
func TestStoreOverACopy(t *testing.T) {
	fresh := soundOne("a", 2, "new")
	for _, old := range []impl.Copy{soundOne("a", 2, "old"), {Name: "a", Version: 2, Body: "new", Sum: 5}, {Name: "a", Version: 2, Sum: fresh.Sum}, fresh} {
		for sides := range 4 {
			a := kept(soundOne("a", 1, "one"), soundOne("b", 1, "two"))
			if sides&1 != 0 {
				a.Left = slices.Insert(a.Left, 1, old)
			}
			if sides&2 != 0 {
				a.Right = slices.Insert(a.Right, 1, old)
			}
			got := wantDone(t, a, storeOf("a", "new"), 2)
			for _, shelf := range [][]impl.Copy{got.Left, got.Right} {
				if !slices.Equal(shelf, []impl.Copy{a.Left[0], fresh, soundOne("b", 1, "two")}) {
					t.Error(sides, shelf)
				}
			}
		}
	}
}

// On a full shelf the first copy that belongs to no entry gives place, and no other one.
func TestStoreOnAFullShelf(t *testing.T) {
	strays := manyCopies("s", 200)
	for _, name := range []string{"a", "s050x", "z"} {
		// Nothing but strays: the first one goes, wherever the new copy stands.
		a := impl.Arch{Left: strays}
		got := wantDone(t, a, storeOf(name, "new"), 1)
		fresh := soundOne(name, 1, "new")
		want := slices.Clone(strays[1:])
		place, _ := slices.BinarySearchFunc(want, name, func(c impl.Copy, name string) int { return strings.Compare(c.Name, name) })
		want = slices.Insert(want, place, fresh)
		if !slices.Equal(got.Left, want) || !slices.Equal(got.Right, []impl.Copy{fresh}) {
			t.Error(name, briefArch(got))
		}
		// On the other shelf likewise, and on both, each with strays of its own.
		wantDone(t, impl.Arch{Right: strays}, storeOf(name, "new"), 1)
		wantDone(t, impl.Arch{Left: strays, Right: manyCopies("r", 200)}, storeOf(name, "new"), 1)
	}
	// 199 copies have room for one more.
	got := wantDone(t, impl.Arch{Left: strays[:199], Right: strays}, storeOf("a", "new"), 1)
	wantNumber(t, "left", int64(len(got.Left)), 200)
	wantNumber(t, "right", int64(len(got.Right)), 200)
	if got.Left[1] != strays[0] || got.Right[1] != strays[1] {
		t.Error("who gave place", got.Left[1], got.Right[1])
	}
}

func TestWhoGivesPlace(t *testing.T) {
	all := manyCopies("m", 200)
	for _, stray := range []int{0, 1, 77, 198, 199} {
		for _, name := range []string{"a", "m077x", "z"} {
			// All but one have an entry, so it is that one, though others are damaged and it is sound.
			a := kept(all...)
			a.Index = slices.Delete(a.Index, stray, stray+1)
			for k := range a.Left {
				if k != stray {
					a.Left[k].Body = "damaged"
					a.Right[k].Sum = 0
				}
			}
			got := wantDone(t, a, storeOf(name, "new"), 1)
			for _, shelf := range [][]impl.Copy{got.Left, got.Right} {
				if len(shelf) != 200 || slices.ContainsFunc(shelf, func(c impl.Copy) bool { return c.Name == all[stray].Name }) {
					t.Error("the stray one stays", stray, name)
				}
			}
		}
	}
	// A copy of a name with entries, but of none of their versions, is as stray as any; the new entry's own is not.
	a := kept(manyCopies("m", 199)...)
	a.Left = append([]impl.Copy{soundOne("a", 9, "stray")}, a.Left...)
	got := wantDone(t, a, storeOf("a", "new"), 1)
	if len(got.Left) != 200 || got.Left[0] != soundOne("a", 1, "new") || got.Left[1].Name != "m000" {
		t.Error(briefArch(got))
	}
	// The index as it is behind the deed: the new entry's copy is ahead of every stray one, and stays.
	a = impl.Arch{Left: manyCopies("s", 200)}
	got = wantDone(t, a, storeOf("a", "new"), 1)
	if got.Left[0] != soundOne("a", 1, "new") || got.Left[1].Name != "s001" {
		t.Error(briefArch(got))
	}
}

// On a full shelf too the copy under the new name and version is the one that gives place, and every stray one stays.
func TestStoreOverACopyOnAFullShelf(t *testing.T) {
	all := manyCopies("m", 200)
	for _, place := range []int{0, 3, 99, 198} {
		all[place].Version = 1
		a := kept(all...)
		a.Index = a.Index[place+1:]
		fresh := soundOne(all[place].Name, 1, "new")
		got := wantDone(t, a, storeOf(fresh.Name, "new"), 1)
		want := slices.Clone(all)
		want[place] = fresh
		if !slices.Equal(got.Left, want) || !slices.Equal(got.Right, want) {
			t.Error(place, briefArch(got))
		}
		// Where one shelf alone has that copy, a stray one gives place on the other.
		a.Right[place].Version = 2
		got = wantDone(t, a, storeOf(fresh.Name, "new"), 1)
		if !slices.Equal(got.Left, want) || len(got.Right) != 200 || got.Right[0] == a.Right[0] {
			t.Error(place, briefArch(got))
		}
	}
}

func TestStoredInOrder(t *testing.T) {
	m := mixer(241)
	names := []string{"b", "a", "ab", "B", "\xff", "\x00", "é", "a ", "aa", "z", "m"}
	for range 40 {
		a := impl.Arch{}
		for k := range 60 {
			a, _ = doDeed(t, a, storeOf(names[m.pick(0, int64(len(names)-1))], fmt.Sprint(m.pick(0, int64(k)))))
		}
	}
}
