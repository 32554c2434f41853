package tests

import (
	"fmt"
	"slices"
	"strings"
	"testing"

	"loop.example/g00050/impl"
)

func wantRightArch(t *testing.T, what any, a impl.Arch, want bool) {
	t.Helper()
	was := cloneArch(a)
	if impl.ArchOk(a) != want {
		t.Errorf("%v: %v, want %v: %s", what, !want, want, briefArch(a))
	}
	wantAnswer(t, []any{"the test's own reckoning", what}, plainArchOk(a), want)
	wantArch(t, "what was handed in", a, was)
	if want {
		return
	}
	// What is not right is answered by the zero Arch, whatever is asked.
	for _, d := range []impl.Deed{storeOf("a", "b"), deedOn(impl.DeedFetch, "amy", 1), ticking(), scrubbing(), {}, {Kind: 9, Version: -1}, storeOf("", strings.Repeat("x", 2049))} {
		got, answer := impl.ArchDo(a, d)
		if answer != (impl.Answer{Code: impl.ArBad}) {
			t.Errorf("%v: %s: %v", what, briefDeed(d), answer)
		}
		wantArch(t, what, got, impl.Arch{})
	}
	for _, right := range []bool{false, true} {
		wantArch(t, what, impl.Damage(a, right, 0, "x"), impl.Arch{})
		wantArch(t, what, impl.Damage(a, right, -1, ""), impl.Arch{})
	}
}

// wantNumbersRight tries one number of an archive: right from least to most, and nowhere else.
func wantNumbersRight(t *testing.T, what string, a impl.Arch, least, most int64, set func(a *impl.Arch, n int64)) {
	t.Helper()
	for _, n := range []int64{leastInt, leastInt + 1, -1 << 32, least - 2, least - 1, least, least + 1, most - 1, most, most + 1, most + 2, 1 << 32, 1<<32 + 1, mostInt - 1, mostInt} {
		b := cloneArch(a)
		set(&b, n)
		wantRightArch(t, []any{what, n}, b, n >= least && n <= most)
	}
}

// wantNamesRight tries one name of an archive, which may have at least so many bytes, and 40.
func wantNamesRight(t *testing.T, what string, a impl.Arch, least int, set func(a *impl.Arch, name string)) {
	t.Helper()
	for _, name := range []string{"", "x", "\x00", " ", "\xff", strings.Repeat("x", 39), strings.Repeat("x", 40), strings.Repeat("x", 41), strings.Repeat("é", 20), strings.Repeat("é", 20) + "x", strings.Repeat("é", 40), strings.Repeat("x", 1000)} {
		b := cloneArch(a)
		set(&b, name)
		wantRightArch(t, []any{what, name}, b, len(name) >= least && len(name) <= 40)
	}
}

func TestZeroArchIsRight(t *testing.T) {
	wantRightArch(t, "the zero Arch", impl.Arch{}, true)
	wantRightArch(t, "lists without an element", impl.Arch{Index: []impl.Entry{}, Left: []impl.Copy{}, Right: []impl.Copy{}, Audit: []impl.Note{}}, true)
	wantRightArch(t, "one of everything", richArch(), true)
}

func TestNamesOfAnArch(t *testing.T) {
	a := kept(soundOne("x", 5, "body"))
	wantNamesRight(t, "index", a, 1, func(a *impl.Arch, name string) { a.Index[0].Name = name })
	wantNamesRight(t, "left", a, 1, func(a *impl.Arch, name string) { a.Left[0].Name = name })
	wantNamesRight(t, "right", a, 1, func(a *impl.Arch, name string) { a.Right[0].Name = name })
	// The last of several, where order alone would not ask for bytes.
	a = kept(soundOne("a", 5, ""), soundOne("b", 5, ""))
	for _, long := range []string{"c" + strings.Repeat("x", 39), "c" + strings.Repeat("x", 40)} {
		b := cloneArch(a)
		b.Index[1].Name = long
		wantRightArch(t, long, b, len(long) == 40)
		b = cloneArch(a)
		b.Left[1].Name = long
		wantRightArch(t, long, b, len(long) == 40)
	}
}

func TestVersionsOfAnArch(t *testing.T) {
	a := kept(soundOne("x", 5, "body"))
	wantNumbersRight(t, "index", a, 1, 1000, func(a *impl.Arch, n int64) { a.Index[0].Version = n })
	wantNumbersRight(t, "left", a, 1, 1000, func(a *impl.Arch, n int64) { a.Left[0].Version = n })
	wantNumbersRight(t, "right", a, 1, 1000, func(a *impl.Arch, n int64) { a.Right[0].Version = n })
}

func TestSumsStatesAndHoldsOfAnArch(t *testing.T) {
	a := kept(soundOne("w", 5, "body"), soundOne("x", 5, "body"), soundOne("y", 5, "body"))
	for k := range 3 {
		wantNumbersRight(t, "index", a, 0, 2305843009213693950, func(a *impl.Arch, n int64) { a.Index[k].Sum = n })
		wantNumbersRight(t, "left", a, 0, 2305843009213693950, func(a *impl.Arch, n int64) { a.Left[k].Sum = n })
		wantNumbersRight(t, "right", a, 0, 2305843009213693950, func(a *impl.Arch, n int64) { a.Right[k].Sum = n })
		wantNumbersRight(t, "state", a, 1, 2, func(a *impl.Arch, n int64) { a.Index[k].State = n })
		wantNumbersRight(t, "holds", a, 0, 8, func(a *impl.Arch, n int64) { a.Index[k].Hold = n })
	}
}

func TestLengthsOfAnArch(t *testing.T) {
	for _, n := range []int{199, 200, 201, 202, 1000} {
		many := kept(manyCopies("m", n)...)
		wantRightArch(t, []any{"entries", n}, impl.Arch{Index: many.Index}, n <= 200)
		wantRightArch(t, []any{"left", n}, impl.Arch{Left: many.Left}, n <= 200)
		wantRightArch(t, []any{"right", n}, impl.Arch{Right: many.Right}, n <= 200)
		wantRightArch(t, []any{"all", n}, many, n <= 200)
	}
	for _, n := range []int{0, 1, 2047, 2048, 2049, 2050, 1 << 20} {
		for k := range 3 {
			a := kept(soundOne("w", 5, "body"), soundOne("x", 5, "body"), soundOne("y", 5, "body"))
			a.Left[k].Body = strings.Repeat("b", n)
			wantRightArch(t, []any{"left", n}, a, n <= 2048)
			a.Left[k].Body, a.Right[k].Body = "", a.Left[k].Body
			wantRightArch(t, []any{"right", n}, a, n <= 2048)
		}
	}
	for _, n := range []int{1, 3999, 4000, 4001, 4002, 9000} {
		wantRightArch(t, []any{"notes", n}, impl.Arch{Audit: longBook(n, 0)}, n <= 4000)
		wantRightArch(t, []any{"notes", n}, impl.Arch{Audit: longBook(n, 5000), Clock: 5000}, n <= 4000)
	}
}

func TestClocksOfAnArch(t *testing.T) {
	wantNumbersRight(t, "clock", impl.Arch{}, 0, 1000000000, func(a *impl.Arch, n int64) { a.Clock = n })
	a := impl.Arch{Audit: chained([]impl.Note{{Tick: 0, Kind: 8}, {Tick: 7, Kind: 8}})}
	wantNumbersRight(t, "clock", a, 7, 1000000000, func(a *impl.Arch, n int64) { a.Clock = n })
}

func TestNotesOfAnArch(t *testing.T) {
	a := impl.Arch{Clock: 20, Audit: []impl.Note{{Tick: 3, Kind: 1, Name: "x", Version: 1}, {Tick: 5, Kind: 2, Name: "x", Version: 1}, {Tick: 9, Kind: 7, Version: 4}}}
	for k, ends := range [][2]int64{{0, 5}, {3, 9}, {5, 20}} {
		set := func(change func(n *impl.Note)) func(a *impl.Arch) {
			return func(a *impl.Arch) {
				change(&a.Audit[k])
				a.Audit = chained(a.Audit)
			}
		}
		wantNumbersRight(t, "tick", a, ends[0], ends[1], func(a *impl.Arch, number int64) { set(func(n *impl.Note) { n.Tick = number })(a) })
		wantNumbersRight(t, "kind", a, 1, 8, func(a *impl.Arch, number int64) { set(func(n *impl.Note) { n.Kind = number })(a) })
		wantNumbersRight(t, "version", a, 0, 1000, func(a *impl.Arch, number int64) { set(func(n *impl.Note) { n.Version = number })(a) })
		wantNamesRight(t, "name", a, 0, func(a *impl.Arch, name string) { set(func(n *impl.Note) { n.Name = name })(a) })
	}
	// Ticks that stay are no fall.
	for _, ticks := range [][]int64{{0, 0, 0}, {20, 20, 20}, {0, 20, 20}, {0, 0, 20}, {1, 0, 20}, {20, 19, 20}, {0, 20, 19}, {5, 6, 5}, {21, 21, 21}, {0, 0, 21}, {-1, 0, 1}} {
		b := cloneArch(a)
		for k, tick := range ticks {
			b.Audit[k].Tick = tick
		}
		b.Audit = chained(b.Audit)
		wantRightArch(t, ticks, b, slices.IsSorted(ticks) && ticks[0] >= 0 && ticks[2] <= 20)
	}
}

func TestOrderOfAnArch(t *testing.T) {
	// Each of these is ahead of the next one.
	marks := []archMark{{"\x00", 1000}, {" ", 1}, {"A", 3}, {"Z", 1}, {"a", 1}, {"a", 2}, {"a", 9}, {"a", 10}, {"a", 1000}, {"a\x00", 1}, {"a ", 1}, {"aa", 1}, {"ab", 1}, {"b", 1}, {"b", 999}, {"ba", 1}, {"z", 1}, {"\x7f", 1}, {"\x80", 1}, {"é", 1}, {"\xff", 1}, {"\xff\xff", 1}}
	arch := func(place int, list ...archMark) impl.Arch {
		var a impl.Arch
		for _, m := range list {
			c := soundOne(m.name, m.version, "body")
			switch place {
			case 0:
				a.Index = append(a.Index, entryFor(c, impl.ArWaiting, 0))
			case 1:
				a.Left = append(a.Left, c)
			case 2:
				a.Right = append(a.Right, c)
			}
		}
		return a
	}
	for place := range 3 {
		wantRightArch(t, "all", arch(place, marks...), true)
		for i, one := range marks {
			for j, other := range marks {
				wantRightArch(t, []any{place, one, other}, arch(place, one, other), i < j)
			}
		}
		for k := range len(marks) - 1 {
			turned := slices.Clone(marks)
			turned[k], turned[k+1] = turned[k+1], turned[k]
			wantRightArch(t, []any{place, "out of order", k}, arch(place, turned...), false)
			wantRightArch(t, []any{place, "twice", k}, arch(place, slices.Insert(slices.Clone(marks), k, marks[k])...), false)
		}
	}
}

func TestChainIsAsked(t *testing.T) {
	for _, count := range []int{1, 2, 3, 10, 4000} {
		a := impl.Arch{Clock: 5000, Audit: longBook(count, 5000)}
		wantRightArch(t, count, a, true)
		for _, k := range []int{0, count / 2, count - 1} {
			for _, off := range []int64{1, -1, 1 << 32, leastInt, digestPrime, -digestPrime} {
				b := cloneArch(a)
				b.Audit[k].Chain += off
				wantRightArch(t, []any{"one off", count, k, off}, b, false)
			}
			for what, change := range map[string]func(n *impl.Note){
				"tick":    func(n *impl.Note) { n.Tick++ },
				"kind":    func(n *impl.Note) { n.Kind = 1 + n.Kind%8 },
				"version": func(n *impl.Note) { n.Version = (n.Version + 1) % 1001 },
				"name":    func(n *impl.Note) { n.Name = "other" },
				"chain":   func(n *impl.Note) { n.Chain = 0 },
			} {
				b := cloneArch(a)
				change(&b.Audit[k])
				wantRightArch(t, []any{what, count, k}, b, false)
			}
		}
		// A note that is left out, and one that is told twice.
		if count > 1 {
			b := cloneArch(a)
			b.Audit = b.Audit[1:]
			wantRightArch(t, "the first note gone", b, false)
			b = cloneArch(a)
			b.Audit = slices.Delete(b.Audit, count-2, count-1)
			wantRightArch(t, "the last but one gone", b, false)
			b.Audit = a.Audit[:count-1]
			wantRightArch(t, "the last one gone", b, true)
			b.Audit = append(slices.Clone(a.Audit[:count-1]), a.Audit[count-2])
			wantRightArch(t, "a note twice", b, false)
		}
	}
}

// What stands on the shelves need not be what the index says.
func TestThingsGoneWrongAreRight(t *testing.T) {
	a := kept(soundOne("x", 5, "body"), soundOne("y", 1, "other"))
	for what, change := range map[string]func(a *impl.Arch){
		"another body":          func(a *impl.Arch) { a.Left[0].Body = "else" },
		"another sum":           func(a *impl.Arch) { a.Right[1].Sum = 0 },
		"another sum of both":   func(a *impl.Arch) { a.Right[1].Sum, a.Index[1].Sum = 7, 7 },
		"no copy on the left":   func(a *impl.Arch) { a.Left = nil },
		"no copy on the right":  func(a *impl.Arch) { a.Right = nil },
		"no copy at all":        func(a *impl.Arch) { a.Left, a.Right = nil, nil },
		"no entry":              func(a *impl.Arch) { a.Index = nil },
		"copies of no entry":    func(a *impl.Arch) { a.Left[0].Version, a.Right[1].Name = 6, "z" },
		"a body without bytes":  func(a *impl.Arch) { a.Left[0].Body = "" },
		"one that waits":        func(a *impl.Arch) { a.Index[0].State = impl.ArWaiting },
		"a book of other deeds": func(a *impl.Arch) { a.Audit = longBook(20, 0) },
	} {
		b := cloneArch(a)
		change(&b)
		wantRightArch(t, what, b, true)
	}
}

// Many archives with a few things else, right and not.
func TestRightArchsPlainly(t *testing.T) {
	m := mixer(240)
	right := 0
	for k := range 20000 {
		a := m.twistedArch()
		want := plainArchOk(a)
		if impl.ArchOk(a) != want {
			t.Fatalf("%d: want %v: %s", k, want, briefArch(a))
		}
		if want {
			right++
		}
	}
	if right < 2000 || right > 18000 {
		t.Error("one-sided", right)
	}
}

// twistedArch is an archive with at most one number or text else, which may be right still.
func (m *mixer) twistedArch() impl.Arch {
	a := richArch()
	wild := []int64{leastInt, -1, 0, 1, 2, 3, 8, 9, 10, 40, 999, 1000, 1001, 1000000000, 1000000001, 2305843009213693950, 2305843009213693951, mostInt}
	names := []string{"", "a", "amy", "bob", "zoe", "\xff", strings.Repeat("q", 40), strings.Repeat("q", 41)}
	number, name := wild[m.pick(0, int64(len(wild)-1))], names[m.pick(0, int64(len(names)-1))]
	e := &a.Index[m.pick(0, int64(len(a.Index)-1))]
	shelf := [][]impl.Copy{a.Left, a.Right}[m.pick(0, 1)]
	c := &shelf[m.pick(0, int64(len(shelf)-1))]
	n := &a.Audit[m.pick(0, int64(len(a.Audit)-1))]
	numbers := []*int64{&e.Version, &e.Sum, &e.State, &e.Hold, &c.Version, &c.Sum, &n.Tick, &n.Kind, &n.Version, &n.Chain, &a.Clock}
	texts := []*string{&e.Name, &c.Name, &n.Name, &c.Body}
	if m.pick(0, 2) > 0 {
		*numbers[m.pick(0, int64(len(numbers)-1))] = number
	} else {
		*texts[m.pick(0, int64(len(texts)-1))] = name
	}
	if m.pick(0, 3) > 0 {
		a.Audit = chained(a.Audit)
	}
	return a
}

func TestArchConstants(t *testing.T) {
	got := fmt.Sprint(impl.MaxName, impl.MaxVersion, impl.MaxEntries, impl.MaxBody, impl.MaxHolds, impl.MaxNotes, impl.MaxClock, impl.ArWaiting, impl.ArKept,
		impl.DeedStore, impl.DeedCommit, impl.DeedFetch, impl.DeedHold, impl.DeedFree, impl.DeedDrop, impl.DeedScrub, impl.DeedTick,
		impl.ArName, impl.ArBody, impl.ArFull, impl.ArNone, impl.ArLost, impl.ArHeld, impl.ArDeed, impl.ArBad, int64(impl.MaxDigest))
	if got != "40 1000 200 2048 8 4000 1000000000 1 2 1 2 3 4 5 6 7 8 1 2 3 4 5 6 7 8 2305843009213693950" {
		t.Error(got)
	}
}
