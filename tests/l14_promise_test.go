package tests

import (
	"fmt"
	"slices"
	"strings"
	"testing"

	"loop.example/g00050/impl"
)

// someDeed is a deed that an archive of few names will often do.
func (m *mixer) someDeed() impl.Deed {
	d := impl.Deed{Kind: m.pick(1, 8), Name: []string{"a", "b", "ab", "c"}[m.pick(0, 3)], Version: m.pick(0, 4), Body: fmt.Sprint("body ", m.pick(0, 5))}
	if m.pick(0, 2) == 0 {
		d.Kind = impl.DeedStore
	}
	if m.pick(0, 30) == 0 {
		d.Kind, d.Version = m.pick(-1, 10), m.pick(-2, 1002)
	}
	return d
}

// harmed is an archive to which something has gone wrong that Damage can't do: copies that go, come, or have other sums.
func (m *mixer) harmed(a impl.Arch) impl.Arch {
	a = cloneArch(a)
	shelf := &a.Left
	if m.pick(0, 1) == 1 {
		shelf = &a.Right
	}
	if len(*shelf) == 0 {
		return a
	}
	at := int(m.pick(0, int64(len(*shelf)-1)))
	switch m.pick(0, 3) {
	case 0:
		*shelf = slices.Delete(*shelf, at, at+1)
	case 1:
		(*shelf)[at].Sum = m.pick(0, mostDigest)
	case 2:
		a.Index = slices.DeleteFunc(a.Index, func(e impl.Entry) bool { return e.Name == (*shelf)[at].Name && e.Hold == 0 })
	case 3:
		(*shelf)[at] = soundOne((*shelf)[at].Name, (*shelf)[at].Version, "put there")
	}
	return a
}

// Every step leaves the archive right, and is what the words say.
func TestArchsStepByStep(t *testing.T) {
	m := mixer(243)
	codes := map[int64]int{}
	for range 150 {
		a := impl.Arch{}
		for range 120 {
			var answer impl.Answer
			a, answer = doDeed(t, a, m.someDeed())
			codes[answer.Code]++
			switch m.pick(0, 12) {
			case 0:
				a = wantDamaged(t, a, m.pick(0, 1) == 0, m.pick(-1, 9), "harm")
			case 1:
				a = wantDamaged(t, a, m.pick(0, 1) == 0, m.pick(0, 9), fmt.Sprint("body ", m.pick(0, 5)))
			case 2:
				a = m.harmed(a)
			}
		}
	}
	for _, code := range []int64{0, impl.ArNone, impl.ArLost, impl.ArHeld, impl.ArDeed} {
		if codes[code] < 30 {
			t.Error("too few of a code", code, codes)
		}
	}
}

// Near all limits at once: many entries, full shelves with strays, a book near its end.
func TestFullArchsStepByStep(t *testing.T) {
	m := mixer(244)
	codes := map[int64]int{}
	for round := range 12 {
		a := kept(manyCopies("m", min(200, 190+round))...)
		a.Clock = 999999990
		a.Audit = longBook(3970+5*(round%4), 1000)
		if round >= 4 {
			a.Left = manyCopies("s", 200)
		}
		if round >= 8 {
			a.Right = append(manyCopies("a", 100), a.Right[:100]...)
		}
		for range 40 {
			d := m.someDeed()
			if m.pick(0, 1) == 0 {
				e := a.Index[m.pick(0, int64(len(a.Index)-1))]
				d.Name, d.Version = e.Name, e.Version
			}
			if d.Kind == impl.DeedScrub && m.pick(0, 3) > 0 {
				d.Kind = impl.DeedStore
			}
			var answer impl.Answer
			a, answer = doDeed(t, a, d)
			codes[answer.Code]++
		}
	}
	if codes[impl.ArFull] < 20 || codes[0] < 100 {
		t.Error("one-sided", codes)
	}
}

// wantBytesBack asks that a fetch has these bytes, by the version, and by Version 0 where it is the newest kept one.
func wantBytesBack(t *testing.T, a impl.Arch, name string, version int64, body string, newest bool) {
	t.Helper()
	want := impl.Answer{Version: version, Body: body}
	wantStill(t, a, deedOn(impl.DeedFetch, name, version), want)
	if newest {
		wantStill(t, a, deedOn(impl.DeedFetch, name, 0), want)
	}
}

// What was waiting and is committed is fetched with its own bytes, whatever single thing goes wrong on one shelf; a scrub then makes both shelves sound for it.
func TestCommittedIsFetched(t *testing.T) {
	m := mixer(245)
	for range 120 {
		a := impl.Arch{}
		for range m.pick(0, 40) {
			a, _ = doDeed(t, a, m.someDeed())
			if m.pick(0, 8) == 0 {
				a = m.harmed(a)
			}
		}
		name := []string{"a", "b", "new", strings.Repeat("n", 40)}[m.pick(0, 3)]
		body := []string{"", "mine", string(m.someBytes(int(m.pick(1, 60)))), string(m.someBytes(2048))}[m.pick(0, 3)]
		a, stored := doDeed(t, a, storeOf(name, body+"x")) // so that the next one is new
		if len(body) < 2048 {
			wantNumber(t, "stored", stored.Code, 0)
		}
		a, stored = doDeed(t, a, storeOf(name, body))
		wantNumber(t, "stored", stored.Code, 0)
		wantStill(t, a, storeOf(name, body), impl.Answer{Version: stored.Version})
		a, committed := doDeed(t, a, deedOn(impl.DeedCommit, name, stored.Version))
		if committed != (impl.Answer{}) {
			t.Fatal("committed", committed)
		}
		wantStill(t, a, storeOf(name, body), impl.Answer{Version: stored.Version})
		wantBytesBack(t, a, name, stored.Version, body, true)
		for _, right := range []bool{false, true} {
			shelf := a.Left
			if right {
				shelf = a.Right
			}
			for at := int64(-1); at <= int64(len(shelf)); at++ {
				damaged := wantDamaged(t, a, right, at, "another body")
				wantBytesBack(t, damaged, name, stored.Version, body, true)
				wantStill(t, damaged, storeOf(name, body), impl.Answer{Version: stored.Version})
				scrubbed, _ := doDeed(t, damaged, scrubbing())
				wantSoundOnBoth(t, scrubbed, name, stored.Version)
				wantBytesBack(t, scrubbed, name, stored.Version, body, true)
			}
		}
		wantHeldStays(t, a, name, stored.Version)
	}
}

func wantSoundOnBoth(t *testing.T, a impl.Arch, name string, version int64) {
	t.Helper()
	o := opened(a)
	e, found := o.index[archMark{name, version}]
	if !found || len(o.soundSides(e)) != 2 {
		t.Errorf("%q %d is not sound on both: %s", name, version, briefArch(a))
	}
}

// wantHeldStays asks that what is held is not dropped as long as there is one hold.
func wantHeldStays(t *testing.T, a impl.Arch, name string, version int64) {
	t.Helper()
	drop := deedOn(impl.DeedDrop, name, version)
	for range 8 {
		a = wantDone(t, a, deedOn(impl.DeedHold, name, version), 0)
		wantCode(t, a, drop, impl.ArHeld)
	}
	for range 8 {
		wantCode(t, a, drop, impl.ArHeld)
		a = wantDone(t, a, deedOn(impl.DeedFree, name, version), 0)
	}
	wantDone(t, a, drop, 0)
}

// One damage, then a scrub, then another damage, and so on: nothing that is kept is ever lost.
func TestKeptForEver(t *testing.T) {
	m := mixer(246)
	a := impl.Arch{}
	bodies := map[archMark]string{}
	for k := range 60 {
		name, body := fmt.Sprint("n", m.pick(0, 9)), string(m.someBytes(int(m.pick(0, 100))))+fmt.Sprint(k)
		stored := impl.Answer{}
		a, stored = doDeed(t, a, storeOf(name, body))
		a = wantDone(t, a, deedOn(impl.DeedCommit, name, stored.Version), 0)
		bodies[archMark{name, stored.Version}] = body
		a = wantDamaged(t, a, m.pick(0, 1) == 0, m.pick(-1, int64(len(a.Left))), "harm")
		for mark, body := range bodies {
			wantBytesBack(t, a, mark.name, mark.version, body, false)
		}
		a, _ = doDeed(t, a, scrubbing())
		for mark := range bodies {
			wantSoundOnBoth(t, a, mark.name, mark.version)
		}
	}
}
