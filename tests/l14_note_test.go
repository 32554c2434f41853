package tests

import (
	"slices"
	"strings"
	"testing"

	"loop.example/g00050/impl"
)

// A short book, with the bytes of each chain written out.
func TestChainByHand(t *testing.T) {
	a := wantDone(t, impl.Arch{}, storeOf("ab", "x"), 1)
	a = wantDone(t, a, ticking(), 0)
	a = wantDone(t, a, deedOn(impl.DeedCommit, "ab", 1), 0)
	a = impl.Damage(a, true, 0, "y")
	a = wantDone(t, a, scrubbing(), 1)
	bytesOf := func(n int64) string { // eight bytes, the lowest first
		var b strings.Builder
		for range 8 {
			b.WriteByte(byte(n % 256))
			n /= 256
		}
		return b.String()
	}
	const noughts = "\x00\x00\x00\x00\x00\x00\x00"
	first := plainDigest([]byte("\x00" + noughts + "\x00" + noughts + "\x01" + noughts + "\x01" + noughts + "ab"))
	second := plainDigest([]byte(bytesOf(first) + "\x01" + noughts + "\x08" + noughts + "\x00" + noughts))
	third := plainDigest([]byte(bytesOf(second) + "\x01" + noughts + "\x02" + noughts + "\x01" + noughts + "ab"))
	fourth := plainDigest([]byte(bytesOf(third) + "\x01" + noughts + "\x07" + noughts + "\x01" + noughts))
	want := []impl.Note{{Tick: 0, Kind: 1, Name: "ab", Version: 1, Chain: first}, {Tick: 1, Kind: 8, Chain: second}, {Tick: 1, Kind: 2, Name: "ab", Version: 1, Chain: third}, {Tick: 1, Kind: 7, Version: 1, Chain: fourth}}
	if !slices.Equal(a.Audit, want) {
		t.Error(a.Audit, want)
	}
	// Numbers of more than one byte.
	b := impl.Arch{Clock: 0x3b9ac9f0, Index: []impl.Entry{entryFor(soundOne("q", 0x3e7, "x"), impl.ArKept, 0)}}
	b = wantDone(t, b, deedOn(impl.DeedHold, "q", 0x3e7), 0)
	wide := plainDigest([]byte("\x00" + noughts + "\xf0\xc9\x9a\x3b\x00\x00\x00\x00" + "\x04" + noughts + "\xe7\x03\x00\x00\x00\x00\x00\x00" + "q"))
	wantNumber(t, "wide numbers", b.Audit[0].Chain, wide)
}

// The note of each deed that changes something, and none of one that doesn't.
func TestNotesOfDeeds(t *testing.T) {
	a := richArch()
	a.Clock = 77
	for _, row := range []struct {
		d    impl.Deed
		want impl.Note
	}{
		{storeOf("new", "x"), impl.Note{Tick: 77, Kind: 1, Name: "new", Version: 1}},
		{storeOf("amy", "x"), impl.Note{Tick: 77, Kind: 1, Name: "amy", Version: 11}},
		{impl.Deed{Kind: 1, Name: "bob", Version: 5, Body: "x"}, impl.Note{Tick: 77, Kind: 1, Name: "bob", Version: 8}},
		{deedOn(2, "amy", 2), impl.Note{Tick: 77, Kind: 2, Name: "amy", Version: 2}},
		{deedOn(4, "cat", 1000), impl.Note{Tick: 77, Kind: 4, Name: "cat", Version: 1000}},
		{deedOn(5, "bob", 7), impl.Note{Tick: 77, Kind: 5, Name: "bob", Version: 7}},
		{deedOn(6, "amy", 10), impl.Note{Tick: 77, Kind: 6, Name: "amy", Version: 10}},
		{deedOn(7, "amy", 10), impl.Note{Tick: 77, Kind: 7, Version: 3}},
		{deedOn(8, "amy", 10), impl.Note{Tick: 78, Kind: 8}},
	} {
		got, answer := doDeed(t, a, row.d)
		row.want.Chain = plainChain(a.Audit[11].Chain, row.want)
		if answer.Code != 0 || len(got.Audit) != 13 || !slices.Equal(got.Audit[:12], a.Audit) || got.Audit[12] != row.want {
			t.Error(briefDeed(row.d), answer, got.Audit[len(got.Audit)-1], row.want)
		}
	}
	for _, d := range []impl.Deed{storeOf("cat", strings.Repeat("c", 2048)), deedOn(2, "amy", 1), deedOn(3, "amy", 0), deedOn(3, "dan", 1)} {
		got, answer := doDeed(t, a, d)
		if answer.Code != 0 || len(got.Audit) != 12 {
			t.Error(briefDeed(d), answer, len(got.Audit))
		}
	}
	for _, d := range []impl.Deed{storeOf("", "c"), storeOf("cat", "c"), deedOn(2, "dan", 2), deedOn(4, "bob", 7), deedOn(5, "dan", 1), deedOn(6, "cat", 1000), deedOn(9, "cat", 1000), deedOn(7, "", 1001)} {
		got, answer := doDeed(t, a, d)
		if answer.Code == 0 || len(got.Audit) != 12 {
			t.Error(briefDeed(d), answer, len(got.Audit))
		}
	}
}

// A whole book up to its last note, and nothing behind it.
func TestBookToItsEnd(t *testing.T) {
	a := impl.Arch{Clock: 600, Audit: longBook(3990, 600)}
	for k := range int64(9) {
		a = wantDone(t, a, storeOf("a", strings.Repeat("x", int(k))), k+1)
	}
	a = wantDone(t, a, ticking(), 0)
	wantNumber(t, "notes", int64(len(a.Audit)), 4000)
	for _, d := range []impl.Deed{ticking(), scrubbing(), storeOf("a", "y"), deedOn(2, "a", 3), deedOn(4, "a", 3), deedOn(6, "a", 3)} {
		wantCode(t, a, d, impl.ArFull)
	}
	wantStill(t, a, deedOn(3, "a", 3), impl.Answer{Version: 3, Body: "xx"})
}
