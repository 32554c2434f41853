package tests

import (
	"cmp"
	"encoding/binary"
	"fmt"
	"math/bits"
	"slices"
	"strings"
	"testing"

	"loop.example/g00050/impl"
)

const mostDigest = digestPrime - 1

// quickDigest is plainDigest in two words: an archive has many bytes.
func quickDigest(text string) int64 {
	h := uint64(len(text))
	for at := range len(text) {
		high, low := bits.Mul64(h, 257)
		low, carry := bits.Add64(low, uint64(text[at])+1, 0)
		h = bits.Rem64(high+carry, low, digestPrime)
	}
	return int64(h)
}

// twinBodies are two bodies with one Digest.
func twinBodies(t *testing.T) (string, string) {
	t.Helper()
	one := "\xf0twinned"
	other, ok := bytesOfDigest(quickDigest(one), int64(len(one)))
	if !ok || string(other) == one || plainDigest(other) != plainDigest([]byte(one)) {
		t.Fatal("no twins")
	}
	return one, string(other)
}

// archMark tells entries, and the copies on a shelf, apart.
type archMark struct {
	name    string
	version int64
}

func compareArchMarks(a, b archMark) int {
	if a.name != b.name {
		return cmp.Compare(a.name, b.name)
	}
	return cmp.Compare(a.version, b.version)
}

// openArch is an archive without an order: the reckoning of the tests works on it, and puts it in order at the end.
type openArch struct {
	index   map[archMark]impl.Entry
	shelves [2]map[archMark]impl.Copy
	audit   []impl.Note
	clock   int64
}

func opened(a impl.Arch) openArch {
	o := openArch{index: map[archMark]impl.Entry{}, audit: slices.Clone(a.Audit), clock: a.Clock}
	for _, e := range a.Index {
		o.index[archMark{e.Name, e.Version}] = e
	}
	for side, shelf := range [][]impl.Copy{a.Left, a.Right} {
		o.shelves[side] = map[archMark]impl.Copy{}
		for _, c := range shelf {
			o.shelves[side][archMark{c.Name, c.Version}] = c
		}
	}
	return o
}

func (o openArch) closed() impl.Arch {
	return impl.Arch{Index: inOrder(o.index), Left: inOrder(o.shelves[0]), Right: inOrder(o.shelves[1]), Audit: o.audit, Clock: o.clock}
}

func inOrder[T any](all map[archMark]T) []T {
	var list []T
	for _, m := range sortedMarks(all) {
		list = append(list, all[m])
	}
	return list
}

func sortedMarks[T any](all map[archMark]T) []archMark {
	var marks []archMark
	for m := range all {
		marks = append(marks, m)
	}
	slices.SortFunc(marks, compareArchMarks)
	return marks
}

func plainChain(ahead int64, n impl.Note) int64 {
	var b []byte
	for _, number := range []int64{ahead, n.Tick, n.Kind, n.Version} {
		b = binary.LittleEndian.AppendUint64(b, uint64(number))
	}
	return quickDigest(string(b) + n.Name)
}

// chained is a book with these notes, each with the Chain that belongs to it.
func chained(notes []impl.Note) []impl.Note {
	ahead := int64(0)
	out := slices.Clone(notes)
	for k := range out {
		out[k].Chain = plainChain(ahead, out[k])
		ahead = out[k].Chain
	}
	return out
}

func plainArchOk(a impl.Arch) bool {
	if !liesFrom(a.Clock, 0, 1000000000) || len(a.Index) > 200 || len(a.Left) > 200 || len(a.Right) > 200 || len(a.Audit) > 4000 {
		return false
	}
	var marks [3][]archMark
	sums := []int64{}
	for _, e := range a.Index {
		if e.State != 1 && e.State != 2 || !liesFrom(e.Hold, 0, 8) {
			return false
		}
		marks[0] = append(marks[0], archMark{e.Name, e.Version})
		sums = append(sums, e.Sum)
	}
	for side, shelf := range [][]impl.Copy{a.Left, a.Right} {
		for _, c := range shelf {
			if len(c.Body) > 2048 {
				return false
			}
			marks[1+side] = append(marks[1+side], archMark{c.Name, c.Version})
			sums = append(sums, c.Sum)
		}
	}
	for _, list := range marks {
		for k, m := range list {
			if len(m.name) < 1 || len(m.name) > 40 || !liesFrom(m.version, 1, 1000) || k > 0 && compareArchMarks(list[k-1], m) >= 0 {
				return false
			}
		}
	}
	return allLieFrom(sums, 0, mostDigest) && isPlainBook(a.Audit, a.Clock)
}

func isPlainBook(notes []impl.Note, clock int64) bool {
	for k, n := range notes {
		ahead := impl.Note{}
		if k > 0 {
			ahead = notes[k-1]
		}
		if n.Tick < 0 || n.Tick > clock || n.Tick < ahead.Tick || !liesFrom(n.Kind, 1, 8) || len(n.Name) > 40 || !liesFrom(n.Version, 0, 1000) {
			return false
		}
		if n.Chain != plainChain(ahead.Chain, n) {
			return false
		}
	}
	return true
}

func isSoundFor(c impl.Copy, e impl.Entry) bool {
	return c.Name == e.Name && c.Version == e.Version && c.Sum == e.Sum && quickDigest(c.Body) == c.Sum
}

// soundSides are the shelves, 0 and 1, that have a sound copy for an entry that there is.
func (o openArch) soundSides(e impl.Entry) []int {
	var sides []int
	for side, shelf := range o.shelves {
		if c, ok := shelf[archMark{e.Name, e.Version}]; ok && isSoundFor(c, e) {
			sides = append(sides, side)
		}
	}
	return sides
}

// newestOf is the entry of a name with the highest version; of kept ones alone, if that is asked.
func (o openArch) newestOf(name string, kept bool) (impl.Entry, bool) {
	best, found := impl.Entry{}, false
	for _, e := range o.index {
		if e.Name == name && (e.State == 2 || !kept) && e.Version > best.Version {
			best, found = e, true
		}
	}
	return best, found
}

func (o openArch) layOn(side int, c impl.Copy) {
	shelf := o.shelves[side]
	shelf[archMark{c.Name, c.Version}] = c
	for _, m := range sortedMarks(shelf) {
		if _, ok := o.index[m]; !ok && len(shelf) > 200 {
			delete(shelf, m)
		}
	}
}

func (o *openArch) tell(kind int64, name string, version int64) {
	n := impl.Note{Tick: o.clock, Kind: kind, Name: name, Version: version}
	ahead := int64(0)
	if len(o.audit) > 0 {
		ahead = o.audit[len(o.audit)-1].Chain
	}
	n.Chain = plainChain(ahead, n)
	o.audit = append(o.audit, n)
}

// plainArchDo does a deed as the words say, on an archive without an order.
func plainArchDo(a impl.Arch, d impl.Deed) (impl.Arch, impl.Answer) {
	if !plainArchOk(a) {
		return impl.Arch{}, impl.Answer{Code: 8}
	}
	if !liesFrom(d.Kind, 1, 8) || !liesFrom(d.Version, 0, 1000) {
		return a, impl.Answer{Code: 7}
	}
	o := opened(a)
	var answer impl.Answer
	switch d.Kind {
	case 1:
		answer = o.plainStore(d)
	case 3:
		answer = o.plainFetch(d)
	case 7:
		answer = o.plainScrub()
	case 8:
		answer = o.plainTick()
	default:
		answer = o.plainEntryDeed(d)
	}
	if answer.Code != 0 {
		return a, answer
	}
	return o.closed(), answer
}

func (o *openArch) plainStore(d impl.Deed) impl.Answer {
	if len(d.Name) == 0 || len(d.Name) > 40 {
		return impl.Answer{Code: 1}
	}
	if len(d.Body) > 2048 {
		return impl.Answer{Code: 2}
	}
	newest, found := o.newestOf(d.Name, false)
	if found {
		for _, side := range o.soundSides(newest) {
			if o.shelves[side][archMark{d.Name, newest.Version}].Body == d.Body {
				return impl.Answer{Version: newest.Version}
			}
		}
	}
	if len(o.index) == 200 || newest.Version == 1000 || len(o.audit) == 4000 {
		return impl.Answer{Code: 3}
	}
	version, sum := newest.Version+1, quickDigest(d.Body)
	o.index[archMark{d.Name, version}] = impl.Entry{Name: d.Name, Version: version, Sum: sum, State: 1}
	for side := range 2 {
		o.layOn(side, impl.Copy{Name: d.Name, Version: version, Body: d.Body, Sum: sum})
	}
	o.tell(1, d.Name, version)
	return impl.Answer{Version: version}
}

func (o *openArch) plainFetch(d impl.Deed) impl.Answer {
	e, found := o.index[archMark{d.Name, d.Version}]
	if d.Version == 0 {
		e, found = o.newestOf(d.Name, true)
	}
	if !found {
		return impl.Answer{Code: 4}
	}
	sides := o.soundSides(e)
	if len(sides) == 0 {
		return impl.Answer{Code: 5}
	}
	return impl.Answer{Version: e.Version, Body: o.shelves[sides[0]][archMark{e.Name, e.Version}].Body}
}

// plainEntryDeed is a commit, a hold, a free or a drop.
func (o *openArch) plainEntryDeed(d impl.Deed) impl.Answer {
	m := archMark{d.Name, d.Version}
	e, found := o.index[m]
	if !found {
		return impl.Answer{Code: 4}
	}
	switch {
	case d.Kind == 2 && e.State == 2:
		return impl.Answer{}
	case d.Kind == 2 && len(o.soundSides(e)) < 2:
		return impl.Answer{Code: 5}
	case d.Kind == 4 && e.Hold == 8, d.Kind == 5 && e.Hold == 0, d.Kind == 6 && e.Hold > 0:
		return impl.Answer{Code: 6}
	case len(o.audit) == 4000:
		return impl.Answer{Code: 3}
	}
	switch d.Kind {
	case 2:
		e.State = 2
	case 4:
		e.Hold++
	case 5:
		e.Hold--
	}
	o.index[m] = e
	if d.Kind == 6 {
		delete(o.index, m)
		delete(o.shelves[0], m)
		delete(o.shelves[1], m)
	}
	o.tell(d.Kind, d.Name, d.Version)
	return impl.Answer{}
}

func (o *openArch) plainScrub() impl.Answer {
	if len(o.audit) == 4000 {
		return impl.Answer{Code: 3}
	}
	laid := int64(0)
	for m, e := range o.index {
		if sides := o.soundSides(e); len(sides) == 1 {
			o.shelves[1-sides[0]][m] = o.shelves[sides[0]][m]
			laid++
		}
	}
	for _, shelf := range o.shelves {
		for m := range shelf {
			if _, ok := o.index[m]; !ok {
				delete(shelf, m)
			}
		}
	}
	o.tell(7, "", laid)
	return impl.Answer{Version: laid}
}

func (o *openArch) plainTick() impl.Answer {
	if o.clock == 1000000000 || len(o.audit) == 4000 {
		return impl.Answer{Code: 3}
	}
	o.clock++
	o.tell(8, "", 0)
	return impl.Answer{}
}

func plainDamage(a impl.Arch, right bool, at int64, body string) impl.Arch {
	if !plainArchOk(a) || len(body) > 2048 {
		return impl.Arch{}
	}
	out := cloneArch(a)
	shelf := &out.Left
	if right {
		shelf = &out.Right
	}
	if at < 0 || at >= int64(len(*shelf)) {
		*shelf = nil
	} else {
		(*shelf)[at].Body = body
	}
	return out
}

func cloneArch(a impl.Arch) impl.Arch {
	return impl.Arch{Index: slices.Clone(a.Index), Left: slices.Clone(a.Left), Right: slices.Clone(a.Right), Audit: slices.Clone(a.Audit), Clock: a.Clock}
}

func sameArch(a, b impl.Arch) bool {
	return slices.Equal(a.Index, b.Index) && slices.Equal(a.Left, b.Left) && slices.Equal(a.Right, b.Right) && slices.Equal(a.Audit, b.Audit) && a.Clock == b.Clock
}

// briefArch tells an archive in a line that is not too long.
func briefArch(a impl.Arch) string {
	text := fmt.Sprintf("%d entries %v, %d left %v, %d right %v, %d notes", len(a.Index), a.Index, len(a.Left), a.Left, len(a.Right), a.Right, len(a.Audit))
	if len(text) > 700 {
		text = text[:700] + " .."
	}
	if len(a.Audit) > 0 {
		text += fmt.Sprintf(", the last %v", a.Audit[len(a.Audit)-1])
	}
	return fmt.Sprintf("%s, clock %d", text, a.Clock)
}

func briefDeed(d impl.Deed) string {
	return fmt.Sprintf("kind %d %.50q %d, %d bytes", d.Kind, d.Name, d.Version, len(d.Body))
}

func wantArch(t *testing.T, what any, got, want impl.Arch) {
	t.Helper()
	if !sameArch(got, want) {
		t.Errorf("%v:\n%s\nwant\n%s", what, briefArch(got), briefArch(want))
	}
}

// doDeed does a deed, holds all of it against the test's own reckoning, and asks that the archive is right behind it.
func doDeed(t *testing.T, a impl.Arch, d impl.Deed) (impl.Arch, impl.Answer) {
	t.Helper()
	was := cloneArch(a)
	got, answer := impl.ArchDo(a, d)
	want, wantAnswer := plainArchDo(was, d)
	if answer != wantAnswer {
		t.Errorf("%s: %v, want %v, on %s", briefDeed(d), answer, wantAnswer, briefArch(was))
	}
	wantArch(t, briefDeed(d), got, want)
	wantArch(t, "what was handed in", a, was)
	if !impl.ArchOk(got) {
		t.Errorf("%s leaves what is not right: %s", briefDeed(d), briefArch(got))
	}
	return got, answer
}

// wantDone asks for a deed that is done, with that Version, and changes something: it has one note more, the last of which is told.
func wantDone(t *testing.T, a impl.Arch, d impl.Deed, version int64) impl.Arch {
	t.Helper()
	got, answer := doDeed(t, a, d)
	if answer != (impl.Answer{Version: version}) || len(got.Audit) != len(a.Audit)+1 {
		t.Errorf("%s: %v, want version %d and a note; %d notes", briefDeed(d), answer, version, len(got.Audit))
	}
	return got
}

// wantCode asks for a deed that is refused and changes nothing.
func wantCode(t *testing.T, a impl.Arch, d impl.Deed, code int64) {
	t.Helper()
	wantStill(t, a, d, impl.Answer{Code: code})
}

// wantStill asks for a deed that has just that answer and changes nothing.
func wantStill(t *testing.T, a impl.Arch, d impl.Deed, want impl.Answer) {
	t.Helper()
	got, answer := doDeed(t, a, d)
	if answer != want {
		t.Errorf("%s: %v, want %v, on %s", briefDeed(d), answer, want, briefArch(a))
	}
	wantArch(t, briefDeed(d), got, a)
}

func storeOf(name, body string) impl.Deed {
	return impl.Deed{Kind: impl.DeedStore, Name: name, Body: body}
}

// deedOn is a deed of some kind on an entry.
func deedOn(kind int64, name string, version int64) impl.Deed {
	return impl.Deed{Kind: kind, Name: name, Version: version}
}

func scrubbing() impl.Deed { return impl.Deed{Kind: impl.DeedScrub} }

func ticking() impl.Deed { return impl.Deed{Kind: impl.DeedTick} }

// kindsOnEntries are the kinds that name an entry by its version.
func kindsOnEntries() []int64 {
	return []int64{impl.DeedCommit, impl.DeedFetch, impl.DeedHold, impl.DeedFree, impl.DeedDrop}
}

func soundOne(name string, version int64, body string) impl.Copy {
	return impl.Copy{Name: name, Version: version, Body: body, Sum: quickDigest(body)}
}

func entryFor(c impl.Copy, state, holds int64) impl.Entry {
	return impl.Entry{Name: c.Name, Version: c.Version, Sum: c.Sum, State: state, Hold: holds}
}

// kept is an archive without notes that has these copies on both shelves, each with an entry that is kept. They are given in order.
func kept(copies ...impl.Copy) impl.Arch {
	a := impl.Arch{Left: slices.Clone(copies), Right: slices.Clone(copies)}
	for _, c := range copies {
		a.Index = append(a.Index, entryFor(c, impl.ArKept, 0))
	}
	return a
}

// manyCopies are so many copies in order, of unlike names.
func manyCopies(prefix string, n int) []impl.Copy {
	var list []impl.Copy
	for k := range n {
		list = append(list, soundOne(fmt.Sprintf("%s%03d", prefix, k), 1+int64(k%3), fmt.Sprint("body ", k)))
	}
	return list
}

// longBook has so many notes of all kinds, with ticks up to a clock.
func longBook(n int, clock int64) []impl.Note {
	notes := make([]impl.Note, n)
	for k := range notes {
		notes[k] = impl.Note{Tick: min(clock, int64(k/3)), Kind: 1 + int64(k%8), Name: strings.Repeat("n", k%41), Version: int64(k) % 1001}
	}
	return chained(notes)
}

// richArch has a name with several versions, kept and waiting, one that is held, copies that are damaged, gone or stray, and a book.
func richArch() impl.Arch {
	one, two, three := soundOne("amy", 1, "one"), soundOne("amy", 2, "two"), soundOne("amy", 10, "three")
	bob, cat, dan := soundOne("bob", 7, ""), soundOne("cat", 1000, strings.Repeat("c", 2048)), soundOne("dan", 1, "dan")
	a := kept(one, two, three, bob, cat, dan)
	a.Index[1].State = impl.ArWaiting
	a.Index[3].Hold = 8
	a.Index[4].Hold = 1
	a.Index[5].State = impl.ArWaiting
	a.Left[0].Body = "damaged"
	a.Right[2].Sum++
	a.Left = slices.Delete(a.Left, 3, 4)
	a.Right = append(a.Right, soundOne("zoe", 3, "stray"))
	a.Left = slices.Insert(a.Left, 0, impl.Copy{Name: "aaa", Version: 1, Body: "stray", Sum: 5})
	a.Clock = 9
	a.Audit = longBook(12, 9)
	return a
}
