package tests

import (
	"fmt"
	"go/ast"
	"go/parser"
	"go/token"
	"slices"
	"strings"
	"sync"
	"testing"

	"loop.example/g00050/impl"
)

var (
	roomEntry = impl.Entry{Name: "room", Version: 77, Sum: 77, State: 2, Hold: 7}
	roomCopy  = impl.Copy{Name: "room", Version: 77, Body: "room", Sum: 77}
	roomNote  = impl.Note{Tick: 77, Kind: 7, Name: "room", Version: 77, Chain: 77}
)

// roomyArch has spare room behind each list.
func roomyArch(a impl.Arch) impl.Arch {
	return impl.Arch{Index: roomy(a.Index, roomEntry), Left: roomy(a.Left, roomCopy), Right: roomy(a.Right, roomCopy), Audit: roomy(a.Audit, roomNote), Clock: a.Clock}
}

func wantArchStays(t *testing.T, what any, a, was impl.Arch) {
	t.Helper()
	if !stays(a.Index, was.Index, roomEntry) || !stays(a.Left, was.Left, roomCopy) || !stays(a.Right, was.Right, roomCopy) || !stays(a.Audit, was.Audit, roomNote) || a.Clock != was.Clock {
		t.Errorf("%v: an argument changes: %s, was %s", what, briefArch(a), briefArch(was))
	}
}

// spoilArch writes over all lists and the spare room behind them.
func spoilArch(a impl.Arch) {
	fillWith(a.Index, impl.Entry{Name: "spoilt"})
	fillWith(a.Left, impl.Copy{Name: "spoilt left"})
	fillWith(a.Right, impl.Copy{Name: "spoilt right"})
	fillWith(a.Audit, impl.Note{Name: "spoilt"})
}

// archsToAsk are archives of all sorts, and deedsToAsk deeds that are done, refused, and without anything to do.
func archsToAsk() []impl.Arch {
	full := kept(manyCopies("m", 200)...)
	strays := kept(manyCopies("m", 3)...)
	strays.Left, strays.Right = manyCopies("a", 200), manyCopies("s", 200)
	last := richArch()
	last.Audit = longBook(4000, 9)
	wrong := richArch()
	wrong.Audit[3].Chain++
	return []impl.Arch{{}, richArch(), full, strays, last, wrong, kept(soundOne("amy", 1, "one"))}
}

func deedsToAsk() []impl.Deed {
	deeds := []impl.Deed{{}, {Kind: 9}, {Kind: 1, Version: -1}, storeOf("", ""), storeOf("amy", strings.Repeat("x", 2049)), storeOf("amy", "three"), storeOf("amy", "one"), storeOf("amy", "new"), storeOf("zoe", "new"), storeOf("a", ""), scrubbing(), ticking()}
	for _, kind := range kindsOnEntries() {
		deeds = append(deeds, deedOn(kind, "amy", 0), deedOn(kind, "amy", 1), deedOn(kind, "amy", 2), deedOn(kind, "bob", 7), deedOn(kind, "cat", 1000), deedOn(kind, "dan", 1), deedOn(kind, "m000", 1), deedOn(kind, "m001", 2))
	}
	return deeds
}

func TestDeedsAreNewMemory(t *testing.T) {
	for i, was := range archsToAsk() {
		for _, d := range deedsToAsk() {
			what := []any{i, briefDeed(d)}
			want, wantAnswer := plainArchDo(was, d)
			a := roomyArch(was)
			first, answer := impl.ArchDo(a, d)
			second, again := impl.ArchDo(a, d)
			wantArchStays(t, what, a, was)
			if answer != wantAnswer || again != wantAnswer {
				t.Error(what, answer, again, wantAnswer)
			}
			// Nothing that one call answers is another one's or the argument's.
			spoilArch(first)
			wantArchStays(t, what, a, was)
			wantArch(t, what, second, want)
			spoilArch(a)
			wantArch(t, what, second, want)
			wantUnsharedLists(t, what, second, want)
		}
	}
}

// wantUnsharedLists writes over one shelf, and over what lies behind it, and looks at the other.
func wantUnsharedLists(t *testing.T, what any, a, want impl.Arch) {
	t.Helper()
	fillWith(a.Left, impl.Copy{Name: "spoilt"})
	if !slices.Equal(a.Right, want.Right) {
		t.Error(what, "two shelves are one")
	}
}

func TestDamagedArchsAreNewMemory(t *testing.T) {
	for i, was := range archsToAsk() {
		for _, right := range []bool{false, true} {
			for _, at := range []int64{-1, 0, 1, 199, 200} {
				for _, body := range []string{"", "body", strings.Repeat("b", 2049)} {
					what := []any{i, right, at, len(body)}
					want := plainDamage(was, right, at, body)
					a := roomyArch(was)
					first, second := impl.Damage(a, right, at, body), impl.Damage(a, right, at, body)
					wantArchStays(t, what, a, was)
					spoilArch(first)
					wantArchStays(t, what, a, was)
					spoilArch(a)
					wantArch(t, what, second, want)
					wantUnsharedLists(t, what, second, want)
				}
			}
		}
		a := roomyArch(was)
		wantAnswer(t, i, impl.ArchOk(a), plainArchOk(was))
		wantArchStays(t, i, a, was)
	}
}

// One list may be both shelves.
func TestOneListAsBothShelves(t *testing.T) {
	was := kept(manyCopies("m", 5)...)
	for _, d := range []impl.Deed{storeOf("a", "new"), storeOf("m002", "new"), deedOn(impl.DeedDrop, "m002", 3), scrubbing(), ticking()} {
		a := cloneArch(was)
		a.Right = a.Left
		got, _ := doDeed(t, a, d)
		want, _ := plainArchDo(was, d)
		wantUnsharedLists(t, briefDeed(d), got, want)
	}
	a := cloneArch(was)
	a.Right = a.Left
	got := impl.Damage(a, true, 2, "bad")
	wantArch(t, "the other shelf", got, plainDamage(was, true, 2, "bad"))
	wantArch(t, "what was handed in", a, was)
}

// What lies behind a list's length is neither read nor handed out.
func TestArchsBehindTheLength(t *testing.T) {
	whole := kept(manyCopies("m", 6)...)
	whole.Audit = longBook(6, 0)
	cut := impl.Arch{Index: whole.Index[:3], Left: whole.Left[:2], Right: whole.Right[:1], Audit: whole.Audit[:4]}
	for _, d := range []impl.Deed{storeOf("m001", "body 1"), storeOf("m004", "body 4"), deedOn(impl.DeedFetch, "m004", 2), deedOn(impl.DeedFetch, "m002", 3), deedOn(impl.DeedDrop, "m001", 2), scrubbing(), ticking()} {
		doDeed(t, cut, d)
	}
	wantDamaged(t, cut, false, 1, "x")
	wantDamaged(t, cut, false, 2, "x")
	whole.Index[3].State, whole.Left[2].Sum, whole.Audit[4].Kind = 0, -1, 0
	wantAnswer(t, "what is behind is not asked", impl.ArchOk(cut), true)
	wantAnswer(t, "the whole", impl.ArchOk(whole), false)
}

// Two calls with the same arguments answer the same, whatever was called between them and is called meanwhile.
func TestDeedsAskedAgain(t *testing.T) {
	archs, deeds := archsToAsk(), deedsToAsk()
	type told struct {
		arch   impl.Arch
		answer impl.Answer
	}
	var first []told
	for _, a := range archs {
		for _, d := range deeds {
			arch, answer := impl.ArchDo(a, d)
			first = append(first, told{arch, answer})
		}
	}
	ask := func(worker int) {
		for k := range first {
			k = (k*7 + worker*31) % len(first)
			arch, answer := impl.ArchDo(archs[k/len(deeds)], deeds[k%len(deeds)])
			if answer != first[k].answer || !sameArch(arch, first[k].arch) {
				t.Errorf("%d: %v, was %v", k, answer, first[k].answer)
			}
		}
	}
	ask(0)
	var group sync.WaitGroup
	for worker := range 8 {
		group.Add(1)
		go func() {
			defer group.Done()
			ask(worker)
		}()
	}
	group.Wait()
}

// Nothing is kept from call to call: at package level the archive has errors alone.
func TestArchiveKeepsNothing(t *testing.T) {
	parsed, err := parser.ParseFile(token.NewFileSet(), "../impl/l14_arch.go", nil, 0)
	if err != nil {
		t.Fatal(err)
	}
	for _, d := range parsed.Decls {
		g, ok := d.(*ast.GenDecl)
		if !ok || g.Tok != token.VAR {
			continue
		}
		for _, s := range g.Specs {
			v := s.(*ast.ValueSpec)
			if len(v.Names) != 1 || len(v.Values) != 1 || !isNewError(v.Values[0]) {
				t.Error("kept at package level:", v.Names)
			}
		}
	}
}

func isNewError(e ast.Expr) bool {
	call, ok := e.(*ast.CallExpr)
	if !ok {
		return false
	}
	f, ok := call.Fun.(*ast.SelectorExpr)
	return ok && fmt.Sprint(f.X, ".", f.Sel) == "errors.New"
}

func TestArchsNeverPanic(t *testing.T) {
	m := mixer(247)
	wild := []int64{leastInt, leastInt + 1, -1 << 32, -1, 0, 1, 2, 3, 7, 8, 9, 10, 199, 200, 201, 999, 1000, 1001, 999999999, 1000000000, 1000000001, 1 << 31, 1 << 32, 1<<32 + 1, 2305843009213693950, 2305843009213693951, 1 << 62, mostInt - 1, mostInt}
	pick := func() int64 { return wild[m.pick(0, int64(len(wild)-1))] }
	texts := []string{"", "a", "amy", "bob", "zoe", "one", "two", "\x00", "\xff", strings.Repeat("n", 40), strings.Repeat("n", 41), strings.Repeat("b", 2048), strings.Repeat("b", 2049)}
	text := func() string { return texts[m.pick(0, int64(len(texts)-1))] }
	for range 3000 {
		a := impl.Arch{Clock: pick()}
		for range m.pick(0, 3) {
			a.Index = append(a.Index, impl.Entry{Name: text(), Version: pick(), Sum: pick(), State: pick(), Hold: pick()})
			a.Left = append(a.Left, impl.Copy{Name: text(), Version: pick(), Body: text(), Sum: pick()})
			a.Right = append(a.Right, impl.Copy{Name: text(), Version: pick(), Body: text(), Sum: pick()})
			a.Audit = append(a.Audit, impl.Note{Tick: pick(), Kind: pick(), Name: text(), Version: pick(), Chain: pick()})
		}
		d := impl.Deed{Kind: pick(), Name: text(), Version: pick(), Body: text()}
		askArch(t, a, d, pick())
		askArch(t, m.twistedArch(), d, pick())
		askArch(t, richArch(), d, pick())
		d.Kind, d.Version = m.pick(1, 8), m.pick(0, 12)
		askArch(t, m.twistedArch(), d, pick())
		askArch(t, richArch(), d, pick())
	}
	askArch(t, impl.Arch{Index: make([]impl.Entry, 1<<16), Left: make([]impl.Copy, 1<<16), Right: make([]impl.Copy, 1<<16), Audit: make([]impl.Note, 1<<16)}, storeOf("a", "b"), 0)
	askArch(t, impl.Arch{}, storeOf(strings.Repeat("a", 1<<20), strings.Repeat("b", 1<<20)), mostInt)
}

func askArch(t *testing.T, a impl.Arch, d impl.Deed, at int64) {
	t.Helper()
	defer wantNoPanic(t, []any{briefArch(a), briefDeed(d), at})
	wantAnswer(t, briefArch(a), impl.ArchOk(a), plainArchOk(a))
	want, wantAnswer := plainArchDo(a, d)
	got, answer := impl.ArchDo(a, d)
	if answer != wantAnswer {
		t.Error(briefDeed(d), answer, wantAnswer)
	}
	wantArch(t, briefDeed(d), got, want)
	for _, right := range []bool{false, true} {
		wantArch(t, at, impl.Damage(a, right, at, d.Body), plainDamage(a, right, at, d.Body))
	}
}
