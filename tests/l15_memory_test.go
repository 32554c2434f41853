package tests

import (
	"fmt"
	"go/ast"
	"go/parser"
	"go/token"
	"runtime"
	"slices"
	"strings"
	"sync"
	"testing"
	"time"

	"loop.example/g00050/impl"
)

var (
	roomPart   = impl.Part{Id: 77, Number: 7, Last: true, Body: "room"}
	roomLetter = impl.Message{Id: 77, Body: "room"}
)

// roomyGather has spare room behind each list.
func roomyGather(g impl.Gather) impl.Gather {
	return impl.Gather{Open: roomy(g.Open, 77), Done: roomy(g.Done, 77), Parts: roomy(g.Parts, roomPart)}
}

func wantGatherStays(t *testing.T, what any, g, was impl.Gather) {
	t.Helper()
	if !stays(g.Open, was.Open, 77) || !stays(g.Done, was.Done, 77) || !stays(g.Parts, was.Parts, roomPart) {
		t.Errorf("%v: an argument changes: %s, was %s", what, briefGather(g), briefGather(was))
	}
}

// spoilGather writes over all lists and the spare room behind them.
func spoilGather(g impl.Gather) {
	fillWith(g.Open, -5)
	fillWith(g.Done, -6)
	fillWith(g.Parts, impl.Part{Id: -7, Body: "spoilt"})
}

// gathersToAsk are receivers of all sorts, and partsToAsk parts that are kept, refused, and that make a message whole.
func gathersToAsk() []impl.Gather {
	many := fullGather()
	many.Done = idsFrom(1000, 4096)
	wrong := richGather()
	wrong.Parts[2].Number = 1
	tooMany := richGather()
	tooMany.Done = idsFrom(10000, 5000)
	return []impl.Gather{{}, richGather(), fullGather(), many, wrong, tooMany, gatherOf(idsFrom(1000, 4096), part(7, 0, "one")), gatherOf(nil, part(8, 0, "b"), lastPart(8, 2, "d"))}
}

func partsToAsk() []impl.Part {
	return []impl.Part{{}, {Last: true}, {Id: -1}, part(7, 0, "one"), part(7, 64, ""), part(7, 1, "two"), lastPart(7, 1, "end"), lastPart(7, 3, "end"), part(8, 1, "c"), part(40, 3, "d"), part(900000, 5, "x"), part(900001, 0, "new"), lastPart(900001, 0, "whole"), part(3, 0, "done"), part(1000, 0, "done"), lastPart(5, 2, "five"), part(5, 0, strings.Repeat("x", 1025))}
}

func TestReceiversAreNewMemory(t *testing.T) {
	for i, was := range gathersToAsk() {
		for _, p := range partsToAsk() {
			what := []any{i, briefPart(p)}
			want, wantTold := plainReceive(was, p)
			g := roomyGather(was)
			first, told := impl.Receive(g, p)
			second, again := impl.Receive(g, p)
			wantGatherStays(t, what, g, was)
			wantLetters(t, what, told, wantTold)
			// Nothing that one call answers is another one's or the argument's.
			spoilGather(first)
			fillWith(told, impl.Message{Id: -8})
			wantGatherStays(t, what, g, was)
			spoilGather(g)
			wantGather(t, what, second, want)
			wantLetters(t, what, again, wantTold)
			// Nor is one list of an answer another one.
			fillWith(second.Open, -5)
			wantLists(t, what, second.Done, want.Done)
			fillWith(second.Done, -6)
			wantParts(t, what, second.Parts, want.Parts)
			if len(second.Open) > 0 && second.Open[0] != -5 {
				t.Error(what, "two lists are one")
			}
		}
		g := roomyGather(was)
		wantAnswer(t, i, impl.GatherOk(g), plainGatherOk(was))
		wantGatherStays(t, i, g, was)
	}
}

// One list may be Open and Done.
func TestOneListAsOpenAndDone(t *testing.T) {
	ids := []int64{5, 6, 7, 8}
	for _, p := range []impl.Part{part(5, 1, "b"), lastPart(5, 1, "b"), lastPart(9, 0, "c"), part(7, 0, "d")} {
		// One's end is the other one's beginning.
		g := impl.Gather{Open: ids[:2], Done: ids[2:], Parts: []impl.Part{part(5, 0, "a"), part(6, 0, "a")}}
		receive(t, g, p)
		wantLists(t, "what was handed in", ids, []int64{5, 6, 7, 8})
		wantUnmoved(t, impl.Gather{Open: ids, Done: ids, Parts: g.Parts}, p)
	}
}

func TestPiecesAndFormsAreNewMemory(t *testing.T) {
	message := unlikeBytes(100)
	first, second := impl.Pieces(5, message, 9), impl.Pieces(5, message, 9)
	fillWith(first, roomPart)
	wantParts(t, "another call's", second, plainPieces(5, message, 9))

	forms := roomy([]int64{2, 0, 1}, 77)
	offers := roomy([]impl.Offer{{Id: 5, Forms: forms}, {Id: 6, Forms: forms[:1]}, {Id: 6, Forms: forms}}, impl.Offer{Id: 77})
	known := roomy([]int64{3, 0, 1}, 77)
	one, other := impl.Agree(offers, known), impl.Agree(offers, known)
	spoil(one)
	wantLists(t, "another call's", other, []int64{0, -1, -1})
	if !stays(forms, []int64{2, 0, 1}, 77) || !stays(known, []int64{3, 0, 1}, 77) || len(offers) != 3 || offers[:4][3].Id != 77 || offers[0].Id != 5 || offers[1].Id != 6 || len(offers[1].Forms) != 1 {
		t.Error("an argument changes", offers, known)
	}
	spoil(known)
	spoil(forms)
	wantLists(t, "not the arguments'", other, []int64{0, -1, -1})
	for _, wrong := range []impl.Offer{offerOf(5, 3, 1, 3), offerOf(300, 2, 1), offerOf(5, 3, 2, 1, 0, 0)} {
		forms := roomy(wrong.Forms, 77)
		impl.Agree([]impl.Offer{{Id: wrong.Id, Forms: forms}}, known)
		if !stays(forms, wrong.Forms, 77) {
			t.Error("forms that are refused change", wrong)
		}
	}
}

// transfersToAsk are letters, sizes, fates and rounds of all sorts.
type transferToAsk struct {
	letters []impl.Message
	size    int64
	fates   []int64
	rounds  int64
}

func transfersToAsk() []transferToAsk {
	return []transferToAsk{
		{nil, 5, nil, 1},
		{threeLetters(), 2, nil, 1},
		{threeLetters(), 2, nil, 0},
		{threeLetters(), 2, []int64{late, goes, lost, twice, late, late, lost, goes, late}, 1},
		{threeLetters(), 2, []int64{late, goes, lost, twice, late, late, lost, goes, late}, 2},
		{threeLetters(), 2, []int64{late, goes, lost, twice, late, late, lost, goes, late}, 3},
		{threeLetters(), 2, alike(lost, 4096), 20},
		{threeLetters(), 2, slices.Repeat([]int64{late, twice, late, goes, lost}, 40), 20},
		{manyLetters(16), 1, slices.Repeat([]int64{late, twice, lost, late, goes, lost, goes}, 100), 20},
		{manyLetters(16), 3, slices.Repeat([]int64{lost, lost, goes}, 60), 4},
		{lettersForPromise(), 32, slices.Repeat([]int64{late, lost, twice}, 150), 2},
		{threeLetters(), 0, nil, 1},
		{threeLetters(), 2, []int64{4}, 1},
		{threeLetters(), 2, nil, 21},
		{manyLetters(17), 20, nil, 1},
		{[]impl.Message{letterOf(1, "a"), letterOf(1, "b")}, 20, nil, 1},
		{threeLetters(), 2, alike(goes, 4097), 1},
	}
}

func TestTransfersAreNewMemory(t *testing.T) {
	for i, ask := range transfersToAsk() {
		wantToldLetters, wantRest, wantCount := plainTransfer(ask.letters, ask.size, ask.fates, ask.rounds)
		letters, fates := roomy(ask.letters, roomLetter), roomy(ask.fates, 77)
		told, rest, sent := impl.Transfer(letters, ask.size, fates, ask.rounds)
		again, restAgain, sentAgain := impl.Transfer(letters, ask.size, fates, ask.rounds)
		wantNumber(t, i, sent, wantCount)
		wantNumber(t, i, sentAgain, wantCount)
		if !stays(letters, ask.letters, roomLetter) || !stays(fates, ask.fates, 77) {
			t.Error(i, "an argument changes")
		}
		fillWith(told, impl.Message{Id: -8})
		wantLetters(t, i, rest, wantRest)
		fillWith(rest, impl.Message{Id: -9})
		if !stays(letters, ask.letters, roomLetter) {
			t.Error(i, "shared with an argument")
		}
		fillWith(letters, impl.Message{Id: -10})
		spoil(fates)
		wantLetters(t, i, again, wantToldLetters)
		wantLetters(t, i, restAgain, wantRest)
	}
}

// What lies behind a list's length is neither read nor handed out.
func TestLineBehindTheLength(t *testing.T) {
	letters := []impl.Message{letterOf(1, "ab"), letterOf(2, "c"), letterOf(1, "twice"), letterOf(-1, "none")}
	fates := []int64{goes, late, lost, 9, -1}
	wantSent(t, letters[:2], 1, fates[:2], 1, []int64{2, 1}, nil, 3)
	wantSent(t, letters[:2], 1, fates[:3], 1, []int64{1}, []int64{2}, 3)
	wantSent(t, letters[:1], 1, fates[:0], 1, []int64{1}, nil, 2)
	known := []int64{0, 1, 2, 3}
	offers := []impl.Offer{offerOf(1, 3, 2, 2), offerOf(2, 1), offerOf(2, 0)}
	wantAgreed(t, "known", []impl.Offer{{Id: 1, Forms: offers[0].Forms[:2]}}, known[:3], 2)
	wantAgreed(t, "offers", offers[1:2], known[:2], 1)
	wantAgreed(t, "none known", offers[1:2], known[:0], -1)

	whole := gatherOf([]int64{900, 901, 902, 903}, part(5, 0, "a"), part(5, 2, "c"), part(6, 0, "x"), lastPart(6, 3, "z"))
	cut := impl.Gather{Open: whole.Open[:1], Done: whole.Done[:2], Parts: whole.Parts[:2]}
	wantRightGather(t, "cut", cut, true)
	for _, p := range []impl.Part{part(6, 0, "x"), part(902, 0, "y"), lastPart(5, 3, "d"), part(5, 1, "b"), part(900, 0, "done")} {
		receive(t, cut, p)
	}
	whole.Open[1], whole.Done[2], whole.Parts[2].Number = -1, -1, -1
	wantRightGather(t, "what is behind is not asked", cut, true)
	wantRightGather(t, "the whole", whole, false)
}

// Two calls with the same arguments answer the same, whatever was called between them and is called meanwhile.
func TestLineAskedAgain(t *testing.T) {
	asks := transfersToAsk()
	type answer struct {
		told, rest []impl.Message
		sent       int64
	}
	var first []answer
	for _, ask := range asks {
		told, rest, sent := impl.Transfer(ask.letters, ask.size, ask.fates, ask.rounds)
		first = append(first, answer{told, rest, sent})
	}
	g, parts := richGather(), partsToAsk()
	askAgain := func(worker int) {
		for k := range 10 * len(asks) {
			k = (k*7 + worker*5) % len(asks)
			ask := asks[k]
			told, rest, sent := impl.Transfer(ask.letters, ask.size, ask.fates, ask.rounds)
			if !slices.Equal(told, first[k].told) || !slices.Equal(rest, first[k].rest) || sent != first[k].sent {
				t.Errorf("%d: %s, %s, %d", k, briefLetters(told), briefLetters(rest), sent)
			}
			receive(t, g, parts[k%len(parts)])
		}
	}
	askAgain(0)
	var group sync.WaitGroup
	for worker := range 8 {
		group.Add(1)
		go func() {
			defer group.Done()
			askAgain(worker)
		}()
	}
	group.Wait()
}

func TestNoGoroutineIsLeft(t *testing.T) {
	wantNoneLeft(t, func() {
		for _, ask := range transfersToAsk() {
			impl.Transfer(ask.letters, ask.size, ask.fates, ask.rounds)
		}
	})
}

// wantNoneLeft asks that no goroutine is left when calls have answered: one that has done its last deed may need a moment to be gone, one that waits never goes.
func wantNoneLeft(t *testing.T, calls func()) {
	t.Helper()
	before := runtime.NumGoroutine()
	for range 20 {
		calls()
	}
	for end := time.Now().Add(5 * time.Second); runtime.NumGoroutine() > before && time.Now().Before(end); {
		time.Sleep(time.Millisecond)
	}
	if now := runtime.NumGoroutine(); now > before {
		t.Errorf("%d goroutines, %d before", now, before)
	}
}

func TestLineKeepsNothing(t *testing.T) {
	wantNothingKept(t, "l15_net.go")
}

// wantNothingKept asks that a file of the program has no variable at package level, so that nothing is kept from call to call.
func wantNothingKept(t *testing.T, file string) {
	t.Helper()
	parsed, err := parser.ParseFile(token.NewFileSet(), "../impl/"+file, nil, 0)
	if err != nil {
		t.Fatal(err)
	}
	for _, d := range parsed.Decls {
		if g, ok := d.(*ast.GenDecl); ok && g.Tok == token.VAR {
			t.Error("kept at package level")
		}
	}
}

func TestLineNeverPanics(t *testing.T) {
	m := mixer(258)
	wild := []int64{leastInt, leastInt + 1, -1 << 32, -65, -2, -1, 0, 1, 2, 3, 4, 5, 15, 16, 17, 19, 20, 21, 63, 64, 65, 255, 256, 1023, 1024, 1025, 4096, 999999, 1000000, 1000001, 1 << 31, 1 << 32, 1<<32 + 1, 1 << 62, mostInt - 1, mostInt}
	pick := func() int64 {
		if m.pick(0, 2) > 0 {
			return m.pick(0, 6)
		}
		return wild[m.pick(0, int64(len(wild)-1))]
	}
	texts := []string{"", "a", "ab", "abc", "\x00\xff", unlikeBytes(64), unlikeBytes(1024), unlikeBytes(1025), unlikeBytes(2048), unlikeBytes(2049)}
	text := func() string { return texts[m.pick(0, int64(len(texts)-1))] }
	for range 20000 {
		g := m.someGather()
		var offers []impl.Offer
		var letters []impl.Message
		var known, fates []int64
		for range m.pick(0, 4) {
			g.Open, g.Done = append(g.Open, pick())[:max(1, len(g.Open))], append(g.Done, pick())[:max(1, len(g.Done))]
			g.Parts = append(g.Parts, impl.Part{Id: pick(), Number: pick(), Last: m.pick(0, 1) == 0, Body: text()})[:max(1, len(g.Parts))]
			offers = append(offers, offerOf(pick(), pick(), pick()))
			letters = append(letters, letterOf(pick(), text()))
			known, fates = append(known, pick()), append(fates, pick())
		}
		askLine(t, offers, known, g, impl.Part{Id: pick(), Number: pick(), Last: m.pick(0, 1) == 0, Body: text()})
		askTransfer(t, letters, pick(), fates, pick())
		askTransfer(t, letters, 1024, m.list(int(m.pick(0, 9)), 0, 3), m.pick(0, 4))
	}
	huge := impl.Gather{Open: make([]int64, 1<<16), Done: make([]int64, 1<<16), Parts: make([]impl.Part, 1<<16)}
	askLine(t, make([]impl.Offer, 1<<16), make([]int64, 1<<16), huge, part(5, 0, strings.Repeat("x", 1<<20)))
	askLine(t, nil, nil, impl.Gather{Open: []int64{0}, Parts: huge.Parts}, part(5, 0, ""))
	askLine(t, []impl.Offer{offerOf(5, huge.Open...)}, huge.Done[:64], impl.Gather{}, part(5, 0, ""))
	askTransfer(t, make([]impl.Message, 1<<16), 1, huge.Done, mostInt)
	askTransfer(t, []impl.Message{letterOf(1, strings.Repeat("x", 1<<20))}, mostInt, huge.Done[:4096], 20)
}

func askLine(t *testing.T, offers []impl.Offer, known []int64, g impl.Gather, p impl.Part) {
	t.Helper()
	what := fmt.Sprintf("%d offers, %d known, %s, %s", len(offers), len(known), briefGather(g), briefPart(p))
	defer wantNoPanic(t, what)
	wantLists(t, what, impl.Agree(offers, known), plainAgree(offers, known))
	wantPieces(t, p.Id, p.Body, p.Number)
	wantAnswer(t, what, impl.GatherOk(g), plainGatherOk(g))
	receive(t, g, p)
}

func askTransfer(t *testing.T, letters []impl.Message, size int64, fates []int64, rounds int64) {
	t.Helper()
	defer wantNoPanic(t, []any{len(letters), size, brief(fates), rounds})
	transfer(t, letters, size, fates, rounds)
}
