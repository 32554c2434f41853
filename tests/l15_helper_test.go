package tests

import (
	"cmp"
	"fmt"
	"slices"
	"strings"
	"testing"

	"loop.example/g00050/impl"
)

func offerOf(id int64, forms ...int64) impl.Offer { return impl.Offer{Id: id, Forms: forms} }

func isPlainOffer(o impl.Offer) bool {
	times := map[int64]int{}
	for _, form := range o.Forms {
		times[form]++
		if times[form] > 1 || form < 0 || form > 3 {
			return false
		}
	}
	return o.Id >= 1 && o.Id <= 255 && len(o.Forms) <= 4
}

func plainAgree(offers []impl.Offer, known []int64) []int64 {
	if len(offers) > 64 || len(known) > 64 {
		return nil
	}
	var list []int64
	ahead := map[int64]bool{}
	for _, o := range offers {
		form := int64(-1)
		for k := len(o.Forms) - 1; k >= 0; k-- {
			if slices.Contains(known, o.Forms[k]) && isPlainOffer(o) && !ahead[o.Id] {
				form = o.Forms[k]
			}
		}
		ahead[o.Id] = true
		list = append(list, form)
	}
	return list
}

func wantAgreed(t *testing.T, what any, offers []impl.Offer, known []int64, want ...int64) {
	t.Helper()
	wantLists(t, what, impl.Agree(offers, known), want)
	wantLists(t, []any{"the test's own reckoning", what}, plainAgree(offers, known), want)
}

// part is one that is not Last, lastPart one that is.
func part(id, number int64, body string) impl.Part {
	return impl.Part{Id: id, Number: number, Body: body}
}

func lastPart(id, number int64, body string) impl.Part {
	return impl.Part{Id: id, Number: number, Last: true, Body: body}
}

func letterOf(id int64, body string) impl.Message { return impl.Message{Id: id, Body: body} }

func plainPieces(id int64, message string, size int64) []impl.Part {
	if !liesFrom(id, 0, 1000000) || !liesFrom(size, 1, 1024) || len(message) > 2048 {
		return nil
	}
	var list []impl.Part
	for int64(len(message)) > size {
		list = append(list, part(id, int64(len(list)), message[:size]))
		message = message[size:]
	}
	list = append(list, lastPart(id, int64(len(list)), message))
	if len(list) > 64 {
		return nil
	}
	return list
}

func isPlainPart(p impl.Part) bool {
	return liesFrom(p.Id, 0, 1000000) && liesFrom(p.Number, 0, 63) && len(p.Body) <= 1024
}

// partsWith are the parts of an Id, in the order in which they stand.
func partsWith(parts []impl.Part, id int64) []impl.Part {
	var own []impl.Part
	for _, p := range parts {
		if p.Id == id {
			own = append(own, p)
		}
	}
	return own
}

func bytesInAll(parts []impl.Part) int {
	count := 0
	for _, p := range parts {
		count += len(p.Body)
	}
	return count
}

// isPlainlyWhole looks for each Number from 0 to that of the Last one.
func isPlainlyWhole(parts []impl.Part) bool {
	for _, last := range parts {
		if !last.Last {
			continue
		}
		for number := int64(0); number <= last.Number; number++ {
			if !slices.ContainsFunc(parts, func(p impl.Part) bool { return p.Number == number }) {
				return false
			}
		}
		return true
	}
	return false
}

func plainGatherOk(g impl.Gather) bool {
	if len(g.Open) > 16 || len(g.Done) > 4096 {
		return false
	}
	times := map[int64]int{}
	for _, id := range slices.Concat(g.Open, g.Done) {
		times[id]++
		if times[id] > 1 || id < 0 || id > 1000000 {
			return false
		}
	}
	for k, p := range g.Parts {
		place := slices.Index(g.Open, p.Id)
		if place < 0 || !isPlainPart(p) {
			return false
		}
		if k > 0 && cmp.Or(cmp.Compare(slices.Index(g.Open, g.Parts[k-1].Id), place), cmp.Compare(g.Parts[k-1].Number, p.Number)) >= 0 {
			return false
		}
	}
	for _, id := range g.Open {
		if !isPlainlyOpen(partsWith(g.Parts, id)) {
			return false
		}
	}
	return true
}

func isPlainlyOpen(parts []impl.Part) bool {
	lasts := 0
	for _, last := range parts {
		if !last.Last {
			continue
		}
		lasts++
		for _, p := range parts {
			if p.Number > last.Number {
				return false
			}
		}
	}
	return len(parts) > 0 && lasts <= 1 && bytesInAll(parts) <= 2048 && !isPlainlyWhole(parts)
}

// goesWith says whether p goes with the parts of its Id that are kept.
func goesWith(own []impl.Part, p impl.Part) bool {
	for _, k := range own {
		switch {
		case k.Number == p.Number, k.Last && p.Last, k.Last && p.Number > k.Number, p.Last && k.Number > p.Number:
			return false
		}
	}
	return bytesInAll(own)+len(p.Body) <= 2048
}

func plainReceive(g impl.Gather, p impl.Part) (impl.Gather, []impl.Message) {
	out := cloneGather(g)
	own := partsWith(g.Parts, p.Id)
	if !plainGatherOk(g) || !isPlainPart(p) || slices.Contains(g.Done, p.Id) || !goesWith(own, p) || len(own) == 0 && len(g.Open) == 16 {
		return out, nil
	}
	own = append(own, p)
	slices.SortFunc(own, func(a, b impl.Part) int { return cmp.Compare(a.Number, b.Number) })
	if len(own) == 1 {
		out.Open = append(out.Open, p.Id)
	}
	all := map[int64][]impl.Part{}
	for _, id := range out.Open {
		all[id] = partsWith(g.Parts, id)
	}
	all[p.Id] = own
	var told []impl.Message
	if isPlainlyWhole(own) {
		text := letterOf(p.Id, "")
		for _, k := range own {
			text.Body += k.Body
		}
		told = append(told, text)
		out.Open = slices.DeleteFunc(out.Open, func(id int64) bool { return id == p.Id })
		out.Done = append(out.Done, p.Id)
		out.Done = out.Done[max(0, len(out.Done)-4096):]
	}
	out.Parts = nil
	for _, id := range out.Open {
		out.Parts = append(out.Parts, all[id]...)
	}
	return out, told
}

func cloneGather(g impl.Gather) impl.Gather {
	return impl.Gather{Open: slices.Clone(g.Open), Done: slices.Clone(g.Done), Parts: slices.Clone(g.Parts)}
}

func sameGather(a, b impl.Gather) bool {
	return slices.Equal(a.Open, b.Open) && slices.Equal(a.Done, b.Done) && slices.Equal(a.Parts, b.Parts)
}

func briefPart(p impl.Part) string {
	last := ""
	if p.Last {
		last = " last"
	}
	return fmt.Sprintf("{%d %d%s %.10q of %d}", p.Id, p.Number, last, p.Body, len(p.Body))
}

func briefGather(g impl.Gather) string {
	var parts []string
	for _, p := range g.Parts[:min(len(g.Parts), 20)] {
		parts = append(parts, briefPart(p))
	}
	return fmt.Sprintf("open %s, %d done %s, %d parts %s", brief(g.Open), len(g.Done), brief(g.Done), len(g.Parts), strings.Join(parts, " "))
}

func briefLetters(list []impl.Message) string {
	var texts []string
	for _, letter := range list[:min(len(list), 20)] {
		texts = append(texts, fmt.Sprintf("{%d %.10q of %d}", letter.Id, letter.Body, len(letter.Body)))
	}
	return fmt.Sprintf("%d %s", len(list), strings.Join(texts, " "))
}

func wantGather(t *testing.T, what any, got, want impl.Gather) {
	t.Helper()
	if !sameGather(got, want) {
		t.Errorf("%v:\n%s\nwant\n%s", what, briefGather(got), briefGather(want))
	}
}

func wantLetters(t *testing.T, what any, got, want []impl.Message) {
	t.Helper()
	if !slices.Equal(got, want) {
		t.Errorf("%v: %s, want %s", what, briefLetters(got), briefLetters(want))
	}
}

func wantParts(t *testing.T, what any, got, want []impl.Part) {
	t.Helper()
	if !slices.Equal(got, want) {
		t.Errorf("%v: %s, want %s", what, briefGather(impl.Gather{Parts: got}), briefGather(impl.Gather{Parts: want}))
	}
}

// receive has a part arrive, holds all of it against the test's own reckoning, and asks that a right receiver stays right.
func receive(t *testing.T, g impl.Gather, p impl.Part) (impl.Gather, []impl.Message) {
	t.Helper()
	was := cloneGather(g)
	got, told := impl.Receive(g, p)
	want, wantTold := plainReceive(was, p)
	wantGather(t, briefPart(p), got, want)
	wantLetters(t, briefPart(p), told, wantTold)
	wantGather(t, "what was handed in", g, was)
	if plainGatherOk(was) && !impl.GatherOk(got) {
		t.Errorf("%s leaves what is not right: %s", briefPart(p), briefGather(got))
	}
	return got, told
}

// wantKept asks for a part that is kept, with nothing told.
func wantKept(t *testing.T, g impl.Gather, p impl.Part) impl.Gather {
	t.Helper()
	got, told := receive(t, g, p)
	if len(told) != 0 || len(got.Parts) != len(g.Parts)+1 || !slices.Contains(got.Parts, p) || !slices.Contains(got.Open, p.Id) {
		t.Errorf("%s is not kept: %s, and told %s", briefPart(p), briefGather(got), briefLetters(told))
	}
	return got
}

// wantWhole asks for a part that makes a message whole, with that Body.
func wantWhole(t *testing.T, g impl.Gather, p impl.Part, body string) impl.Gather {
	t.Helper()
	got, told := receive(t, g, p)
	wantLetters(t, briefPart(p), told, []impl.Message{letterOf(p.Id, body)})
	if slices.Contains(got.Open, p.Id) || len(partsWith(got.Parts, p.Id)) > 0 || len(got.Done) == 0 || got.Done[len(got.Done)-1] != p.Id {
		t.Errorf("%s is not done: %s", briefPart(p), briefGather(got))
	}
	return got
}

// wantUnmoved asks for the receiver as it came, and nothing.
func wantUnmoved(t *testing.T, g impl.Gather, p impl.Part) {
	t.Helper()
	got, told := receive(t, g, p)
	wantGather(t, briefPart(p), got, g)
	wantLetters(t, briefPart(p), told, nil)
}

// gatherOf is a receiver that has these parts, which stand as they should, and these Ids done.
func gatherOf(done []int64, parts ...impl.Part) impl.Gather {
	g := impl.Gather{Done: slices.Clone(done), Parts: slices.Clone(parts)}
	for _, p := range parts {
		if !slices.Contains(g.Open, p.Id) {
			g.Open = append(g.Open, p.Id)
		}
	}
	return g
}

// idsFrom are so many Ids, rising by 1.
func idsFrom(first int64, count int) []int64 {
	list := make([]int64, count)
	for k := range list {
		list[k] = first + int64(k)
	}
	return list
}

// fullGather has 16 open messages, of the Ids 0 to 15, each with part number 1.
func fullGather() impl.Gather {
	var g impl.Gather
	for _, id := range idsFrom(0, 16) {
		g.Open = append(g.Open, id)
		g.Parts = append(g.Parts, part(id, 1, fmt.Sprint("one of ", id)))
	}
	return g
}

// richGather has messages of which the beginning, the middle or the end is missing, one that knows its end and one that does not.
func richGather() impl.Gather {
	return gatherOf([]int64{500, 3, 1000000},
		part(40, 0, "a"), part(40, 2, "c"), lastPart(40, 4, "e"),
		part(7, 1, "two"), part(7, 2, ""),
		lastPart(900000, 63, "end"),
		part(8, 0, "b"), lastPart(8, 2, "d"),
		part(0, 63, strings.Repeat("x", 1024)))
}

func areLettersOf(letters []impl.Message, size int64) bool {
	times := map[int64]int{}
	for _, letter := range letters {
		times[letter.Id]++
		if times[letter.Id] > 1 || plainPieces(letter.Id, letter.Body, size) == nil {
			return false
		}
	}
	return len(letters) <= 16
}

// plainTransfer makes the rounds with the test's own receiver, two lists a round.
func plainTransfer(letters []impl.Message, size int64, fates []int64, rounds int64) ([]impl.Message, []impl.Message, int64) {
	if !areLettersOf(letters, size) || len(fates) > 4096 || !allLieFrom(fates, 0, 3) || !liesFrom(rounds, 0, 20) {
		return nil, nil, 0
	}
	var g impl.Gather
	var told []impl.Message
	sent := 0
	for ; rounds > 0; rounds-- {
		var others, late []impl.Part
		for _, letter := range letters {
			if slices.Contains(told, letter) {
				continue
			}
			for _, p := range plainPieces(letter.Id, letter.Body, size) {
				fate := int64(0)
				if sent < len(fates) {
					fate = fates[sent]
				}
				sent++
				others = append(others, map[int64][]impl.Part{0: {p}, 2: {p, p}}[fate]...)
				late = append(late, map[int64][]impl.Part{3: {p}}[fate]...)
			}
		}
		for _, p := range append(others, late...) {
			var now []impl.Message
			g, now = plainReceive(g, p)
			told = append(told, now...)
		}
	}
	rest := slices.DeleteFunc(slices.Clone(letters), func(letter impl.Message) bool { return slices.Contains(told, letter) })
	return told, rest, int64(sent)
}

// transfer sends letters, holds all of it against the test's own reckoning, and asks what is promised whatever the fates.
func transfer(t *testing.T, letters []impl.Message, size int64, fates []int64, rounds int64) ([]impl.Message, []impl.Message, int64) {
	t.Helper()
	what := fmt.Sprintf("letters %s, size %d, fates %s, rounds %d", briefLetters(letters), size, brief(fates), rounds)
	told, rest, sent := impl.Transfer(letters, size, fates, rounds)
	wantToldLetters, wantRest, wantSent := plainTransfer(letters, size, fates, rounds)
	wantLetters(t, what, told, wantToldLetters)
	wantLetters(t, what, rest, wantRest)
	wantNumber(t, what, sent, wantSent)
	times := map[impl.Message]int{}
	for _, letter := range slices.Concat(told, rest) {
		times[letter]++
		if times[letter] > 1 || !slices.Contains(letters, letter) {
			t.Errorf("%s: not once, or not as it was: %d", what, letter.Id)
		}
	}
	return told, rest, sent
}

// wantSent asks for the Ids of what was told, of what was not, and how many parts were sent.
func wantSent(t *testing.T, letters []impl.Message, size int64, fates []int64, rounds int64, told, rest []int64, sent int64) {
	t.Helper()
	gotTold, gotRest, gotSent := transfer(t, letters, size, fates, rounds)
	wantLists(t, []any{"told", brief(fates), rounds}, idsOf(gotTold), told)
	wantLists(t, []any{"rest", brief(fates), rounds}, idsOf(gotRest), rest)
	wantNumber(t, []any{"sent", brief(fates), rounds}, gotSent, sent)
}

func idsOf(letters []impl.Message) []int64 {
	var ids []int64
	for _, letter := range letters {
		ids = append(ids, letter.Id)
	}
	return ids
}

// wantNothingSent asks for nothing, nothing and 0.
func wantNothingSent(t *testing.T, letters []impl.Message, size int64, fates []int64, rounds int64) {
	t.Helper()
	wantSent(t, letters, size, fates, rounds, nil, nil, 0)
}
