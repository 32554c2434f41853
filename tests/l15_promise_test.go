package tests

import (
	"slices"
	"strings"
	"testing"

	"loop.example/g00050/impl"
)

// somePart is a part that a receiver of few Ids will often keep.
func (m *mixer) somePart() impl.Part {
	p := impl.Part{Id: m.pick(0, 20), Number: m.pick(0, 3), Last: m.pick(0, 3) == 0, Body: strings.Repeat("p", int(m.pick(0, 3)*m.pick(0, 300)))}
	if m.pick(0, 30) == 0 {
		p.Number = m.pick(-1, 65)
	}
	if m.pick(0, 30) == 0 {
		p.Id = m.pick(-1, 1000001)
	}
	if m.pick(0, 30) == 0 {
		p.Body = strings.Repeat("q", int(m.pick(1000, 1030)))
	}
	return p
}

// A receiver stays right behind every part, whatever arrives, and tells a message only with parts that arrived.
func TestReceiversStepByStep(t *testing.T) {
	m := mixer(254)
	tolds, most := 0, 0
	for range 300 {
		var g impl.Gather
		var arrived []impl.Part
		for range 150 {
			p := m.somePart()
			arrived = append(arrived, p)
			wasDone := slices.Contains(g.Done, p.Id)
			var told []impl.Message
			g, told = receive(t, g, p)
			if len(told) > 1 || wasDone && len(told) > 0 {
				t.Error("told again", briefPart(p))
			}
			for _, letter := range told {
				tolds++
				if letter.Id != p.Id || !isJoinedOf(letter, arrived) {
					t.Error("told what never came", briefLetters(told))
				}
			}
			most = max(most, len(g.Open))
		}
	}
	if tolds < 300 || most != 16 {
		t.Error("one-sided", tolds, most)
	}
}

// isJoinedOf says whether a message's Body can be made of parts of its Id that arrived: numbers 0, 1 and so on, to a Last one.
func isJoinedOf(letter impl.Message, arrived []impl.Part) bool {
	own := partsWith(arrived, letter.Id)
	var follows func(number int64, rest string) bool
	follows = func(number int64, rest string) bool {
		for _, p := range own {
			if p.Number != number || !strings.HasPrefix(rest, p.Body) {
				continue
			}
			left := rest[len(p.Body):]
			if p.Last && left == "" || !p.Last && follows(number+1, left) {
				return true
			}
		}
		return false
	}
	return follows(0, letter.Body)
}

// A receiver whose done ones are near their limit stays right, and forgets the first alone.
func TestFullReceiversStepByStep(t *testing.T) {
	m := mixer(255)
	full := 0
	for round := range 12 {
		g := fullGather()
		g.Open, g.Parts = g.Open[:round], g.Parts[:round]
		g.Done = idsFrom(1000, 4085+round)
		for k := range int64(60) {
			p := m.somePart()
			switch m.pick(0, 4) {
			case 0:
				p = lastPart(5000+k+100*int64(round), 0, "whole at once")
			case 1:
				p = lastPart(1000+k, 0, "new again, perhaps")
			}
			was := g.Done
			var told []impl.Message
			g, told = receive(t, g, p)
			want := slices.Concat(was, idsOf(told))
			wantLists(t, briefPart(p), g.Done, want[max(0, len(want)-4096):])
		}
		if len(g.Done) == 4096 {
			full++
		}
	}
	if full < 6 {
		t.Error("one-sided", full)
	}
}

// lettersForPromise are letters of unlike lengths: none, of one part, of several just so, of 64.
func lettersForPromise() []impl.Message {
	return []impl.Message{letterOf(1000000, ""), letterOf(0, unlikeBytes(32)), letterOf(17, unlikeBytes(33)), letterOf(5, unlikeBytes(96)), letterOf(6, unlikeBytes(2048)), letterOf(7, unlikeBytes(2047)[1:])}
}

// Whatever the fates, each letter is told at most once, with its own bytes; and at least once when there is a round without fates.
func TestEachLetterOnce(t *testing.T) {
	m := mixer(256)
	letters := lettersForPromise()
	for _, size := range []int64{32, 33, 100, 1000, 1024} {
		parts := 0
		for _, letter := range letters {
			parts += len(impl.Pieces(letter.Id, letter.Body, size))
		}
		for rounds := int64(1); rounds <= 6; rounds++ {
			count := min(4096, parts*int(rounds))
			wantPromised(t, letters, size, m.list(count, 0, 3), rounds)
			wantPromised(t, letters, size, m.list(count, 0, 1), rounds+1)
			wantPromised(t, letters, size, m.list(count, 1, 3), rounds+3)
			// So many rounds of nothing but loss, and one behind them.
			fates := alike(lost, count)
			wantSent(t, letters, size, fates, rounds, nil, idsOf(letters), int64(count))
			wantSent(t, letters, size, fates, rounds+1, idsOf(letters), nil, int64(count+parts))
			told, _, _ := impl.Transfer(letters, size, fates, rounds+1)
			wantLetters(t, []any{size, rounds}, told, letters)
		}
	}
}

// What a receiver tells of pieces is the message, in whatever order they arrive and however often.
func TestPiecesThereAndBack(t *testing.T) {
	m := mixer(257)
	for _, length := range []int{0, 1, 2, 31, 32, 33, 64, 500, 1023, 1024, 1025, 2047, 2048} {
		for _, size := range []int64{32, 33, 500, 1023, 1024} {
			message := string(m.someBytes(length))
			pieces := impl.Pieces(9, message, size)
			var all []impl.Part
			for range 4 {
				all = append(all, pieces...)
			}
			for k := range all {
				other := m.pick(0, int64(k))
				all[k], all[other] = all[other], all[k]
			}
			var g impl.Gather
			var told []impl.Message
			for _, p := range all {
				var now []impl.Message
				g, now = receive(t, g, p)
				told = append(told, now...)
			}
			wantLetters(t, []any{length, size}, told, []impl.Message{letterOf(9, message)})
			wantGather(t, []any{length, size}, g, impl.Gather{Done: []int64{9}})
		}
	}
}
