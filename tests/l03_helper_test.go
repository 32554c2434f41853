package tests

import (
	"regexp"
	"slices"
	"strconv"
	"strings"
	"testing"
	"time"

	"loop.example/g00050/impl"
)

func rf(axis, n int64) impl.Pulse { return impl.Pulse{Kind: impl.PuRf, Axis: axis, N: n} }
func grad(axis, n, ticks int64) impl.Pulse {
	return impl.Pulse{Kind: impl.PuGrad, Axis: axis, N: n, Ticks: ticks}
}
func read(n int64) impl.Pulse { return impl.Pulse{Kind: impl.PuRead, N: n} }
func wait(n int64) impl.Pulse { return impl.Pulse{Kind: impl.PuWait, N: n} }
func at(n int64) impl.Pulse   { return impl.Pulse{Kind: impl.PuAt, N: n} }
func loop(n int64) impl.Pulse { return impl.Pulse{Kind: impl.PuLoop, N: n} }
func end() impl.Pulse         { return impl.Pulse{Kind: impl.PuEnd} }

// looped are the orders as the body of a loop.
func looped(n int64, body ...impl.Pulse) []impl.Pulse {
	return append(append([]impl.Pulse{loop(n)}, body...), end())
}

// nested are the orders within so many loops of n turns each.
func nested(deep int, n int64, body ...impl.Pulse) []impl.Pulse {
	for range deep {
		body = looped(n, body...)
	}
	return body
}

// orderRange is what the document's table says of one kind.
type orderRange struct {
	word                  string
	axes                  string
	leastN, mostN         int64
	leastTicks, mostTicks int64
}

// orderRanges is that table, by the kinds' numbers.
func orderRanges() map[int64]orderRange {
	return map[int64]orderRange{
		1: {word: "rf", axes: "xyz", leastN: 1, mostN: 3},
		2: {word: "grad", axes: "xy", leastN: -1000, mostN: 1000, leastTicks: 1, mostTicks: 10000},
		3: {word: "read", leastN: 1, mostN: 256},
		4: {word: "wait", leastN: 1, mostN: 10000},
		5: {word: "at", leastN: 0, mostN: 100000},
		6: {word: "loop", leastN: 1, mostN: 64},
		7: {word: "end"},
	}
}

// order is some right order that is neither loop nor end.
func (m *mixer) order() impl.Pulse {
	switch m.pick(1, 6) {
	case 1:
		return rf(m.pick(1, 3), m.pick(1, 3))
	case 2:
		return grad(m.pick(1, 2), m.pick(-1000, 1000), m.pick(1, 9))
	case 3:
		return read(m.pick(1, 9))
	case 4:
		return at(m.pick(0, 300))
	}
	return wait(m.pick(1, 20))
}

// orders are at most some n orders that are a sequence, with at most deep loops open at one time.
func (m *mixer) orders(n int, deep int) []impl.Pulse {
	var list []impl.Pulse
	for len(list) < n {
		if deep > 0 && m.pick(1, 6) == 1 {
			list = append(list, looped(m.pick(1, 4), m.orders(int(m.pick(0, 3)), deep-1)...)...)
			continue
		}
		list = append(list, m.order())
	}
	return list
}

// piece is a word of a text, and where it begins.
type piece struct {
	text  string
	start int
}

func piecesOf(text string, from int) []piece {
	var list []piece
	for _, span := range regexp.MustCompile(`[^ ]+`).FindAllStringIndex(text, -1) {
		list = append(list, piece{text[span[0]:span[1]], from + span[0]})
	}
	return list
}

var wholeForm = regexp.MustCompile(`^(0|-?[1-9][0-9]{0,8})$`)

// slotFits says whether a word is what should stand at its place in an order, and what it stands for.
func slotFits(word string, slot int, r orderRange) (int64, bool) {
	if r.axes != "" && slot == 0 {
		axis := strings.Index(r.axes, word)
		return int64(axis) + 1, len(word) == 1 && axis >= 0
	}
	if !wholeForm.MatchString(word) {
		return 0, false
	}
	n, _ := strconv.ParseInt(word, 10, 64)
	if r.axes != "" && slot == 2 {
		return n, r.leastTicks <= n && n <= r.mostTicks
	}
	return n, r.leastN <= n && n <= r.mostN
}

// parseOne reads one order that has words; ahead are so many orders, open so many loops.
func parseOne(words []piece, ahead, open int) (impl.Pulse, impl.SeqFault) {
	begin := int64(words[0].start)
	if ahead >= 400 {
		return impl.Pulse{}, impl.SeqFault{Code: 7, At: begin}
	}
	for kind, r := range orderRanges() {
		if r.word != words[0].text {
			continue
		}
		slots := map[int64]int{1: 2, 2: 3, 7: 0}
		many, listed := slots[kind]
		if !listed {
			many = 1
		}
		got := [3]int64{}
		for slot := range many {
			last := words[min(slot, len(words)-1)]
			if slot+1 >= len(words) {
				return impl.Pulse{}, impl.SeqFault{Code: 3, At: int64(last.start + len(last.text))}
			}
			n, ok := slotFits(words[slot+1].text, slot, r)
			if !ok {
				return impl.Pulse{}, impl.SeqFault{Code: 3, At: int64(words[slot+1].start)}
			}
			got[slot] = n
		}
		if len(words) > many+1 {
			return impl.Pulse{}, impl.SeqFault{Code: 3, At: int64(words[many+1].start)}
		}
		if kind == 7 && open == 0 {
			return impl.Pulse{}, impl.SeqFault{Code: 4, At: begin}
		}
		if kind == 6 && open == 8 {
			return impl.Pulse{}, impl.SeqFault{Code: 5, At: begin}
		}
		if many > 1 {
			return impl.Pulse{Kind: kind, Axis: got[0], N: got[1], Ticks: got[2]}, impl.SeqFault{}
		}
		return impl.Pulse{Kind: kind, N: got[0]}, impl.SeqFault{}
	}
	return impl.Pulse{}, impl.SeqFault{Code: 2, At: begin}
}

// parsed is what the document says of a text, found by cutting it at its semicolons first.
func parsed(text string) ([]impl.Pulse, impl.SeqFault) {
	if len(text) > 4096 {
		return nil, impl.SeqFault{Code: 1}
	}
	if strings.Trim(text, " ") == "" {
		return nil, impl.SeqFault{}
	}
	var list []impl.Pulse
	from, open := 0, 0
	for _, part := range strings.Split(text, ";") {
		words := piecesOf(part, from)
		from += len(part) + 1
		if len(words) == 0 {
			return nil, impl.SeqFault{Code: 2, At: int64(from - 1)}
		}
		p, fault := parseOne(words, len(list), open)
		if fault.Code != 0 {
			return nil, fault
		}
		switch p.Kind {
		case 6:
			open++
		case 7:
			open--
		}
		list = append(list, p)
	}
	if open > 0 {
		return nil, impl.SeqFault{Code: 6, At: int64(len(text))}
	}
	return list, impl.SeqFault{}
}

// ticksOf is how long an order that is no at takes.
func ticksOf(p impl.Pulse) int64 {
	switch p.Kind {
	case impl.PuRf:
		return 2
	case impl.PuGrad:
		return p.Ticks
	}
	return p.N
}

// unrolled plays a sequence by jumping back at each end, with a counter for each open loop.
func unrolled(ps []impl.Pulse) ([]impl.Timed, int64, int64) {
	type turn struct {
		back int
		left int64
	}
	var list []impl.Timed
	var open []turn
	now, lastRf := int64(0), int64(-4)
	for i := 0; i < len(ps); i++ {
		p := ps[i]
		switch p.Kind {
		case impl.PuLoop:
			open = append(open, turn{i, p.N})
			continue
		case impl.PuEnd:
			top := &open[len(open)-1]
			top.left--
			if top.left > 0 {
				i = top.back
			} else {
				open = open[:len(open)-1]
			}
			continue
		}
		ends := now + ticksOf(p)
		if p.Kind == impl.PuAt {
			ends = p.N
		}
		switch {
		case len(list) == 2000:
			return nil, now, 2
		case p.Kind == impl.PuAt && now > p.N:
			return nil, now, 3
		case p.Kind == impl.PuRf && now-lastRf < 4:
			return nil, now, 4
		case ends > 100000:
			return nil, now, 5
		}
		if p.Kind == impl.PuRf {
			lastRf = now
		}
		list = append(list, impl.Timed{Tick: now, Pulse: p})
		now = ends
	}
	return list, now, 0
}

// quarterTurns has for each axis the document's turn by one quarter, as a matrix.
var quarterTurns = map[int64][3][3]int64{
	impl.AxX: {{1, 0, 0}, {0, 0, -1}, {0, 1, 0}},
	impl.AxY: {{0, 0, 1}, {0, 1, 0}, {-1, 0, 0}},
	impl.AxZ: {{0, -1, 0}, {1, 0, 0}, {0, 0, 1}},
}

func turned(spin [3]int64, axis, quarters int64) [3]int64 {
	for range quarters {
		var next [3]int64
		for row := range 3 {
			for column := range 3 {
				next[row] += quarterTurns[axis][row][column] * spin[column]
			}
		}
		spin = next
	}
	return spin
}

// sampled is the path of what was unrolled.
func sampled(list []impl.Timed) []impl.Sample {
	var path []impl.Sample
	spin, place := [3]int64{0, 0, 1}, map[int64]int64{}
	for _, t := range list {
		p := t.Pulse
		switch p.Kind {
		case impl.PuRf:
			spin = turned(spin, p.Axis, p.N)
			if p.Axis != impl.AxZ {
				factor := map[int64]int64{1: 0, 2: -1, 3: 0}[p.N]
				place[impl.AxX] *= factor
				place[impl.AxY] *= factor
			}
		case impl.PuGrad:
			place[p.Axis] += p.N
		case impl.PuRead:
			for i := range p.N {
				path = append(path, impl.Sample{Tick: t.Tick + i, KX: place[impl.AxX] + i, KY: place[impl.AxY], SX: spin[0], SY: spin[1]})
			}
			place[impl.AxX] += p.N
		}
	}
	if len(path) > 8192 {
		return nil
	}
	return path
}

// parse is the orders of a text that must be right.
func parse(t *testing.T, text string) []impl.Pulse {
	t.Helper()
	ps, fault := impl.ParseSeq(text)
	if fault != (impl.SeqFault{}) {
		t.Fatalf("ParseSeq(%q) tells %v", text, fault)
	}
	return ps
}

// wantUnroll asks Unroll for an answer, list included.
func wantUnroll(t *testing.T, what any, ps []impl.Pulse, list []impl.Timed, tick, code int64) {
	t.Helper()
	got, gotTick, gotCode := impl.Unroll(ps)
	if gotTick != tick || gotCode != code || !slices.Equal(got, list) {
		t.Errorf("Unroll of %v has %d orders, %d, %d, want %d orders, %d, %d", what, len(got), gotTick, gotCode, len(list), tick, code)
	}
}

// wantRun asks Unroll for a tick and a code, and nothing beside a code that is not 0.
func wantRun(t *testing.T, what any, ps []impl.Pulse, tick, code int64) {
	t.Helper()
	got, gotTick, gotCode := impl.Unroll(ps)
	if gotTick != tick || gotCode != code || (code != 0 && len(got) != 0) {
		t.Errorf("Unroll of %v has %d orders, %d, %d, want %d, %d", what, len(got), gotTick, gotCode, tick, code)
	}
}

// wantSoon fails at once where a call does not end.
func wantSoon(t *testing.T, what any, call func()) {
	t.Helper()
	done := make(chan bool)
	go func() {
		defer close(done)
		call()
	}()
	select {
	case <-done:
	case <-time.After(20 * time.Second):
		t.Fatalf("%v does not end", what)
	}
}
