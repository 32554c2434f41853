package tests

import (
	"slices"
	"strings"
	"testing"

	"loop.example/g00050/impl"
)

func TestPulseConstants(t *testing.T) {
	got := []int64{
		impl.PuRf, impl.PuGrad, impl.PuRead, impl.PuWait, impl.PuAt, impl.PuLoop, impl.PuEnd,
		impl.AxX, impl.AxY, impl.AxZ,
		impl.SeqLong, impl.SeqWord, impl.SeqNumber, impl.SeqEnd, impl.SeqNest, impl.SeqOpen, impl.SeqMany,
		impl.RunBad, impl.RunMany, impl.RunLate, impl.RunNear, impl.RunTicks,
		impl.MaxStep, impl.MaxWait, impl.MaxRead, impl.MaxLoop, impl.MaxNest, impl.MaxSeq, impl.MaxOrders, impl.MaxTimed, impl.MaxTicks, impl.MaxSamples, impl.RfGap,
	}
	want := []int64{
		1, 2, 3, 4, 5, 6, 7,
		1, 2, 3,
		1, 2, 3, 4, 5, 6, 7,
		1, 2, 3, 4, 5,
		1000, 10000, 256, 64, 8, 4096, 400, 2000, 100000, 8192, 4,
	}
	if !slices.Equal(got, want) {
		t.Error(got)
	}
}

// edges are both ends of a range, what lies next to them, and what a careless check lets through.
func edges(least, most int64) []int64 {
	return []int64{least - 1, least, least + 1, most - 1, most, most + 1, 0, 1, -1, leastInt, mostInt, least + 1<<32, most - 1<<32}
}

func TestPulseLimits(t *testing.T) {
	for kind, r := range orderRanges() {
		axes := int64(len(r.axes))
		right := impl.Pulse{Kind: kind, Axis: axes, N: r.mostN, Ticks: r.mostTicks}
		if !impl.PulseOk(right) {
			t.Errorf("%+v is none", right)
		}
		for _, axis := range edges(min(1, axes), axes) {
			wantPulse(t, impl.Pulse{Kind: kind, Axis: axis, N: r.mostN, Ticks: r.mostTicks}, axis >= min(1, axes) && axis <= axes)
		}
		for _, n := range edges(r.leastN, r.mostN) {
			wantPulse(t, impl.Pulse{Kind: kind, Axis: axes, N: n, Ticks: r.mostTicks}, n >= r.leastN && n <= r.mostN)
		}
		for _, ticks := range edges(r.leastTicks, r.mostTicks) {
			wantPulse(t, impl.Pulse{Kind: kind, Axis: axes, N: r.mostN, Ticks: ticks}, ticks >= r.leastTicks && ticks <= r.mostTicks)
		}
	}
}

func wantPulse(t *testing.T, p impl.Pulse, want bool) {
	t.Helper()
	if impl.PulseOk(p) != want {
		t.Errorf("PulseOk(%+v) is %v", p, !want)
	}
	if ps := []impl.Pulse{p}; p.Kind != impl.PuLoop && p.Kind != impl.PuEnd && impl.SeqOk(ps) != want {
		t.Errorf("SeqOk(%+v) is %v", ps, !want)
	}
}

func TestPulseOfNoKind(t *testing.T) {
	for _, kind := range []int64{leastInt, -7, -1, 0, 8, 9, 1 << 32, 1<<32 + 1, mostInt} {
		for _, p := range []impl.Pulse{{}, {Axis: 1, N: 1}, {Axis: 1, N: 1, Ticks: 1}, {N: 1}, {Axis: leastInt, N: mostInt, Ticks: leastInt}} {
			p.Kind = kind
			wantPulse(t, p, false)
		}
	}
}

func TestParseRight(t *testing.T) {
	for text, want := range map[string][]impl.Pulse{
		"":                        nil,
		" ":                       nil,
		strings.Repeat(" ", 4096): nil,
		"rf x 1":                  {rf(impl.AxX, 1)},
		"rf y 2":                  {rf(impl.AxY, 2)},
		"  rf   z  3  ":           {rf(impl.AxZ, 3)},
		"grad x -1000 1":          {grad(impl.AxX, -1000, 1)},
		"grad y 1000 10000":       {grad(impl.AxY, 1000, 10000)},
		"grad y 0 7":              {grad(impl.AxY, 0, 7)},
		"read 1":                  {read(1)},
		"read 256":                {read(256)},
		"wait 10000":              {wait(10000)},
		"at 0":                    {at(0)},
		"at 100000":               {at(100000)},
		"loop 1;end":              {loop(1), end()},
		"loop 64 ; end ;wait 1":   {loop(64), end(), wait(1)},
		" loop 2;loop 3;end;end":  {loop(2), loop(3), end(), end()},
	} {
		wantParse(t, text, want, impl.SeqFault{})
	}
}

func wantParse(t *testing.T, text string, want []impl.Pulse, fault impl.SeqFault) {
	t.Helper()
	got, gotFault := impl.ParseSeq(text)
	if gotFault != fault || !slices.Equal(got, want) {
		t.Errorf("ParseSeq(%.60q), of %d bytes: %d orders, %v, want %d, %v", text, len(text), len(got), gotFault, len(want), fault)
	}
}

// faulty is a text whose fault lies where the sign ^ stands in mark, or behind mark if it has none.
type faulty struct {
	text string
	code int64
	mark string
}

func wantFaults(t *testing.T, list []faulty) {
	t.Helper()
	for _, f := range list {
		place := strings.IndexByte(f.mark, '^')
		if place < 0 {
			place = len(f.mark)
		}
		wantParse(t, f.text, nil, impl.SeqFault{Code: f.code, At: int64(place)})
	}
}

func TestParseEmptyOrders(t *testing.T) {
	wantFaults(t, []faulty{
		{";", impl.SeqWord, "^"},
		{"  ;", impl.SeqWord, "  ^"},
		{";;", impl.SeqWord, "^"},
		{";wait 1", impl.SeqWord, "^"},
		{"   ; wait 1", impl.SeqWord, "   ^"},
		{"wait 1;;wait 1", impl.SeqWord, "       ^"},
		{"wait 1;   ;wait 1", impl.SeqWord, "          ^"},
		{"wait 1 ;  ;  ; wait 1", impl.SeqWord, "          ^"},
		{"wait 1;", impl.SeqWord, "wait 1;"},
		{"wait 1;   ", impl.SeqWord, "wait 1;   "},
		{"wait 1 ; ; ", impl.SeqWord, "         ^"},
		{"loop 2;", impl.SeqWord, "loop 2;"},
		{"loop 2; ", impl.SeqWord, "loop 2; "},
		{"loop 2; ;", impl.SeqWord, "        ^"},
	})
}

func TestParseFirstWords(t *testing.T) {
	words := []string{"x", "1", "-", "+", "\t", "\x00", "é", "\xff", "\u00a0", "rf,", "axis", "loops"}
	for _, r := range orderRanges() {
		for cut := 1; cut < len(r.word); cut++ {
			words = append(words, r.word[:cut], r.word[cut:])
		}
		words = append(words, r.word+"s", r.word+r.word, "a"+r.word, strings.ToUpper(r.word), strings.ToUpper(r.word[:1])+r.word[1:], r.word+"\t", "\t"+r.word, r.word+"\n", r.word+"1", r.word+".", r.word+"\x00")
	}
	for _, word := range words {
		if slices.Contains([]string{"rf", "grad", "read", "wait", "at", "loop", "end"}, word) {
			continue
		}
		wantFaults(t, []faulty{
			{word, impl.SeqWord, "^"},
			{" " + word + " ", impl.SeqWord, " ^"},
			{word + " x 1", impl.SeqWord, "^"},
			{"wait 1; " + word + " 1; end", impl.SeqWord, "        ^"},
			{"wait 1;" + word + ";", impl.SeqWord, "       ^"},
		})
	}
}

func TestParseWordsBehind(t *testing.T) {
	wantFaults(t, []faulty{
		{"rf", impl.SeqNumber, "rf"},
		{"rf  ", impl.SeqNumber, "rf"},
		{"  rf  ;", impl.SeqNumber, "  rf"},
		{"rf x", impl.SeqNumber, "rf x"},
		{"rf x   ; wait 1", impl.SeqNumber, "rf x"},
		{"rf a", impl.SeqNumber, "   ^"},
		{"rf X 1", impl.SeqNumber, "   ^"},
		{"rf xy 1", impl.SeqNumber, "   ^"},
		{"rf xyz 1", impl.SeqNumber, "   ^"},
		{"rf 1 1", impl.SeqNumber, "   ^"},
		{"rf 1", impl.SeqNumber, "   ^"},
		{"rf x x", impl.SeqNumber, "     ^"},
		{"rf x 1 1", impl.SeqNumber, "       ^"},
		{"rf x 1 rf x 1", impl.SeqNumber, "       ^"},
		{"grad", impl.SeqNumber, "grad"},
		{"grad x", impl.SeqNumber, "grad x"},
		{"grad y  2", impl.SeqNumber, "grad y  2"},
		{"grad y 2  ", impl.SeqNumber, "grad y 2"},
		{"grad y 2;wait 1", impl.SeqNumber, "grad y 2"},
		{"grad z 1 1", impl.SeqNumber, "     ^"},
		{"grad  w", impl.SeqNumber, "      ^"},
		{"grad x 2 0", impl.SeqNumber, "         ^"},
		{"grad x 2 3 4", impl.SeqNumber, "           ^"},
		{"grad x 2 3   4  5", impl.SeqNumber, "             ^"},
		{"grad x 2 3 ,", impl.SeqNumber, "           ^"},
		{"grad 2 x 3", impl.SeqNumber, "     ^"},
		{"read", impl.SeqNumber, "read"},
		{"read x", impl.SeqNumber, "     ^"},
		{"read 1 1", impl.SeqNumber, "       ^"},
		{"wait", impl.SeqNumber, "wait"},
		{"wait 1 1", impl.SeqNumber, "       ^"},
		{"at", impl.SeqNumber, "at"},
		{"at 1 0", impl.SeqNumber, "     ^"},
		{"loop", impl.SeqNumber, "loop"},
		{"loop 2 2", impl.SeqNumber, "       ^"},
		{"loop 2; end 2", impl.SeqNumber, "            ^"},
		{"loop 2; end  x", impl.SeqNumber, "             ^"},
		{"wait\t1", impl.SeqWord, "^"},
		{"wait 1\t", impl.SeqNumber, "     ^"},
		{"wait \t1", impl.SeqNumber, "     ^"},
		{"wait 1\n; wait 1", impl.SeqNumber, "     ^"},
		{"loop 2\u00a0; end", impl.SeqNumber, "     ^"},
	})
}

func TestParseNumberForms(t *testing.T) {
	forms := []string{"00", "01", "-0", "-00", "-01", "+1", "+0", "-", "--1", "+", "1-", "1.", "1.0", ".1", "1e1", "0x1", "1_0", "_1", "1x", "x1", "\"1\"", "1,", "\x001", "\uff11", "1\u0661", "nil", "1\x00"}
	for _, form := range forms {
		wantFaults(t, []faulty{
			{"read " + form, impl.SeqNumber, "     ^"},
			{"wait " + form, impl.SeqNumber, "     ^"},
			{"at   " + form, impl.SeqNumber, "     ^"},
			{"loop " + form + "; end", impl.SeqNumber, "     ^"},
			{"rf x " + form, impl.SeqNumber, "     ^"},
			{"grad x " + form + " 1", impl.SeqNumber, "       ^"},
			{"grad x -1 " + form, impl.SeqNumber, "          ^"},
		})
	}
}

func TestParseNumberRanges(t *testing.T) {
	out := []string{"999999999", "-999999999", "1000000000", "-1000000000", "4294967297", "9223372036854775807", "-9223372036854775808", "9223372036854775808", "18446744073709551617", "-18446744073709551615", "100000000000000000000000000000001"}
	for head, limits := range map[string][2]string{
		"rf x ":     {"0", "4"},
		"grad x ":   {"-1001", "1001"},
		"grad y 1 ": {"0", "10001"},
		"read ":     {"0", "257"},
		"wait ":     {"0", "10001"},
		"at ":       {"-1", "100001"},
		"loop ":     {"0", "65"},
	} {
		tail := ""
		if head == "grad x " {
			tail = " 1"
		}
		for _, n := range append(slices.Clone(out), limits[0], limits[1]) {
			wantParse(t, head+n+tail, nil, impl.SeqFault{Code: impl.SeqNumber, At: int64(len(head))})
		}
	}
}

func TestParseLoops(t *testing.T) {
	deep := func(n int) string { return strings.Repeat("loop 1; ", n) }
	ends := func(n int) string { return strings.Repeat("; end", n) }
	wantParse(t, deep(8)+"wait 1"+ends(8), nested(8, 1, wait(1)), impl.SeqFault{})
	wantFaults(t, []faulty{
		{"end", impl.SeqEnd, "^"},
		{"  end", impl.SeqEnd, "  ^"},
		{"wait 1;  end", impl.SeqEnd, "         ^"},
		{"loop 2; end; end", impl.SeqEnd, "             ^"},
		{"end; loop 2", impl.SeqEnd, "^"},
		{"loop 2", impl.SeqOpen, "loop 2"},
		{"loop 2  ", impl.SeqOpen, "loop 2  "},
		{"loop 2; loop 3; end", impl.SeqOpen, "loop 2; loop 3; end"},
		{"loop 2; wait 1 ", impl.SeqOpen, "loop 2; wait 1 "},
		{deep(7) + "loop 1", impl.SeqOpen, deep(7) + "loop 1"},
		{deep(8) + " loop 1" + ends(9), impl.SeqNest, deep(8) + " ^"},
		{deep(8) + "loop 1", impl.SeqNest, deep(8)},
		{deep(8) + "end; loop 1; loop 1", impl.SeqNest, deep(8) + "end; loop 1; "},
	})
	again := deep(8) + "end; loop 1; end" + ends(7)
	if ps := parse(t, again); len(ps) != 18 {
		t.Error("a ninth loop behind the end of the eighth", len(ps))
	}
}

func TestParseLong(t *testing.T) {
	pad := func(text string, n int) string { return text + strings.Repeat(" ", n-len(text)) }
	wantParse(t, pad("wait 1", 4096), []impl.Pulse{wait(1)}, impl.SeqFault{})
	wantParse(t, pad("wait 1;", 4096), nil, impl.SeqFault{Code: impl.SeqWord, At: 4096})
	wantParse(t, pad("loop 2", 4096), nil, impl.SeqFault{Code: impl.SeqOpen, At: 4096})
	wantParse(t, strings.Repeat("x", 4096), nil, impl.SeqFault{Code: impl.SeqWord})
	wantParse(t, pad("wait 1; wait", 4096), nil, impl.SeqFault{Code: impl.SeqNumber, At: 12})
	for _, text := range []string{"", "wait 1", ";", "x", "end", "loop 2", "wait 1; wait", strings.Repeat("at 0;", 500)} {
		wantParse(t, pad(text, 4097), nil, impl.SeqFault{Code: impl.SeqLong})
	}
	wantParse(t, strings.Repeat(";", 4097), nil, impl.SeqFault{Code: impl.SeqLong})
	wantParse(t, strings.Repeat("wait 1;", 1<<20), nil, impl.SeqFault{Code: impl.SeqLong})
}

func TestParseMany(t *testing.T) {
	full := strings.Repeat("at 0; ", 399) + "at 0"
	wantParse(t, full, slices.Repeat([]impl.Pulse{at(0)}, 400), impl.SeqFault{})
	place := int64(len(full) + 2)
	for _, last := range []string{"at 0", "rest", "at", "at x", "at 0 0", "end", "loop 2", "loop 99", "x;", "end; end"} {
		wantParse(t, full+"; "+last, nil, impl.SeqFault{Code: impl.SeqMany, At: place})
	}
	wantParse(t, full+"  ;   at 0", nil, impl.SeqFault{Code: impl.SeqMany, At: place + 4})
	wantParse(t, full+"; ", nil, impl.SeqFault{Code: impl.SeqWord, At: place})
	wantParse(t, full+";", nil, impl.SeqFault{Code: impl.SeqWord, At: place - 1})
	wantParse(t, full+"; ; at 0", nil, impl.SeqFault{Code: impl.SeqWord, At: place})
	wantParse(t, "end; "+full, nil, impl.SeqFault{Code: impl.SeqEnd})
	wantParse(t, "loop 2; "+full, nil, impl.SeqFault{Code: impl.SeqMany, At: int64(len("loop 2; ") + 6*399)})
	halves := strings.Repeat("loop 2; end; ", 199) + "loop 2; end"
	if ps := parse(t, halves); len(ps) != 400 {
		t.Error("200 loops with their ends", len(ps))
	}
	wantParse(t, halves[:len(halves)-5], nil, impl.SeqFault{Code: impl.SeqOpen, At: int64(len(halves) - 5)})
	wantParse(t, "at 0; "+halves, nil, impl.SeqFault{Code: impl.SeqMany, At: int64(len(halves) + 6 - 3)})
}

func TestParseFirstFault(t *testing.T) {
	eight := strings.Repeat("loop 1;", 8)
	wantFaults(t, []faulty{
		{"rest 0; read 0; end", impl.SeqWord, "^"},
		{"read 0; rest 0; end", impl.SeqNumber, "     ^"},
		{"end; read 0; rest", impl.SeqEnd, "^"},
		{"wait 1; end; rest", impl.SeqEnd, "        ^"},
		{"loop 2; rest", impl.SeqWord, "        ^"},
		{"loop 2; read 0", impl.SeqNumber, "             ^"},
		{"read 0;;", impl.SeqNumber, "     ^"},
		{"end;", impl.SeqEnd, "^"},
		{"read 0 0", impl.SeqNumber, "     ^"},
		{"rf a 9 9", impl.SeqNumber, "   ^"},
		{"rf x 9 9", impl.SeqNumber, "     ^"},
		{"grad x 2000 0 1", impl.SeqNumber, "       ^"},
		{"end 1", impl.SeqNumber, "    ^"},
		{"ends 1", impl.SeqWord, "^"},
		{eight + "loop 0", impl.SeqNumber, eight + "     ^"},
		{eight + "loop 1 1", impl.SeqNumber, eight + "       ^"},
		{eight + "loop", impl.SeqNumber, eight + "loop"},
		{eight + "loops", impl.SeqWord, eight},
		{eight + "loop 1; rest", impl.SeqNest, eight},
		{eight + "wait 0; loop 1", impl.SeqNumber, eight + "     ^"},
	})
}

// spoilOrders puts in or takes out orders, such as an end or a loop.
func (m *mixer) spoilOrders(text string) string {
	list := strings.Split(text, "; ")
	for range m.pick(0, 2) {
		place := int(m.pick(0, int64(len(list)-1)))
		switch m.pick(1, 3) {
		case 1:
			list = slices.Insert(list, place, "end")
		case 2:
			list = slices.Insert(list, place, "loop 2")
		case 3:
			list[place] = "wait 3"
		}
	}
	return strings.Join(list, "; ")
}

// spoilText turns, puts in or takes out some bytes of a text.
func (m *mixer) spoilText(text string) string {
	const bytes = " ;;  --00199xyzXrfgadelopwtin\t+."
	b := []byte(text)
	for range m.pick(0, 2) {
		place, sign := int(m.pick(0, int64(len(b)))), bytes[m.pick(0, int64(len(bytes)-1))]
		switch {
		case place == len(b) || m.pick(1, 3) == 1:
			b = slices.Insert(b, place, sign)
		case m.pick(1, 2) == 1:
			b = slices.Delete(b, place, place+1)
		default:
			b[place] = sign
		}
	}
	return string(b)
}

func TestParseSpoiled(t *testing.T) {
	m := mixer(40)
	codes := map[int64]int{}
	for range 40000 {
		text := impl.ShowSeq(m.orders(int(m.pick(0, 12)), 3))
		text = m.spoilText(m.spoilOrders(text))
		want, fault := parsed(text)
		codes[fault.Code]++
		wantParse(t, text, want, fault)
	}
	for _, code := range []int64{0, impl.SeqWord, impl.SeqNumber, impl.SeqEnd, impl.SeqOpen} {
		if codes[code] < 100 {
			t.Error("too few texts with code", code, codes)
		}
	}
}

func TestParseSpoiledNearLimits(t *testing.T) {
	m := mixer(41)
	codes := map[int64]int{}
	for range 3000 {
		loops := int(m.pick(7, 9))
		text := strings.Repeat("at 0; ", int(m.pick(380, 385))) + strings.Repeat("loop 1; ", loops) + "at 0" + strings.Repeat("; end", loops)
		text = m.spoilText(text)
		if m.pick(0, 1) == 1 {
			text += strings.Repeat(" ", int(m.pick(4090, 4099))-len(text))
		}
		want, fault := parsed(text)
		codes[fault.Code]++
		wantParse(t, text, want, fault)
	}
	for _, code := range []int64{impl.SeqLong, impl.SeqMany, impl.SeqNest} {
		if codes[code] < 50 {
			t.Error("too few texts with code", code, codes)
		}
	}
}

func TestSeqOk(t *testing.T) {
	full := slices.Repeat([]impl.Pulse{wait(1)}, 400)
	wantSeq(t, "nothing", nil, true)
	wantSeq(t, "400 orders", full, true)
	wantSeq(t, "401 orders", append(slices.Clone(full), wait(1)), false)
	wantSeq(t, "200 loops", slices.Repeat(looped(2), 200), true)
	wantSeq(t, "201 loops", slices.Repeat(looped(2), 201), false)
	wantSeq(t, "401 orders and more", make([]impl.Pulse, 1<<20), false)
	wantSeq(t, "8 loops open", nested(8, 64, wait(1)), true)
	wantSeq(t, "9 loops open", nested(9, 1, wait(1)), false)
	wantSeq(t, "8 loops open twice", append(nested(8, 2), nested(8, 3)...), true)
	wantSeq(t, "9 loops, 8 open", looped(1, append(nested(7, 1), nested(7, 1)...)...), true)
	wantSeq(t, "an end alone", []impl.Pulse{end()}, false)
	wantSeq(t, "a loop alone", []impl.Pulse{loop(2)}, false)
	wantSeq(t, "an end too many", append(looped(2), end()), false)
	wantSeq(t, "a loop too many", append(looped(2), loop(2)), false)
	wantSeq(t, "end and loop", []impl.Pulse{end(), loop(2)}, false)
	wantSeq(t, "end, loop, loop, end", []impl.Pulse{end(), loop(2), loop(2), end()}, false)
	wantSeq(t, "a loop of 0", looped(0), false)
	wantSeq(t, "a loop of 65", looped(65), false)
	wantSeq(t, "an end with a number", []impl.Pulse{loop(2), {Kind: impl.PuEnd, N: 1}}, false)
	for _, wrong := range []impl.Pulse{{}, wait(0), rf(0, 1), rf(4, 1), grad(impl.AxZ, 1, 1), {Kind: impl.PuWait, Axis: 1, N: 1}, {Kind: 8, N: 1}, {Kind: leastInt}} {
		for _, place := range []int{0, 200, 399} {
			list := slices.Clone(full)
			list[place] = wrong
			wantSeq(t, wrong, list, false)
		}
	}
}

// wantSeq asks SeqOk, and what the others must do where the orders are none.
func wantSeq(t *testing.T, what any, ps []impl.Pulse, want bool) {
	t.Helper()
	if impl.SeqOk(ps) != want {
		t.Errorf("SeqOk of %v is %v", what, !want)
	}
	if text := impl.ShowSeq(ps); (text != "") != (want && len(ps) > 0) {
		t.Errorf("ShowSeq of %v: %.40q", what, text)
	}
	if want {
		return
	}
	wantRun(t, what, ps, 0, impl.RunBad)
	if path := impl.Path(ps); len(path) != 0 {
		t.Errorf("Path of %v has %d samples", what, len(path))
	}
}

func TestShow(t *testing.T) {
	for want, ps := range map[string][]impl.Pulse{
		"":                      nil,
		"rf x 1":                {rf(impl.AxX, 1)},
		"rf y 2; rf z 3":        {rf(impl.AxY, 2), rf(impl.AxZ, 3)},
		"grad x -1000 10000":    {grad(impl.AxX, -1000, 10000)},
		"grad y 0 1":            {grad(impl.AxY, 0, 1)},
		"read 256":              {read(256)},
		"wait 10000":            {wait(10000)},
		"at 0; at 100000":       {at(0), at(100000)},
		"loop 64; end":          {loop(64), end()},
		"loop 2; read 10; end":  looped(2, read(10)),
		"wait 1; wait 2; at 30": {wait(1), wait(2), at(30)},
	} {
		if got := impl.ShowSeq(ps); got != want {
			t.Errorf("%q, want %q", got, want)
		}
	}
}

func TestShowLonger(t *testing.T) {
	list := slices.Repeat([]impl.Pulse{grad(impl.AxX, -1000, 10000)}, 400)
	text := impl.ShowSeq(list)
	if text != strings.Repeat("grad x -1000 10000; ", 399)+"grad x -1000 10000" {
		t.Error(len(text))
	}
	wantParse(t, text, nil, impl.SeqFault{Code: impl.SeqLong})
}

// Promise 4, its first half.
func TestShownAndParsed(t *testing.T) {
	m := mixer(42)
	lists := [][]impl.Pulse{nil, nested(8, 64), slices.Repeat([]impl.Pulse{at(100000)}, 400)[:341]}
	for range 3000 {
		lists = append(lists, m.orders(int(m.pick(0, 60)), 8))
	}
	for _, ps := range lists {
		text := impl.ShowSeq(ps)
		if !impl.SeqOk(ps) || len(text) > impl.MaxSeq {
			t.Fatal("no sequence to be parsed", len(ps), len(text))
		}
		wantParse(t, text, ps, impl.SeqFault{})
		if again := impl.ShowSeq(parse(t, text)); again != text {
			t.Errorf("%q is shown as %q", text, again)
		}
	}
}

// Promise 4, where the text has just MaxSeq bytes, and one more.
func TestShownAtTheLimit(t *testing.T) {
	list := slices.Repeat([]impl.Pulse{wait(10)}, 400)
	for i := 0; len(impl.ShowSeq(list)) < 4096; i++ {
		list[i] = wait(10000)
	}
	for i := 0; len(impl.ShowSeq(list)) > 4096; i++ {
		list[i] = wait(1000)
	}
	text := impl.ShowSeq(list)
	if len(text) != 4096 {
		t.Fatal(len(text))
	}
	wantParse(t, text, list, impl.SeqFault{})
	list[399] = wait(list[399].N * 10)
	wantParse(t, impl.ShowSeq(list), nil, impl.SeqFault{Code: impl.SeqLong})
}

func TestPulseNewMemory(t *testing.T) {
	text := "rf x 1; loop 2; wait 4; read 3; end; read 5"
	first := parse(t, text)
	kept := slices.Clone(first)
	second := parse(t, text)
	clear(first[:cap(first)])
	if !slices.Equal(second, kept) || !slices.Equal(parse(t, text), kept) {
		t.Error("two answers of ParseSeq share memory")
	}
	mark := impl.Pulse{Kind: -9, Axis: -9, N: -9, Ticks: -9}
	ps := roomy(kept, mark)
	impl.SeqOk(ps)
	impl.ShowSeq(ps)
	list, _, _ := impl.Unroll(ps)
	impl.Path(ps)
	if !stays(ps, kept, mark) {
		t.Error("an argument is changed", ps)
	}
	was := slices.Clone(list)
	clear(ps[:cap(ps)])
	if !slices.Equal(list, was) {
		t.Error("Unroll's answer shares memory with its argument")
	}
	again, _, _ := impl.Unroll(kept)
	clear(list[:cap(list)])
	if !slices.Equal(again, was) {
		t.Error("two answers of Unroll share memory")
	}
}
