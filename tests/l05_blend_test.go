package tests

import (
	"math"
	"slices"
	"testing"

	"loop.example/g00050/impl"
)

func plainTones(list []impl.Cx) []float64 {
	var out []float64
	for _, v := range list {
		out = append(out, plainSize(v))
	}
	return out
}

// plainBlend is the document's rule for coils that are right.
func plainBlend(coils [][]impl.Cx) []float64 {
	var out []float64
	for i := range coils[0] {
		sum := 0.0
		for _, coil := range coils {
			sum += plainSize(coil[i])
		}
		out = append(out, sum)
	}
	return out
}

func TestTonesPlainly(t *testing.T) {
	m := mixer(91)
	wantFloats(t, "edges", impl.Tones(edgeCxs()), plainTones(edgeCxs()))
	for _, part := range []func() float64{m.small, m.wild} {
		list := cxs(2000, part)
		wantFloats(t, "thrown", impl.Tones(list), plainTones(list))
	}
	wantFloats(t, "by hand", impl.Tones([]impl.Cx{{Re: 3, Im: -4}, {}, {Re: minusNought, Im: minusNought}, {Re: infinite, Im: 1}, {Re: 1, Im: -infinite}, {Re: infinite, Im: someNaN}, {Re: someNaN}, {Re: 1e200}}),
		[]float64{25, 0, 0, infinite, infinite, someNaN, someNaN, infinite})
}

func TestTonesLengths(t *testing.T) {
	wantFloats(t, "nil", impl.Tones(nil), nil)
	wantFloats(t, "empty", impl.Tones([]impl.Cx{}), nil)
	full := slices.Repeat([]impl.Cx{{Re: 1, Im: 2}, {Re: infinite}, {Im: someNaN}, {Re: -2}}, 1024)
	wantFloats(t, "4096", impl.Tones(full), slices.Repeat([]float64{5, infinite, someNaN, 4}, 1024))
	wantFloats(t, "4095", impl.Tones(full[:4095]), slices.Repeat([]float64{5, infinite, someNaN, 4}, 1024)[:4095])
	wantFloats(t, "4097", impl.Tones(append(slices.Clone(full), impl.Cx{Re: 1})), nil)
	wantFloats(t, "a million", impl.Tones(make([]impl.Cx, 1<<20)), nil)
}

func TestBlendPlainly(t *testing.T) {
	m := mixer(92)
	for _, part := range []func() float64{m.small, m.wild, func() float64 { return m.among(edgeFloats()) }, func() float64 { return m.among(noughtsAndOnes()) }} {
		for count := 1; count <= impl.MaxCoils; count++ {
			coils := make([][]impl.Cx, count)
			n := int(m.pick(1, 40))
			for i := range coils {
				coils[i] = cxs(n, part)
			}
			wantFloats(t, count, impl.Blend(coils), plainBlend(coils))
		}
	}
}

// A great size and small ones: from the first coil on each small one is lost, in another order they are not.
func TestBlendAddsFromTheFirstOn(t *testing.T) {
	great, one := []impl.Cx{{Re: 0x1p27}}, []impl.Cx{{Im: -1}}
	wantFloats(t, "the great one first", impl.Blend([][]impl.Cx{great, one, one, one, one}), []float64{0x1p54})
	wantFloats(t, "the great one last", impl.Blend([][]impl.Cx{one, one, one, one, great}), []float64{0x1p54 + 4})
	wantFloats(t, "the great one between", impl.Blend([][]impl.Cx{one, one, one, great, one}), []float64{0x1p54 + 4})
	// A coil's size is made ahead of the sum: 1 and 1.5625 would be lost one by one.
	wantFloats(t, "both parts of a coil", impl.Blend([][]impl.Cx{great, {{Re: 1, Im: 1.25}}}), []float64{0x1p54 + 4})
}

func TestBlendOfNoughts(t *testing.T) {
	below := []impl.Cx{{Re: minusNought, Im: minusNought}}
	for count := 1; count <= 3; count++ {
		wantFloats(t, count, impl.Blend(slices.Repeat([][]impl.Cx{below}, count)), []float64{0})
	}
}

func TestBlendCoils(t *testing.T) {
	coil := []impl.Cx{{Re: 3, Im: 4}, {Im: 1}}
	for count := range 40 {
		want := []float64{25 * float64(count), float64(count)}
		if count == 0 || count > 32 {
			want = nil
		}
		wantFloats(t, count, impl.Blend(slices.Repeat([][]impl.Cx{coil}, count)), want)
	}
	wantFloats(t, "nil", impl.Blend(nil), nil)
	wantFloats(t, "33 coils behind a length of 32", impl.Blend(slices.Repeat([][]impl.Cx{coil}, 33)[:32]), []float64{800, 32})
	for count := 1; count <= 33; count++ {
		wantFloats(t, "no numbers", impl.Blend(make([][]impl.Cx, count)), nil)
	}
}

func TestBlendOfUnlikeCoils(t *testing.T) {
	long, short := make([]impl.Cx, 3), make([]impl.Cx, 2)
	for count := 2; count <= 32; count++ {
		for at := range count {
			coils := slices.Repeat([][]impl.Cx{long}, count)
			coils[at] = short
			wantFloats(t, "one shorter", impl.Blend(coils), nil)
			coils[at] = nil
			wantFloats(t, "one empty", impl.Blend(coils), nil)
			coils = slices.Repeat([][]impl.Cx{short}, count)
			coils[at] = long
			wantFloats(t, "one longer", impl.Blend(coils), nil)
			coils = make([][]impl.Cx, count)
			coils[at] = short
			wantFloats(t, "one that is not empty", impl.Blend(coils), nil)
		}
	}
	// As many in all, but not each.
	wantFloats(t, "1, 3, 2", impl.Blend([][]impl.Cx{long[:1], long, short}), nil)
	wantFloats(t, "2, 3, 1", impl.Blend([][]impl.Cx{short, long, long[:1]}), nil)
}

func TestBlendLengths(t *testing.T) {
	full := slices.Repeat([]impl.Cx{{Re: 1}, {Im: 2}}, 2048)
	for _, count := range []int{1, 2, 32} {
		c := float64(count)
		wantFloats(t, "4096", impl.Blend(slices.Repeat([][]impl.Cx{full}, count)), slices.Repeat([]float64{c, 4 * c}, 2048))
		wantFloats(t, "4097", impl.Blend(slices.Repeat([][]impl.Cx{append(slices.Clone(full), impl.Cx{})}, count)), nil)
	}
	wantFloats(t, "4096 and 4097", impl.Blend([][]impl.Cx{full, make([]impl.Cx, 4097)}), nil)
	wantFloats(t, "4097 and 4096", impl.Blend([][]impl.Cx{make([]impl.Cx, 4097), full}), nil)
}

// Promise 8: nothing that was asked before shows.
func TestBlendIsTheSameAgain(t *testing.T) {
	m := mixer(93)
	coils := [][]impl.Cx{cxs(16, m.small), cxs(16, m.small), cxs(16, m.small)}
	want := impl.Blend(coils)
	wantFloats(t, "at first", want, plainBlend(coils))
	for range 50 {
		other := cxs(16, m.wild)
		impl.Waves(other)
		impl.BackWaves(other)
		impl.Tones(other)
		impl.Factor(16, m.pick(-20, 20))
		impl.Split(other[0], other[1])
		impl.Grid(4, []impl.Spot{{At: m.pick(-20, 80), Value: other[2]}})
		fillWith(impl.Blend([][]impl.Cx{other, coils[1]}), -1)
		impl.Blend(slices.Repeat([][]impl.Cx{other}, 40))
		fillWith(impl.Blend(coils), someNaN)
		wantFloats(t, "again", impl.Blend(coils), want)
	}
}

func TestBlendIsNewMemory(t *testing.T) {
	m := mixer(94)
	mark, farMark := impl.Cx{Re: -77}, []impl.Cx{{Re: 5}}
	for _, lengths := range [][]int{{}, {1}, {3, 3}, {5, 5, 5}, {2, 3}, {3, 2}, {0, 0}, {4097}} {
		var coils, was [][]impl.Cx
		for _, n := range lengths {
			coils = append(coils, roomy(cxs(n, m.small), mark))
			was = append(was, slices.Clone(coils[len(coils)-1]))
		}
		given := roomy(coils, farMark)
		first := impl.Blend(given)
		want := slices.Clone(first)
		fillWith(first, -1)
		for i, coil := range coils {
			if !stays(coil, was[i], mark) || !stays(given[i], was[i], mark) {
				t.Error("a coil was written into", lengths)
			}
		}
		for _, far := range given[len(given):cap(given)][:8] {
			if len(far) != 1 || far[0] != farMark[0] {
				t.Error("the spare room was written into", lengths)
			}
		}
		wantFloats(t, "again", impl.Blend(given), want)
	}
	list := roomy(cxs(9, m.small), mark)
	was := slices.Clone(list)
	fillWith(impl.Tones(list), -1)
	if !stays(list, was, mark) {
		t.Error("Tones writes into its argument")
	}
	wantFloats(t, "Tones again", impl.Tones(list), plainTones(was))
}

func wantSplit(t *testing.T, a, b impl.Cx) {
	t.Helper()
	water, fat := impl.Split(a, b)
	wantOneCx(t, []any{"water of", a, b}, water, plainTimes(plainSum(a, b), 0.5))
	wantOneCx(t, []any{"fat of", a, b}, fat, plainTimes(plainSum(a, turnedTwice(b)), 0.5))
}

func TestSplitPlainly(t *testing.T) {
	m := mixer(95)
	for _, part := range []func() float64{m.small, m.wild, func() float64 { return m.among(edgeFloats()) }} {
		for range 5000 {
			list := cxs(2, part)
			wantSplit(t, list[0], list[1])
		}
	}
	for _, x := range edgeFloats() {
		for _, y := range edgeFloats() {
			wantSplit(t, impl.Cx{Re: x, Im: y}, impl.Cx{Re: y, Im: x})
			wantSplit(t, impl.Cx{Re: x}, impl.Cx{Re: y})
			wantSplit(t, impl.Cx{Im: x}, impl.Cx{Im: y})
		}
	}
}

func TestSplitByHand(t *testing.T) {
	least, most := math.SmallestNonzeroFloat64, math.MaxFloat64
	for _, c := range []struct{ a, b, water, fat float64 }{
		{5, 1, 3, 2},
		{0x1p53, 1, 0x1p52, 0x1p52 - 0.5}, // the sum rounds, the difference does not
		{0x1p53, 3, 0x1p52 + 2, 0x1p52 - 1.5},
		{most, most, infinite, 0}, // halved behind the sum, not ahead of it
		{most, -most, 0, infinite},
		{least, 0, 0, 0},                     // half of the least float is as near to nought
		{least, least, least, 0},             // but not half of two of them
		{3 * least, 0, 2 * least, 2 * least}, // of two as near the even one
		{infinite, infinite, infinite, someNaN},
		{infinite, -infinite, someNaN, infinite},
		{-infinite, 1, -infinite, -infinite},
		{1, infinite, infinite, -infinite},
		{someNaN, 1, someNaN, someNaN},
		{1, someNaN, someNaN, someNaN},
		{0, 0, 0, 0},
		{0, minusNought, 0, 0},
		{minusNought, 0, 0, minusNought},
		{minusNought, minusNought, minusNought, 0},
		{1, 1, 1, 0},
		{-1, -1, -1, 0},
		{-1, 1, 0, -1},
		{-least, 0, minusNought, minusNought},
	} {
		water, fat := impl.Split(impl.Cx{Re: c.a, Im: c.a}, impl.Cx{Re: c.b, Im: c.b})
		wantOneCx(t, []any{"water", c}, water, impl.Cx{Re: c.water, Im: c.water})
		wantOneCx(t, []any{"fat", c}, fat, impl.Cx{Re: c.fat, Im: c.fat})
	}
}
