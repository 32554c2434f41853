package tests

import (
	"slices"
	"testing"

	"loop.example/g00050/impl"
)

func TestShortestByHand(t *testing.T) {
	ramp := make([]int64, 50)
	for at := range ramp {
		ramp[at] = 1000 + 3*int64(at)
	}
	for _, row := range []struct {
		tones []int64
		name  string
		want  string
	}{
		{[]int64{65535}, "plain", "\x01\xff\xff"},
		{[]int64{65535, 0, 60000}, "plain", "\x03\xff\xff\x00\x00\x60\xea"},
		{[]int64{0, 1, 0, 1, 0, 1}, "rice", "\x06\x00\x92\x00"},
		{[]int64{5, 5, 7}, "rice", "\x03\x02\x55\x0d"}, // steps has 4 bytes too
		{make([]int64, 100), "runs", "\x64\x64\x00"},
		{slices.Repeat([]int64{9}, 50), "runs", "\x32\x32\x09"},
		{[]int64{300, 301}, "steps", "\x02\xd8\x04\x02"},
		{[]int64{0}, "steps", "\x01\x00"},
		{nil, "plain", "\x00"},                          // runs and steps have 1 byte too
		{[]int64{65535, 65534}, "plain", ""},            // 5 bytes, as steps has
		{[]int64{100}, "plain", "\x01\x64\x00"},         // 3 bytes, as all the others have
		{[]int64{0, 0}, "rice", "\x02\x00\x00"},         // 3 bytes, as runs and steps have
		{[]int64{9, 9, 9}, "runs", "\x03\x03\x09"},      // rice and steps have 4
		{[]int64{200, 200}, "runs", "\x02\x02\xc8\x01"}, // 4 bytes, as steps has; rice has 5
	} {
		name, b := impl.Shortest(row.tones)
		if name != row.name || row.want != "" && string(b) != row.want {
			t.Errorf("%s: %q %x, want %q %x", brief(row.tones), name, b, row.name, row.want)
		}
		wantThereAndBack(t, row.tones)
	}
	if name, b := impl.Shortest(ramp); name != "steps" || len(b) != 52 {
		t.Error("a ramp", name, len(b))
	}
	wantThereAndBack(t, ramp)
}

func TestShortestOfAll(t *testing.T) {
	m := mixer(227)
	met, ties := map[string]int{}, map[string]int{}
	lists := m.someTones()
	for n := range 5 {
		lists = append(lists, listsOf(n, 0, 3)...)
		lists = append(lists, listsOf(n, 126, 129)...)
	}
	for _, tones := range lists {
		wantShortest(t, tones)
		name, b := impl.Shortest(tones)
		met[name]++
		equal := ""
		for _, other := range codecNames() {
			if c, ok := impl.Compress(other, tones); !ok || len(c) < len(b) {
				t.Errorf("%s: %q is shorter than %q", brief(tones), other, name)
			} else if len(c) == len(b) {
				equal += other + " "
			}
		}
		ties[equal]++
	}
	if len(met) != 4 || len(ties) < 9 {
		t.Error("too few ways to be the shortest", met, ties)
	}
	for _, tones := range noTones() {
		if name, b := impl.Shortest(tones); name != "" || len(b) > 0 {
			t.Errorf("%s: %q %x", brief(tones), name, b[:min(len(b), 100)])
		}
	}
}
