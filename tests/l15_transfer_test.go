package tests

import (
	"slices"
	"strings"
	"testing"

	"loop.example/g00050/impl"
)

const (
	goes  = impl.FtGoes
	lost  = impl.FtLost
	twice = impl.FtTwice
	late  = impl.FtLate
)

// threeLetters are, at a size of 2, of three parts, one and two.
func threeLetters() []impl.Message {
	return []impl.Message{letterOf(30, "abcde"), letterOf(10, "f"), letterOf(20, "ghi")}
}

// manyLetters are so many, each of one byte more than the one ahead, the first without any.
func manyLetters(count int) []impl.Message {
	var list []impl.Message
	for k := range count {
		list = append(list, letterOf(int64(1000-k), unlikeBytes(k)))
	}
	return list
}

// alike is a list of one fate, so many times.
func alike(fate int64, count int) []int64 {
	list := make([]int64, count)
	for k := range list {
		list[k] = fate
	}
	return list
}

func TestCountsOfLetters(t *testing.T) {
	for rounds := int64(0); rounds <= 3; rounds++ {
		wantSent(t, nil, 5, nil, rounds, nil, nil, 0)
		wantSent(t, []impl.Message{}, 5, []int64{lost, lost}, rounds, nil, nil, 0)
	}
	for _, count := range []int{1, 2, 15, 16} {
		letters := manyLetters(count)
		wantSent(t, letters, 20, nil, 1, idsOf(letters), nil, int64(count))
		wantSent(t, letters, 20, alike(lost, count), 1, nil, idsOf(letters), int64(count))
	}
	for _, count := range []int{17, 18, 100} {
		wantNothingSent(t, manyLetters(count), 1000, nil, 1)
		wantNothingSent(t, manyLetters(count), 1000, nil, 0)
	}
	// 16 letters that are open all at once.
	var letters []impl.Message
	for id := range int64(16) {
		letters = append(letters, letterOf(100-id, "ab"))
	}
	wantSent(t, letters, 1, slices.Repeat([]int64{goes, late}, 16), 1, idsOf(letters), nil, 32)
	wantSent(t, letters, 1, slices.Repeat([]int64{late, goes}, 16), 1, idsOf(letters), nil, 32)
	wantSent(t, letters, 1, slices.Repeat([]int64{goes, lost}, 16), 1, nil, idsOf(letters), 32)
	wantSent(t, letters, 1, slices.Repeat([]int64{goes, lost}, 16), 2, idsOf(letters), nil, 64)
}

func TestLettersOfOneId(t *testing.T) {
	for _, letters := range [][]impl.Message{
		{letterOf(5, "a"), letterOf(5, "b")},
		{letterOf(5, "a"), letterOf(5, "a")},
		{letterOf(0, "a"), letterOf(6, "b"), letterOf(0, "c")},
		append(manyLetters(15), letterOf(1000, "z")),
	} {
		wantNothingSent(t, letters, 20, nil, 1)
		wantNothingSent(t, letters, 20, []int64{lost}, 0)
		wantSent(t, letters[:len(letters)-1], 20, nil, 1, idsOf(letters[:len(letters)-1]), nil, int64(len(letters)-1))
	}
	// Letters may have one Body.
	wantSent(t, []impl.Message{letterOf(5, "same"), letterOf(6, "same")}, 2, nil, 1, []int64{5, 6}, nil, 4)
}

func TestLettersThatPiecesRefuses(t *testing.T) {
	long := unlikeBytes(2048)
	for _, wrong := range []impl.Message{letterOf(-1, "a"), letterOf(1000001, "a"), letterOf(leastInt, ""), letterOf(mostInt, ""), letterOf(5, long+"x"), letterOf(5, strings.Repeat("y", 1<<16))} {
		wantNothingSent(t, []impl.Message{wrong}, 40, nil, 1)
		wantNothingSent(t, []impl.Message{letterOf(1, "a"), wrong}, 40, nil, 1)
		wantNothingSent(t, []impl.Message{wrong, letterOf(1, "a")}, 40, nil, 0)
	}
	wantSent(t, []impl.Message{letterOf(0, long), letterOf(1000000, "")}, 1024, nil, 1, []int64{0, 1000000}, nil, 3)
	for _, size := range []int64{leastInt, -1, 0, 1025, 1 << 32, mostInt} {
		wantNothingSent(t, []impl.Message{letterOf(1, "a")}, size, nil, 1)
		wantNothingSent(t, nil, size, nil, 1)
	}
	// 64 parts and 65.
	wantSent(t, []impl.Message{letterOf(1, long)}, 32, nil, 1, []int64{1}, nil, 64)
	wantNothingSent(t, []impl.Message{letterOf(1, long)}, 31, nil, 1)
	wantNothingSent(t, []impl.Message{letterOf(2, "b"), letterOf(1, unlikeBytes(65))}, 1, nil, 1)
	wantSent(t, []impl.Message{letterOf(2, "b"), letterOf(1, unlikeBytes(64))}, 1, nil, 1, []int64{2, 1}, nil, 65)
}

func TestCountsOfFates(t *testing.T) {
	letters := threeLetters()
	for _, count := range []int{0, 1, 4095, 4096} {
		wantSent(t, letters, 2, alike(twice, count), 1, idsOf(letters), nil, 6)
	}
	for _, count := range []int{4097, 4098, 10000} {
		wantNothingSent(t, letters, 2, alike(goes, count), 1)
		wantNothingSent(t, letters, 2, alike(goes, count), 0)
	}
	// All of them are used.
	full := []impl.Message{}
	for id := range int64(16) {
		full = append(full, letterOf(id, unlikeBytes(64)))
	}
	wantSent(t, full, 1, alike(lost, 4096), 4, nil, idsOf(full), 4096)
	wantSent(t, full, 1, alike(lost, 4096), 5, idsOf(full), nil, 5120)
	wantSent(t, full, 1, append(alike(lost, 4095), late), 5, idsOf(full), nil, 5120)
}

func TestFatesThatAreNone(t *testing.T) {
	letters := threeLetters()
	for _, fate := range []int64{leastInt, -1 << 32, -1, 4, 5, 256, 1 << 32, 1<<32 + 1, mostInt} {
		for _, fates := range [][]int64{{fate}, {goes, fate}, {fate, goes}, append(alike(goes, 4095), fate)} {
			wantNothingSent(t, letters, 2, fates, 1)
			wantNothingSent(t, letters, 2, fates, 0)
		}
	}
	for fate := int64(0); fate <= 3; fate++ {
		_, _, sent := transfer(t, letters, 2, append(alike(goes, 4095), fate), 1)
		wantNumber(t, fate, sent, 6)
	}
}

func TestCountsOfRounds(t *testing.T) {
	letters := threeLetters()
	for _, rounds := range []int64{leastInt, leastInt + 1, -1 << 32, -1, 21, 22, 1 << 32, 1<<32 + 1, 1 << 62, mostInt - 1, mostInt} {
		wantNothingSent(t, letters, 2, nil, rounds)
		wantNothingSent(t, letters, 2, alike(lost, 4096), rounds)
	}
	wantSent(t, letters, 2, nil, 0, nil, idsOf(letters), 0)
	wantSent(t, letters, 2, []int64{lost}, 0, nil, idsOf(letters), 0)
	// As many rounds as it may be, but no more than are needed.
	for _, rounds := range []int64{1, 2, 19, 20} {
		wantSent(t, letters, 2, nil, rounds, idsOf(letters), nil, 6)
		wantSent(t, letters, 2, alike(lost, 4096), rounds, nil, idsOf(letters), 6*rounds)
		wantSent(t, letters, 2, alike(lost, int(6*(rounds-1))), rounds, idsOf(letters), nil, 6*rounds)
	}
}

func TestFatesAlone(t *testing.T) {
	letters := threeLetters()
	ids := idsOf(letters)
	wantSent(t, letters, 2, alike(goes, 6), 1, ids, nil, 6)
	wantSent(t, letters, 2, alike(lost, 6), 1, nil, ids, 6)
	wantSent(t, letters, 2, alike(twice, 6), 1, ids, nil, 6)
	wantSent(t, letters, 2, alike(late, 6), 1, ids, nil, 6)
	one := []impl.Message{letterOf(1, "a")}
	wantSent(t, one, 5, []int64{goes}, 1, []int64{1}, nil, 1)
	wantSent(t, one, 5, []int64{lost}, 1, nil, []int64{1}, 1)
	wantSent(t, one, 5, []int64{twice}, 1, []int64{1}, nil, 1)
	wantSent(t, one, 5, []int64{late}, 1, []int64{1}, nil, 1)
}

func TestFatesMixed(t *testing.T) {
	letters := threeLetters()
	// Each part lost, alone: its letter is told in the next round, behind the others.
	for k, row := range [][2][]int64{{{10, 20}, {30}}, {{10, 20}, {30}}, {{10, 20}, {30}}, {{30, 20}, {10}}, {{30, 10}, {20}}, {{30, 10}, {20}}} {
		fates := alike(goes, 6)
		fates[k] = lost
		wantSent(t, letters, 2, fates, 1, row[0], row[1], 6)
		parts := map[int64]int64{30: 3, 10: 1, 20: 2}[row[1][0]]
		wantSent(t, letters, 2, fates, 2, append(slices.Clone(row[0]), row[1]...), nil, 6+parts)
	}
	// Each part late, alone: its letter is told last.
	for k, told := range [][]int64{{10, 20, 30}, {10, 20, 30}, {10, 20, 30}, {30, 20, 10}, {30, 10, 20}, {30, 10, 20}} {
		fates := alike(goes, 6)
		fates[k] = late
		wantSent(t, letters, 2, fates, 1, told, nil, 6)
		fates = alike(twice, 6)
		fates[k] = late
		wantSent(t, letters, 2, fates, 1, told, nil, 6)
	}
	// Several late ones, in their order.
	wantSent(t, letters, 2, []int64{late, goes, goes, late, goes, late}, 1, []int64{30, 10, 20}, nil, 6)
	wantSent(t, letters, 2, []int64{goes, goes, goes, late, late, goes}, 1, []int64{30, 10, 20}, nil, 6)
	wantSent(t, letters, 2, []int64{goes, late, goes, goes, late, late}, 1, []int64{10, 30, 20}, nil, 6)
	wantSent(t, letters, 2, []int64{late, late, late, goes, goes, late}, 1, []int64{10, 30, 20}, nil, 6)
	wantSent(t, letters, 2, []int64{late, late, late, late, goes, goes}, 1, []int64{20, 30, 10}, nil, 6)
	// All four.
	wantSent(t, letters, 2, []int64{goes, twice, late, lost, twice, goes}, 1, []int64{20, 30}, []int64{10}, 6)
	wantSent(t, letters, 2, []int64{twice, lost, goes, late, late, twice}, 1, []int64{10, 20}, []int64{30}, 6)
	// Twice of what makes a message whole: it is told once, in that round and in none behind it.
	wantSent(t, letters, 2, []int64{goes, goes, twice, twice, lost, twice, twice, twice}, 3, []int64{30, 10, 20}, nil, 8)
}

func TestFatesUsedUp(t *testing.T) {
	letters := threeLetters()
	// Within the first round.
	wantSent(t, letters, 2, []int64{lost, lost}, 1, []int64{10, 20}, []int64{30}, 6)
	wantSent(t, letters, 2, []int64{lost, lost}, 2, []int64{10, 20, 30}, nil, 9)
	wantSent(t, letters, 2, []int64{lost, lost}, 20, []int64{10, 20, 30}, nil, 9)
	// At its end, and one behind it.
	wantSent(t, letters, 2, alike(lost, 6), 2, []int64{30, 10, 20}, nil, 12)
	wantSent(t, letters, 2, alike(lost, 7), 2, []int64{10, 20}, []int64{30}, 12)
	wantSent(t, letters, 2, alike(lost, 7), 3, []int64{10, 20, 30}, nil, 15)
	// In the middle of the second one, where one letter fewer is sent.
	wantSent(t, letters, 2, []int64{lost, goes, goes, goes, lost, lost, goes, goes, goes, lost}, 2, []int64{10, 30}, []int64{20}, 11)
	wantSent(t, letters, 2, []int64{lost, goes, goes, goes, lost, lost, goes, goes, goes, lost}, 3, []int64{10, 30, 20}, nil, 13)
	wantSent(t, letters, 2, []int64{goes, goes, goes, lost, goes, lost, late, twice}, 2, []int64{30, 20, 10}, nil, 9)
}

func TestPartsSentAllTheSame(t *testing.T) {
	one := []impl.Message{letterOf(7, "abcd")}
	// The first of the second round makes it whole; the three behind it are sent, and use up fates, all the same.
	wantSent(t, one, 1, []int64{lost, goes, goes, goes}, 2, []int64{7}, nil, 8)
	two := []impl.Message{letterOf(7, "abcd"), letterOf(8, "e")}
	wantSent(t, two, 1, []int64{lost, goes, goes, goes, lost, goes, goes, goes, goes, lost}, 2, []int64{7}, []int64{8}, 10)
	wantSent(t, two, 1, []int64{lost, goes, goes, goes, lost, goes, goes, goes, goes, lost}, 3, []int64{7, 8}, nil, 11)
	// What was kept in a round is kept in the next one.
	wantSent(t, one, 1, []int64{goes, lost, lost, lost, lost, goes, lost, lost, lost, lost, goes, lost, lost, lost, lost, goes}, 4, []int64{7}, nil, 16)
	wantSent(t, one, 1, []int64{goes, lost, lost, lost, lost, goes, lost, lost, lost, lost, goes, lost, lost, lost, lost, lost}, 4, nil, []int64{7}, 16)
	// A late part comes ahead of the next round.
	wantSent(t, two, 4, []int64{late, lost}, 2, []int64{7, 8}, nil, 3)
	wantSent(t, two, 4, []int64{late, lost, lost}, 2, []int64{7}, []int64{8}, 3)
}

func TestLettersNotTold(t *testing.T) {
	letters := manyLetters(16)
	for pattern := range 1 << 6 {
		fates := make([]int64, 16)
		var told, rest []int64
		for k := range fates {
			if pattern>>(k%6)&1 == 1 {
				fates[k] = lost
				rest = append(rest, letters[k].Id)
			} else {
				told = append(told, letters[k].Id)
			}
		}
		wantSent(t, letters, 20, fates, 1, told, rest, 16)
		wantSent(t, letters, 20, fates, 2, append(told, rest...), nil, 16+int64(len(rest)))
	}
}

// Every list of six fates, over letters of four parts in all.
func TestEveryListOfFates(t *testing.T) {
	letters := []impl.Message{letterOf(9, "ab"), letterOf(0, ""), letterOf(4, "c")}
	for _, fates := range listsOf(6, 0, 3) {
		for rounds := range int64(4) {
			wantPromised(t, letters, 1, fates, rounds)
		}
	}
}

// wantPromised asks what is promised of any transfer that is made.
func wantPromised(t *testing.T, letters []impl.Message, size int64, fates []int64, rounds int64) {
	t.Helper()
	what := []any{briefLetters(letters), size, brief(fates), rounds}
	told, rest, sent := transfer(t, letters, size, fates, rounds)
	wantNumber(t, what, int64(len(told)+len(rest)), int64(len(letters)))
	if rounds == 0 {
		return
	}
	// All are told when the fates are used up and a round is left.
	earlier, _, sentEarlier := impl.Transfer(letters, size, fates, rounds-1)
	if sentEarlier >= int64(len(fates)) && len(rest) > 0 {
		t.Error(what, "not told:", briefLetters(rest))
	}
	// What was told in a round stays told.
	wantLetters(t, what, told[:min(len(told), len(earlier))], earlier)
	if sent < sentEarlier || len(earlier) == len(letters) && sent != sentEarlier {
		t.Error(what, "sent", sentEarlier, "and then", sent)
	}
}

func TestTransfersPlainly(t *testing.T) {
	m := mixer(252)
	sizes := []int64{1, 2, 3, 7, 32, 100, 1024}
	whole, halves := 0, 0
	for range 6000 {
		size := sizes[m.pick(0, int64(len(sizes)-1))]
		var letters []impl.Message
		for id := range m.pick(0, 6) {
			letters = append(letters, letterOf((id*7+3)%16*60000, string(m.someBytes(int(m.pick(0, min(2048, size*m.pick(0, 5))))))))
		}
		fates := m.list(int(m.pick(0, 60)), 0, 3)
		if m.pick(0, 3) == 0 {
			fates = m.list(int(m.pick(0, 200)), 0, 1)
		}
		rounds := m.pick(0, 6)
		wantPromised(t, letters, size, fates, rounds)
		_, rest, _ := impl.Transfer(letters, size, fates, rounds)
		if len(rest) == 0 {
			whole++
		} else if len(rest) < len(letters) {
			halves++
		}
	}
	if whole < 1000 || halves < 500 {
		t.Error("one-sided", whole, halves)
	}
}

func TestLongTransfers(t *testing.T) {
	m := mixer(253)
	for k := range 3 {
		var letters []impl.Message
		for id := range int64(16) {
			letters = append(letters, letterOf(id*62500, string(m.someBytes(int(m.pick(1900, 2048))))))
		}
		fates := m.list(4096, 0, 3)
		wantPromised(t, letters, 32, fates, int64(2+k))
		if _, rest, _ := impl.Transfer(letters, 32, fates, 20); len(rest) != 0 {
			t.Error("not told", briefLetters(rest))
		}
	}
}
