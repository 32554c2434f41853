package tests

import (
	"slices"
	"testing"

	"loop.example/g00050/impl"
)

func TestUnitsOfTurns(t *testing.T) {
	one, i, j, k := impl.Turn{W: 2}, impl.Turn{X: 2}, impl.Turn{Y: 2}, impl.Turn{Z: 2}
	for _, row := range [][3]impl.Turn{{i, j, k}, {j, k, i}, {k, i, j}, {one, i, i}, {j, one, j}, {one, one, one},
		{j, i, {Z: -2}}, {k, j, {X: -2}}, {i, k, {Y: -2}}, {i, i, {W: -2}}, {j, j, {W: -2}}, {k, k, {W: -2}}, {{W: -2}, {W: -2}, one}, {{W: -2}, k, {Z: -2}}} {
		wantTurn(t, row, impl.TurnMul(row[0], row[1]), row[2])
	}
	// (1 + i + j + k) / 2 goes round the three axes, and is -1 when it is done three times.
	round := impl.Turn{W: 1, X: 1, Y: 1, Z: 1}
	twice := impl.TurnMul(round, round)
	wantTurn(t, "twice", twice, impl.Turn{W: -1, X: 1, Y: 1, Z: 1})
	wantTurn(t, "three times", impl.TurnMul(round, twice), impl.Turn{W: -2})
	wantTurn(t, "first i, then round", impl.TurnMul(round, i), impl.Turn{W: -1, X: 1, Y: 1, Z: -1})
	wantTurn(t, "first round, then i", impl.TurnMul(i, round), impl.Turn{W: -1, X: 1, Y: -1, Z: 1})
}

func TestTurnOkOfSmallNumbers(t *testing.T) {
	right := 0
	for number := range int64(9 * 9 * 9 * 9) {
		q := quaternion{number/729 - 4, number/81%9 - 4, number/9%9 - 4, number%9 - 4}
		got := impl.TurnOk(turnOf(q))
		if got != isRightTurn(q) {
			t.Error(q, got)
		}
		if got {
			right++
		}
	}
	if right != 24 {
		t.Error("right turns:", right)
	}
}

func TestTurnOkOfNeighbours(t *testing.T) {
	for _, right := range rightTurns() {
		if !impl.TurnOk(right) {
			t.Error("not right", right)
		}
		for at := range 4 {
			q := quaternionOf(right)
			n := q[at]
			for _, other := range []int64{n + 1, n - 1, -n, n + 1<<32, n - 1<<32, n + 1<<62, n ^ leastInt, leastInt, mostInt, leastInt + 1, mostInt - 1} {
				q[at] = other
				if got := impl.TurnOk(turnOf(q)); got != isRightTurn(q) {
					t.Error(q, got)
				}
			}
		}
	}
	for _, wrong := range wrongTurns() {
		if impl.TurnOk(wrong) {
			t.Error("right", wrong)
		}
	}
}

// Promise 13: turns are a group.
func TestTurnsAreAGroup(t *testing.T) {
	all, nothing := rightTurns(), impl.Turn{W: 2}
	if len(all) != 24 {
		t.Fatal(len(all))
	}
	for _, a := range all {
		wantTurn(t, a, impl.TurnMul(a, nothing), a)
		wantTurn(t, a, impl.TurnMul(nothing, a), a)
		back := impl.TurnBack(a)
		wantTurn(t, []any{"back", a}, back, impl.Turn{W: a.W, X: -a.X, Y: -a.Y, Z: -a.Z})
		wantTurn(t, []any{"back behind", a}, impl.TurnMul(back, a), nothing)
		wantTurn(t, []any{"back ahead of", a}, impl.TurnMul(a, back), nothing)
		for _, b := range all {
			product := impl.TurnMul(a, b)
			wantTurn(t, []any{a, b}, product, plainTurnProduct(a, b))
			if !impl.TurnOk(product) {
				t.Error("not right", a, b, product)
			}
			wantTurn(t, []any{"back of", a, b}, impl.TurnBack(product), impl.TurnMul(impl.TurnBack(b), impl.TurnBack(a)))
			for _, c := range all {
				wantTurn(t, []any{a, b, c}, impl.TurnMul(product, c), impl.TurnMul(a, impl.TurnMul(b, c)))
			}
		}
	}
}

func TestWrongTurnsAreRefused(t *testing.T) {
	for _, wrong := range wrongTurns() {
		for _, right := range rightTurns() {
			wantTurn(t, []any{wrong, right}, impl.TurnMul(wrong, right), impl.Turn{})
			wantTurn(t, []any{right, wrong}, impl.TurnMul(right, wrong), impl.Turn{})
		}
		for _, other := range wrongTurns() {
			wantTurn(t, []any{wrong, other}, impl.TurnMul(wrong, other), impl.Turn{})
		}
		wantTurn(t, []any{"back", wrong}, impl.TurnBack(wrong), impl.Turn{})
		wantLists(t, wrong, impl.TurnMatrix(wrong), nil)
	}
}

func TestTurnMatrix(t *testing.T) {
	for _, row := range []struct {
		turn impl.Turn
		want []int64
	}{
		{impl.Turn{W: 2}, []int64{1, 0, 0, 0, 1, 0, 0, 0, 1}},
		{impl.Turn{W: -2}, []int64{1, 0, 0, 0, 1, 0, 0, 0, 1}},
		{impl.Turn{X: 2}, []int64{1, 0, 0, 0, -1, 0, 0, 0, -1}},
		{impl.Turn{Y: -2}, []int64{-1, 0, 0, 0, 1, 0, 0, 0, -1}},
		{impl.Turn{Z: 2}, []int64{-1, 0, 0, 0, -1, 0, 0, 0, 1}},
		// x goes to y, y to z, z to x.
		{impl.Turn{W: 1, X: 1, Y: 1, Z: 1}, []int64{0, 0, 1, 1, 0, 0, 0, 1, 0}},
		{impl.Turn{W: 1, X: -1, Y: -1, Z: -1}, []int64{0, 1, 0, 0, 0, 1, 1, 0, 0}},
		{impl.Turn{W: 1, X: 1, Y: 1, Z: -1}, []int64{0, 1, 0, 0, 0, -1, -1, 0, 0}},
	} {
		wantLists(t, row.turn, impl.TurnMatrix(row.turn), row.want)
	}
	for _, turn := range rightTurns() {
		m := impl.TurnMatrix(turn)
		wantLists(t, turn, m, plainTurnMatrix(turn))
		wantLists(t, []any{"negative", turn}, impl.TurnMatrix(impl.Turn{W: -turn.W, X: -turn.X, Y: -turn.Y, Z: -turn.Z}), m)
		ones := 0
		for _, n := range m {
			if n < -1 || n > 1 {
				t.Error(turn, m)
			}
			ones += int(n * n)
		}
		if ones != 3 || bigDeterminant(m).Int64() != 1 {
			t.Error("no turn of space", turn, m)
		}
	}
}

// timesMatrix is first b, then a.
func timesMatrix(a, b []int64) []int64 {
	out := make([]int64, 9)
	for at := range out {
		for i := range 3 {
			out[at] += a[at/3*3+i] * b[i*3+at%3]
		}
	}
	return out
}

func TestMatrixOfProductOfTurns(t *testing.T) {
	for _, a := range rightTurns() {
		for _, b := range rightTurns() {
			wantLists(t, []any{a, b}, impl.TurnMatrix(impl.TurnMul(a, b)), timesMatrix(impl.TurnMatrix(a), impl.TurnMatrix(b)))
		}
	}
}

func TestTwelveTurns(t *testing.T) {
	list := impl.Turns()
	if !slices.Equal(list, plainTurns()) || len(list) != 12 {
		t.Fatal(list)
	}
	for at, turn := range list {
		q := quaternionOf(turn)
		if at > 0 && slices.Compare(q[:], prior(list, at)) >= 0 {
			t.Error("not falling", at, list)
		}
	}
	for _, turn := range rightTurns() {
		found := 0
		for _, one := range list {
			if one == turn || one == (impl.Turn{W: -turn.W, X: -turn.X, Y: -turn.Y, Z: -turn.Z}) {
				found++
			}
		}
		if found != 1 {
			t.Error(turn, "comes", found, "times")
		}
	}
	ways := map[string]int{}
	for _, turn := range list {
		ways[brief(impl.TurnMatrix(turn))]++
	}
	if len(ways) != 12 {
		t.Error("ways of turning space:", len(ways))
	}
}

// prior has the numbers of the turn ahead of at.
func prior(list []impl.Turn, at int) []int64 {
	q := quaternionOf(list[at-1])
	return q[:]
}
