package tests

import (
	"slices"
	"testing"

	"loop.example/g00050/impl"
)

// quaternion has the whole numbers of 1, i, j and k.
type quaternion [4]int64

// unitProduct tells of two of 1, i, j and k (0 to 3) which one their product is, and with which sign.
func unitProduct(a, b int) (int, int64) {
	switch {
	case a == 0:
		return b, 1
	case b == 0:
		return a, 1
	case a == b:
		return 0, -1
	case a%3+1 == b: // i j = k, j k = i, k i = j
		return b%3 + 1, 1
	}
	return a%3 + 1, -1 // the other way round
}

func (q quaternion) times(r quaternion) quaternion {
	out := quaternion{}
	for a := range q {
		for b := range r {
			unit, sign := unitProduct(a, b)
			out[unit] += sign * q[a] * r[b]
		}
	}
	return out
}

func quaternionOf(turn impl.Turn) quaternion {
	return quaternion{turn.W, turn.X, turn.Y, turn.Z}
}

func turnOf(q quaternion) impl.Turn {
	return impl.Turn{W: q[0], X: q[1], Y: q[2], Z: q[3]}
}

// isRightTurn is the document's rule, number by number.
func isRightTurn(q quaternion) bool {
	twos, ones, noughts := 0, 0, 0
	for _, n := range q {
		switch n {
		case 2, -2:
			twos++
		case 1, -1:
			ones++
		case 0:
			noughts++
		}
	}
	return twos == 1 && noughts == 3 || ones == 4
}

// rightTurns are all 24, found among all small numbers.
func rightTurns() []impl.Turn {
	var list []impl.Turn
	for number := range int64(5 * 5 * 5 * 5) {
		q := quaternion{number/125 - 2, number/25%5 - 2, number/5%5 - 2, number%5 - 2}
		if isRightTurn(q) {
			list = append(list, turnOf(q))
		}
	}
	return list
}

// wrongTurns are near a right one, or look like one where squares wrap round or numbers are cut off.
func wrongTurns() []impl.Turn {
	list := []impl.Turn{{}, {W: 1}, {W: 4}, {W: 2, X: 2}, {X: 2, Y: -2}, {W: 1, X: 1, Y: 1}, {W: 1, X: 1, Y: 1, Z: 2}, {W: 2, X: 1, Y: 1, Z: 1}, {X: 1, Y: 1, Z: 1}, {W: 3, X: 1, Y: 1, Z: 1},
		{W: 1 << 32, X: 2}, {X: 1 << 32, Y: -1 << 32, Z: 2}, {W: leastInt, Z: 2}, {W: 1 << 62, Y: -2}, {W: mostInt, X: 1, Y: 1, Z: 1}, {W: 1, X: leastInt + 1, Y: -1, Z: 1},
		{W: leastInt + 2}, {X: 1<<62 + 2}, {Y: 2 + 1<<32}, {Z: 2 + 1<<8}, {W: 1 + 1<<32, X: 1, Y: 1, Z: 1}, {W: mostInt, X: mostInt, Y: mostInt, Z: mostInt}, {W: leastInt, X: leastInt, Y: leastInt, Z: leastInt},
		{W: -2 - 1<<32}, {W: 1, X: 1, Y: 1, Z: 1 - 1<<8}}
	for _, right := range []quaternion{{2, 0, 0, 0}, {0, 0, -2, 0}, {1, -1, 1, -1}} {
		for at := range right {
			for _, n := range []int64{leastInt, mostInt, 3, -3} {
				q := right
				q[at] = n
				list = append(list, turnOf(q))
			}
		}
	}
	return list
}

// plainTurnProduct of two right turns: (a / 2) (b / 2) in halves.
func plainTurnProduct(a, b impl.Turn) impl.Turn {
	q := quaternionOf(a).times(quaternionOf(b))
	for at := range q {
		q[at] /= 2
	}
	return turnOf(q)
}

// plainTurnMatrix has in its columns t v t̄ of i, j and k.
func plainTurnMatrix(turn impl.Turn) []int64 {
	m := make([]int64, 9)
	back := quaternion{turn.W, -turn.X, -turn.Y, -turn.Z}
	for column := range 3 {
		arrow := quaternion{}
		arrow[column+1] = 1
		to := quaternionOf(turn).times(arrow).times(back)
		for row := range 3 {
			m[row*3+column] = to[row+1] / 4
		}
	}
	return m
}

// plainGoesTo is where a right turn takes place q of a cube of n.
func plainGoesTo(turn impl.Turn, n int64, q [3]int64) [3]int64 {
	m, p := plainTurnMatrix(turn), [3]int64{}
	for row := range 3 {
		sum := n - 1
		for at := range 3 {
			sum += m[row*3+at] * (2*q[at] - (n - 1))
		}
		p[row] = sum / 2
	}
	return p
}

func plainTurnVolume(v impl.Volume, turn impl.Turn) impl.Volume {
	n := v.NX
	out := impl.Volume{NX: n, NY: n, NZ: n, Vox: make([]int64, n*n*n)}
	for i, voxel := range v.Vox {
		at := int64(i)
		p := plainGoesTo(turn, n, [3]int64{at % n, at / n % n, at / n / n})
		out.Vox[p[0]+n*p[1]+n*n*p[2]] = voxel
	}
	return out
}

// plainFitCost has two right cubes of one size, and a turn and a shift within their limits.
func plainFitCost(a, b impl.Volume, turn, x, y, z int64) int64 {
	c, n, sum := plainTurnVolume(b, plainTurns()[turn]), a.NX, int64(0)
	for px := range n {
		for py := range n {
			for pz := range n {
				apart := voxelAt(a, px, py, pz) - voxelAt(c, px-x, py-y, pz-z)
				sum += apart * apart
			}
		}
	}
	return sum
}

// plainTurns are those of all right ones whose first number that is not 0 is above 0, in falling order.
func plainTurns() []impl.Turn {
	var list []impl.Turn
	all := rightTurns()
	slices.Reverse(all)
	for _, turn := range all {
		for _, n := range quaternionOf(turn) {
			if n > 0 {
				list = append(list, turn)
			}
			if n != 0 {
				break
			}
		}
	}
	return list
}

// plainMatch asks FitCost for every turn and every shift.
func plainMatch(a, b impl.Volume, reach int64) impl.Fit {
	best := impl.Fit{Turn: -1}
	for turn := range int64(12) {
		for x := -reach; x <= reach; x++ {
			for y := -reach; y <= reach; y++ {
				for z := -reach; z <= reach; z++ {
					cost := impl.FitCost(a, b, turn, x, y, z)
					if best.Turn == -1 || cost < best.Cost {
						best = impl.Fit{Turn: turn, X: x, Y: y, Z: z, Cost: cost}
					}
				}
			}
		}
	}
	return best
}

// shifted is v moved by a shift, with 0 for what comes from outside.
func shifted(v impl.Volume, x, y, z int64) impl.Volume {
	return cubeOf(v.NX, func(px, py, pz int64) int64 { return voxelAt(v, px-x, py-y, pz-z) })
}

func cubeOf(n int64, voxel func(x, y, z int64) int64) impl.Volume {
	v := impl.Volume{NX: n, NY: n, NZ: n}
	for z := range n {
		for y := range n {
			for x := range n {
				v.Vox = append(v.Vox, voxel(x, y, z))
			}
		}
	}
	return v
}

func evenCube(n, voxel int64) impl.Volume {
	return cubeOf(n, func(_, _, _ int64) int64 { return voxel })
}

// noCubes are right volumes whose edges differ.
func noCubes() []impl.Volume {
	return []impl.Volume{numbered(2, 2, 1), numbered(2, 1, 2), numbered(1, 2, 2), numbered(1, 1, 2), numbered(1, 2, 1), numbered(2, 1, 1), numbered(1, 2, 3), numbered(32, 32, 31), numbered(4, 2, 1)}
}

func wantTurn(t *testing.T, what any, got, want impl.Turn) {
	t.Helper()
	if got != want {
		t.Errorf("%v: %v, want %v", what, got, want)
	}
}

func wantFit(t *testing.T, what any, got, want impl.Fit) {
	t.Helper()
	if got != want {
		t.Errorf("%v: %v, want %v", what, got, want)
	}
}

// plainJoints counts pair by pair, and puts each where it belongs.
func plainJoints(a, b impl.Image) []impl.Joint {
	var list []impl.Joint
next:
	for i := range a.Pix {
		for at, joint := range list {
			if joint.A == a.Pix[i] && joint.B == b.Pix[i] {
				list[at].Count++
				continue next
			}
			if joint.A > a.Pix[i] || joint.A == a.Pix[i] && joint.B > b.Pix[i] {
				list = slices.Insert(list, at, impl.Joint{A: a.Pix[i], B: b.Pix[i], Count: 1})
				continue next
			}
		}
		list = append(list, impl.Joint{A: a.Pix[i], B: b.Pix[i], Count: 1})
	}
	return list
}

// jointsOf has three numbers for each joint.
func jointsOf(rows ...[3]int64) []impl.Joint {
	var list []impl.Joint
	for _, row := range rows {
		list = append(list, impl.Joint{A: row[0], B: row[1], Count: row[2]})
	}
	return list
}

func wantJoints(t *testing.T, what any, got, want []impl.Joint) {
	t.Helper()
	if !slices.Equal(got, want) {
		t.Errorf("%v: %v, want %v", what, got, want)
	}
}

// isBend is the document's rule.
func isBend(bend []int64) bool {
	if len(bend) < 2 || len(bend) > 64 {
		return false
	}
	for i, n := range bend {
		if n < -1000 || n > 1000 || i > 0 && bend[i-1] >= n {
			return false
		}
	}
	return true
}

// plainBendAt weighs the numbers on both sides of x.
func plainBendAt(bend []int64, x int64) (int64, bool) {
	if !isBend(bend) || x < 0 || x > 16*int64(len(bend)-1) {
		return 0, false
	}
	if x%16 == 0 {
		return 16 * bend[x/16], true
	}
	return (16-x%16)*bend[x/16] + x%16*bend[x/16+1], true
}

// plainBendBack looks through all places.
func plainBendBack(bend []int64, y int64) (int64, bool) {
	last := 16 * int64(len(bend)-1)
	if least, ok := plainBendAt(bend, 0); !ok || y < least {
		return 0, false
	}
	if most, _ := plainBendAt(bend, last); y > most {
		return 0, false
	}
	for x := last; ; x-- {
		if at, _ := plainBendAt(bend, x); at <= y {
			return x, true
		}
	}
}

func wantBent(t *testing.T, what any, got int64, ok bool, want int64, wantOk bool) {
	t.Helper()
	if got != want || ok != wantOk {
		t.Errorf("%v: %d %v, want %d %v", what, got, ok, want, wantOk)
	}
}

// bend has n numbers that rise by at most step, from first on.
func (m *mixer) bend(n int, first, step int64) []int64 {
	list := []int64{first}
	for len(list) < n {
		list = append(list, list[len(list)-1]+m.pick(1, step))
	}
	return list
}

// evenBend has n numbers, each one more than the one ahead.
func evenBend(n int) []int64 {
	list := make([]int64, n)
	for i := range list {
		list[i] = int64(i) - 500
	}
	return list
}
