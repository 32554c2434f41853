package tests

import (
	"math/big"
	"slices"
	"testing"

	"loop.example/g00050/impl"
)

// affine is what a frame does, in fractions without an end: three rows of the three factors and what is added.
type affine [3][4]*big.Rat

func ratio(a, b int64) *big.Rat { return big.NewRat(a, b) }

func newAffine() affine {
	out := affine{}
	for row := range out {
		for at := range out[row] {
			out[row][at] = new(big.Rat)
		}
	}
	return out
}

// affineOf has a frame with nine numbers, three numbers and a D that is not 0.
func affineOf(f impl.Frame) affine {
	out := affine{}
	for row := range 3 {
		out[row] = [4]*big.Rat{ratio(f.M[row*3], f.D), ratio(f.M[row*3+1], f.D), ratio(f.M[row*3+2], f.D), ratio(f.T[row], f.D)}
	}
	return out
}

// moved is where a takes a point.
func (a affine) moved(point [3]*big.Rat) [3]*big.Rat {
	out := [3]*big.Rat{}
	for row := range out {
		sum := new(big.Rat).Set(a[row][3])
		for at := range point {
			sum.Add(sum, new(big.Rat).Mul(a[row][at], point[at]))
		}
		out[row] = sum
	}
	return out
}

// behind finds first b, then a by where four points go.
func (a affine) behind(b affine) affine {
	at := func(x, y, z int64) [3]*big.Rat {
		return a.moved(b.moved([3]*big.Rat{ratio(x, 1), ratio(y, 1), ratio(z, 1)}))
	}
	start, ends, out := at(0, 0, 0), [3][3]*big.Rat{at(1, 0, 0), at(0, 1, 0), at(0, 0, 1)}, newAffine()
	for row := range 3 {
		out[row][3].Set(start[row])
		for i := range 3 {
			out[row][i].Sub(ends[i][row], start[row])
		}
	}
	return out
}

// back solves the three equations by taking rows from each other; nothing where they can't be solved.
func (a affine) back() (affine, bool) {
	left, out := newAffine(), newAffine()
	for row := range 3 {
		for i := range 4 {
			left[row][i].Set(a[row][i])
		}
		out[row][row].SetInt64(1)
		out[row][3].Neg(left[row][3])
	}
	for step := range 3 {
		head := step
		for head < 3 && left[head][step].Sign() == 0 {
			head++
		}
		if head == 3 {
			return affine{}, false
		}
		left[step], left[head] = left[head], left[step]
		out[step], out[head] = out[head], out[step]
		clearColumn(left, out, step)
	}
	return out, true
}

// clearColumn makes the row's own number 1 and the others of its column 0.
func clearColumn(left, out affine, step int) {
	by := new(big.Rat).Inv(left[step][step])
	for i := range 4 {
		left[step][i].Mul(left[step][i], by)
		out[step][i].Mul(out[step][i], by)
	}
	for row := range 3 {
		if row == step {
			continue
		}
		times := new(big.Rat).Set(left[row][step])
		for i := range 4 {
			left[row][i].Sub(left[row][i], new(big.Rat).Mul(times, left[step][i]))
			out[row][i].Sub(out[row][i], new(big.Rat).Mul(times, out[step][i]))
		}
	}
}

// leastCommon is the least number that each fraction times it is whole for.
func leastCommon(list ...*big.Rat) *big.Int {
	common := big.NewInt(1)
	for _, r := range list {
		divisor := new(big.Int).GCD(nil, nil, common, r.Denom())
		common.Mul(common, new(big.Int).Quo(r.Denom(), divisor))
	}
	return common
}

// numerator is r times common, which is whole.
func numerator(r *big.Rat, common *big.Int) *big.Int {
	return new(big.Int).Quo(new(big.Int).Mul(r.Num(), common), r.Denom())
}

// frame is the right frame that does what a does, if its numbers are not too great.
func (a affine) frame() (impl.Frame, bool) {
	all := slices.Concat(a[0][:], a[1][:], a[2][:])
	common := leastCommon(all...)
	most := big.NewInt(impl.MaxEntry)
	if common.Cmp(most) > 0 {
		return impl.Frame{}, false
	}
	out := impl.Frame{D: common.Int64()}
	for i, r := range all {
		number := numerator(r, common)
		if number.CmpAbs(most) > 0 {
			return impl.Frame{}, false
		}
		if i%4 == 3 {
			out.T = append(out.T, number.Int64())
		} else {
			out.M = append(out.M, number.Int64())
		}
	}
	return out, true
}

// bigDeterminant of nine numbers, without an end: each row's number times its column's, six times.
func bigDeterminant(m []int64) *big.Int {
	sum := new(big.Int)
	for _, p := range [][4]int{{0, 4, 8, 1}, {1, 5, 6, 1}, {2, 3, 7, 1}, {2, 4, 6, -1}, {1, 3, 8, -1}, {0, 5, 7, -1}} {
		term := big.NewInt(int64(p[3]))
		for _, at := range p[:3] {
			term.Mul(term, big.NewInt(m[at]))
		}
		sum.Add(sum, term)
	}
	return sum
}

// plainFrameOk says by the document's words whether f is right.
func plainFrameOk(f impl.Frame) bool {
	if len(f.M) != 9 || len(f.T) != 3 || f.D < 1 || f.D > 1000000 {
		return false
	}
	divisor := big.NewInt(f.D)
	for _, n := range slices.Concat(f.M, f.T) {
		if n < -1000000 || n > 1000000 {
			return false
		}
		divisor.GCD(nil, nil, divisor, new(big.Int).Abs(big.NewInt(n)))
	}
	return divisor.Cmp(big.NewInt(1)) == 0 && bigDeterminant(f.M).Sign() != 0
}

func cloneFrame(f impl.Frame) impl.Frame {
	return impl.Frame{M: slices.Clone(f.M), T: slices.Clone(f.T), D: f.D}
}

func sameNumbers(a, b impl.Frame) bool {
	return slices.Equal(a.M, b.M) && slices.Equal(a.T, b.T) && a.D == b.D
}

func isZeroFrame(f impl.Frame) bool { return len(f.M) == 0 && len(f.T) == 0 && f.D == 0 }

// withNumber is f with one of its thirteen numbers changed: those of M, of T, and D.
func withNumber(f impl.Frame, at int, number int64) impl.Frame {
	out := cloneFrame(f)
	switch {
	case at < 9:
		out.M[at] = number
	case at < 12:
		out.T[at-9] = number
	default:
		out.D = number
	}
	return out
}

func still() impl.Frame { return diagonal(1, 1, 1, 1) }

func diagonal(a, b, c, d int64) impl.Frame {
	return impl.Frame{M: []int64{a, 0, 0, 0, b, 0, 0, 0, c}, T: []int64{0, 0, 0}, D: d}
}

// frame is a right frame with numbers of at most most in size.
func (m *mixer) frame(most, scale int64) impl.Frame {
	for {
		f := impl.Frame{D: m.pick(1, scale)}
		for range 9 {
			f.M = append(f.M, m.pick(-most, most))
		}
		for range 3 {
			f.T = append(f.T, m.pick(-most, most))
		}
		if plainFrameOk(f) {
			return f
		}
	}
}

// shear is a right frame with a determinant of 1 or -1, made of few steps, so that its inverse has small numbers too.
func (m *mixer) shear(steps, most int64) impl.Frame {
	now := still().M
	for range steps {
		row, other, times := m.pick(0, 2), m.pick(0, 2), m.pick(-most, most)
		for i := range int64(3) {
			if row == other {
				now[row*3+i] = -now[row*3+i]
			} else {
				now[row*3+i] += times * now[other*3+i]
			}
		}
	}
	return impl.Frame{M: now, T: []int64{m.pick(-9, 9), m.pick(-9, 9), m.pick(-9, 9)}, D: 1}
}

// frames are drawn right frames of all sorts.
func (m *mixer) frames(n int) []impl.Frame {
	var list []impl.Frame
	for range n {
		list = append(list, m.frame(1, 1), m.frame(2, 3), m.frame(9, 9), m.frame(60, 40), m.frame(900, 900), m.frame(1000000, 1000000), m.shear(4, 3), m.shear(6, 9))
	}
	return list
}

// wrongFrames are not right, each for one reason alone.
func wrongFrames() []impl.Frame {
	list := []impl.Frame{
		{},
		{M: still().M, T: still().T},
		{M: still().M[:8], T: still().T, D: 1},
		{M: append(still().M, 0), T: still().T, D: 1},
		{T: still().T, D: 1},
		{M: still().M, D: 1},
		{M: still().M, T: still().T[:2], D: 1},
		{M: still().M, T: append(still().T, 0), D: 1},
		{M: still().T, T: still().M, D: 1},
		diagonal(1, 1, 1, -1),
		diagonal(1, 1, 0, 1),
		diagonal(2, 2, 2, 2),
		diagonal(1, 1, 1, impl.MaxEntry+1),
		{M: []int64{1, 2, 3, 4, 5, 6, 7, 8, 9}, T: still().T, D: 1},
	}
	for at := range 12 {
		list = append(list, withNumber(still(), at, impl.MaxEntry+1), withNumber(still(), at, -impl.MaxEntry-1), withNumber(still(), at, leastInt))
	}
	return list
}

func wantFrame(t *testing.T, what any, got impl.Frame, ok bool, want impl.Frame, wantOk bool) {
	t.Helper()
	if ok != wantOk || !sameNumbers(got, want) {
		t.Errorf("%v: %v %v, want %v %v", what, got, ok, want, wantOk)
	}
	if ok && !impl.FrameOk(got) {
		t.Errorf("%v: %v is not right", what, got)
	}
}

// wantComposed asks for two right frames.
func wantComposed(t *testing.T, what any, a, b impl.Frame) (impl.Frame, bool) {
	t.Helper()
	got, ok := impl.Compose(a, b)
	want, wantOk := affineOf(a).behind(affineOf(b)).frame()
	wantFrame(t, []any{what, a, b}, got, ok, want, wantOk)
	return got, ok
}

// wantInverse asks for a right frame.
func wantInverse(t *testing.T, what any, f impl.Frame) (impl.Frame, bool) {
	t.Helper()
	got, ok := impl.Invert(f)
	way, _ := affineOf(f).back()
	want, wantOk := way.frame()
	wantFrame(t, []any{what, f}, got, ok, want, wantOk)
	return got, ok
}

// plainPlace is where a right frame takes a point.
func plainPlace(f impl.Frame, x, y, z int64) impl.Place {
	to := affineOf(f).moved([3]*big.Rat{ratio(x, 1), ratio(y, 1), ratio(z, 1)})
	common := leastCommon(to[:]...)
	return impl.Place{X: numerator(to[0], common).Int64(), Y: numerator(to[1], common).Int64(), Z: numerator(to[2], common).Int64(), D: common.Int64()}
}

func wantPlace(t *testing.T, f impl.Frame, x, y, z int64) {
	t.Helper()
	if got, want := impl.Move(f, x, y, z), plainPlace(f, x, y, z); got != want {
		t.Errorf("%v takes %d %d %d to %v, want %v", f, x, y, z, got, want)
	}
}

func isZeroVolume(v impl.Volume) bool {
	return v.NX == 0 && v.NY == 0 && v.NZ == 0 && len(v.Vox) == 0
}

// volume is a right one with voxels of at most most in size.
func (m *mixer) volume(nx, ny, nz, most int64) impl.Volume {
	v := impl.Volume{NX: nx, NY: ny, NZ: nz}
	for range nx * ny * nz {
		v.Vox = append(v.Vox, m.pick(-most, most))
	}
	return v
}

// numbered is a volume whose voxels tell their own number, from 1 on.
func numbered(nx, ny, nz int64) impl.Volume {
	v := impl.Volume{NX: nx, NY: ny, NZ: nz}
	for i := range nx * ny * nz {
		v.Vox = append(v.Vox, i%impl.MaxTone+1)
	}
	return v
}

// voxelAt is v's voxel at a place, 0 where it has none.
func voxelAt(v impl.Volume, x, y, z int64) int64 {
	if x < 0 || y < 0 || z < 0 || x >= v.NX || y >= v.NY || z >= v.NZ {
		return 0
	}
	return v.Vox[(z*v.NY+y)*v.NX+x]
}

// wrongVolumes are not right, each for one reason alone.
func wrongVolumes() []impl.Volume {
	list := []impl.Volume{{}, {NX: 1, NY: 1, NZ: 1}, {NX: 2, NY: 2, NZ: 2, Vox: make([]int64, 7)}, {NX: 2, NY: 2, NZ: 2, Vox: make([]int64, 9)},
		{NX: -2, NY: -2, NZ: 2, Vox: make([]int64, 8)}, {NX: 2, NY: -2, NZ: -2, Vox: make([]int64, 8)}, {NX: -2, NY: 2, NZ: -2, Vox: make([]int64, 8)},
		{NX: 33, NY: 1, NZ: 1, Vox: make([]int64, 33)}, {NX: 1, NY: 33, NZ: 1, Vox: make([]int64, 33)}, {NX: 1, NY: 1, NZ: 33, Vox: make([]int64, 33)},
		{NX: 0, NY: 1, NZ: 1}, {NX: 1, NY: 0, NZ: 1}, {NX: 1, NY: 1, NZ: 0}}
	for _, tone := range []int64{impl.MaxTone + 1, -impl.MaxTone - 1, leastInt, mostInt} {
		list = append(list, impl.Volume{NX: 1, NY: 1, NZ: 1, Vox: []int64{tone}}, impl.Volume{NX: 2, NY: 1, NZ: 2, Vox: []int64{1, 2, 3, tone}})
	}
	return list
}
