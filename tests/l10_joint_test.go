package tests

import (
	"testing"

	"loop.example/g00050/impl"
)

func TestJointCountsByHand(t *testing.T) {
	wantJoints(t, "one pixel", impl.JointCounts(rowImage(7), rowImage(-3)), jointsOf([3]int64{7, -3, 1}))
	wantJoints(t, "like pixels", impl.JointCounts(rowImage(4, 4, 4), rowImage(4, 4, 4)), jointsOf([3]int64{4, 4, 3}))
	wantJoints(t, "one B", impl.JointCounts(rowImage(2, 1, 2), rowImage(5, 5, 5)), jointsOf([3]int64{1, 5, 1}, [3]int64{2, 5, 2}))
	wantJoints(t, "one A", impl.JointCounts(rowImage(5, 5, 5), rowImage(2, 1, 2)), jointsOf([3]int64{5, 1, 1}, [3]int64{5, 2, 2}))
	wantJoints(t, "all unlike", impl.JointCounts(rowImage(3, 2, 1, 0, -1), rowImage(1, 2, 3, 4, 5)),
		jointsOf([3]int64{-1, 5, 1}, [3]int64{0, 4, 1}, [3]int64{1, 3, 1}, [3]int64{2, 2, 1}, [3]int64{3, 1, 1}))
	wantJoints(t, "by A, then by B", impl.JointCounts(rowImage(1, 0, 1, 0, 1, 0), rowImage(9, -8, -9, 8, 9, 8)),
		jointsOf([3]int64{0, -8, 1}, [3]int64{0, 8, 2}, [3]int64{1, -9, 1}, [3]int64{1, 9, 2}))
	// A pair and the same turned round are two.
	wantJoints(t, "turned round", impl.JointCounts(rowImage(1, 2, 1), rowImage(2, 1, 2)), jointsOf([3]int64{1, 2, 2}, [3]int64{2, 1, 1}))
	least, most := int64(-impl.MaxPix), int64(impl.MaxPix)
	wantJoints(t, "limits", impl.JointCounts(rowImage(most, least, most, least, most), rowImage(most, most, least, least, most)),
		jointsOf([3]int64{least, least, 1}, [3]int64{least, most, 1}, [3]int64{most, least, 1}, [3]int64{most, most, 2}))
}

func TestJointCountsOfManySizes(t *testing.T) {
	m := mixer(187)
	for _, size := range sizesOfImages() {
		for _, most := range []int64{0, 1, 3, impl.MaxPix} {
			a, b := m.image(size[0], size[1], most), m.image(size[0], size[1], m.pick(0, 2))
			got := impl.JointCounts(a, b)
			wantJoints(t, []any{size, most}, got, plainJoints(a, b))
			wantJoints(t, []any{"turned round", size, most}, impl.JointCounts(b, a), plainJoints(b, a))
			all := int64(0)
			for at, joint := range got {
				all += joint.Count
				if joint.Count < 1 || at > 0 && (got[at-1].A > joint.A || got[at-1].A == joint.A && got[at-1].B >= joint.B) {
					t.Error(size, most, at, got)
				}
			}
			if all != size[0]*size[1] {
				t.Error(size, most, all)
			}
		}
	}
	// 4096 pairs, no two alike.
	a := drawnImage(64, 64, func(x, y int64) int64 { return y - x })
	b := drawnImage(64, 64, func(x, y int64) int64 { return x + y })
	if got := impl.JointCounts(a, b); len(got) != 4096 || got[0] != (impl.Joint{A: -63, B: 63, Count: 1}) || got[4095] != (impl.Joint{A: 63, B: 63, Count: 1}) {
		t.Error(len(got))
	}
}

func TestJointCountsAreRefused(t *testing.T) {
	right := rowImage(1, 2, 3, 4)
	for _, wrong := range wrongImages() {
		wantJoints(t, wrong, impl.JointCounts(wrong, wrong), nil)
		wantJoints(t, wrong, impl.JointCounts(wrong, right), nil)
		wantJoints(t, wrong, impl.JointCounts(right, wrong), nil)
	}
	for _, pixel := range []int64{impl.MaxPix + 1, -impl.MaxPix - 1, leastInt, mostInt} {
		for at := range 4 {
			wantJoints(t, pixel, impl.JointCounts(changed(right, at, pixel), right), nil)
			wantJoints(t, pixel, impl.JointCounts(right, changed(right, at, pixel)), nil)
		}
	}
	// As many pixels, but not of one size.
	for _, other := range []impl.Image{upright(right), {W: 2, H: 2, Pix: []int64{1, 2, 3, 4}}, rowImage(1, 2, 3), rowImage(1, 2, 3, 4, 5), {W: 4, H: 2, Pix: make([]int64, 8)}} {
		wantJoints(t, other, impl.JointCounts(right, other), nil)
		wantJoints(t, other, impl.JointCounts(other, right), nil)
	}
}
