package tests

import (
	"slices"
	"testing"

	"loop.example/g00050/impl"
)

func TestVotesPlainly(t *testing.T) {
	m := mixer(174)
	for _, size := range sizesOfImages() {
		for n := 1; n <= impl.MaxAtlas; n++ {
			most := []int64{0, 1, 2, 5, 255}[m.pick(0, 4)]
			var atlas []impl.Image
			for range n {
				atlas = append(atlas, m.greyImage(size[0], size[1], most))
			}
			wantImage(t, []any{size, n, most}, impl.Vote(atlas), plainVote(atlas))
		}
	}
	for range 3000 {
		var atlas []impl.Image
		for range m.pick(1, 15) {
			atlas = append(atlas, m.greyImage(2, 2, m.pick(1, 4)))
		}
		wantImage(t, atlas, impl.Vote(atlas), plainVote(atlas))
	}
}

func TestVotesByHand(t *testing.T) {
	for _, c := range []struct {
		votes []int64
		want  int64
	}{
		{[]int64{0}, 0}, {[]int64{255}, 255}, {[]int64{7, 3}, 3}, {[]int64{3, 7}, 3}, {[]int64{0, 255}, 0},
		{[]int64{9, 2, 9}, 9}, {[]int64{2, 9, 9}, 9}, {[]int64{9, 9, 2, 2}, 2}, {[]int64{5, 9, 9, 2, 2}, 2}, {[]int64{1, 9, 9, 2}, 9},
		{[]int64{255, 254, 255, 254, 0}, 254}, {[]int64{3, 2, 1}, 1}, {[]int64{0, 4, 0, 4, 4}, 4},
		{[]int64{15, 14, 13, 12, 11, 10, 9, 8, 7, 6, 5, 4, 3, 2, 1}, 1}, {[]int64{8, 8, 8, 8, 8, 8, 8, 1, 1, 1, 1, 1, 1, 1, 9}, 1}, {[]int64{8, 8, 8, 8, 8, 8, 8, 8, 1, 1, 1, 1, 1, 1, 1}, 8},
	} {
		var atlas []impl.Image
		for _, vote := range c.votes {
			atlas = append(atlas, rowImage(vote, 1))
		}
		wantImage(t, c.votes, impl.Vote(atlas), rowImage(c.want, 1))
	}
}

func TestVoteLimits(t *testing.T) {
	wantZeroImage(t, "none", impl.Vote(nil))
	wantZeroImage(t, "none", impl.Vote([]impl.Image{}))
	right := impl.Image{W: 3, H: 2, Pix: []int64{0, 1, 255, 2, 9, 255}}
	for _, n := range []int{1, 2, 14, 15} {
		wantImage(t, n, impl.Vote(slices.Repeat([]impl.Image{right}, n)), right)
	}
	for _, n := range []int{16, 17, 31, 300} {
		wantZeroImage(t, n, impl.Vote(slices.Repeat([]impl.Image{right}, n)))
	}
	wrongs := noImagesOf(255)
	for _, pixel := range []int64{-1, 256, 1 << 32, leastInt, mostInt} {
		for at := range 6 {
			wrongs = append(wrongs, changed(right, at, pixel))
		}
	}
	for _, size := range [][2]int64{{2, 3}, {6, 1}, {1, 6}, {3, 1}, {3, 3}, {4, 2}, {2, 2}} {
		wrongs = append(wrongs, drawnImage(size[0], size[1], func(_, _ int64) int64 { return 1 }))
	}
	for _, wrong := range wrongs {
		wantZeroImage(t, []any{"first", wrong}, impl.Vote([]impl.Image{wrong, right, right}))
		wantZeroImage(t, []any{"between", wrong}, impl.Vote([]impl.Image{right, wrong, right}))
		wantZeroImage(t, []any{"last", wrong}, impl.Vote([]impl.Image{right, right, wrong}))
	}
	for _, wrong := range noImagesOf(255) {
		wantZeroImage(t, []any{"alone", wrong}, impl.Vote([]impl.Image{wrong}))
	}
}
