package tests

import (
	"math/big"
	"slices"
	"testing"

	"loop.example/g00050/impl"
)

// greyImage is drawn from the tones 0 to most.
func (m *mixer) greyImage(w, h, most int64) impl.Image {
	return drawnImage(w, h, func(_, _ int64) int64 { return m.pick(0, most) })
}

// noImagesOf are images that are not right, and right ones with a pixel that is not from 0 to most.
func noImagesOf(most int64) []impl.Image {
	list := wrongImages()
	for _, pixel := range []int64{-1, -2, most + 1, most + 2, -most, 1 << 29, impl.MaxPix, -impl.MaxPix} {
		list = append(list, rowImage(pixel))
		for at := range 6 {
			list = append(list, changed(impl.Image{W: 3, H: 2, Pix: []int64{0, 1, most, 1, 0, most}}, at, pixel))
		}
	}
	return list
}

// worthAt is what the document says of a threshold, as a fraction without an end.
func worthAt(hist []int64, t int) (*big.Rat, bool) {
	count, tones := [2]*big.Int{new(big.Int), new(big.Int)}, [2]*big.Int{new(big.Int), new(big.Int)}
	for tone, n := range hist {
		side := oneIf(tone > t)
		count[side].Add(count[side], big.NewInt(n))
		tones[side].Add(tones[side], new(big.Int).Mul(big.NewInt(n), big.NewInt(int64(tone))))
	}
	if count[0].Sign() == 0 || count[1].Sign() == 0 {
		return nil, false
	}
	top := new(big.Int).Sub(new(big.Int).Mul(tones[0], count[1]), new(big.Int).Mul(tones[1], count[0]))
	return new(big.Rat).SetFrac(top.Mul(top, top), new(big.Int).Mul(count[0], count[1])), true
}

// histOf has counts at tones, told in pairs.
func histOf(pairs ...int64) []int64 {
	hist := make([]int64, 256)
	for i := 0; i < len(pairs); i += 2 {
		hist[pairs[i]] += pairs[i+1]
	}
	return hist
}

// hist has count pixels of at most kinds tones.
func (m *mixer) hist(kinds, count int64) []int64 {
	hist, tones := make([]int64, 256), []int64{}
	for range kinds {
		tones = append(tones, m.pick(0, 255))
	}
	for count > 0 {
		some := m.pick(1, max(count/4, 1))
		hist[tones[m.pick(0, kinds-1)]] += some
		count -= some
	}
	return hist
}

// besides are the ways up, left, right and down.
func besides() [4][2]int64 { return [4][2]int64{{0, -1}, {-1, 0}, {1, 0}, {0, 1}} }

// comer is how a pixel that belongs to none lies beside one that does: the tone, when the first such one was taken, which of its neighbours this is, and whose that one is.
type comer struct {
	tone, when, way, owner int64
}

func (c comer) isAhead(other comer) bool {
	return slices.Compare([]int64{c.tone, c.when, c.way}, []int64{other.tone, other.when, other.way}) < 0
}

// plainComer is asked anew of each pixel at each step: no line is kept.
func plainComer(im, owners impl.Image, when []int64, x, y int64) (comer, bool) {
	found, first := false, comer{}
	for way, step := range besides() {
		a, b := x-step[0], y-step[1] // this is its neighbour number way
		owner, stands := pixelAt(owners, a, b)
		if !stands || owner == 0 {
			continue
		}
		c := comer{tone: im.Pix[y*im.W+x], when: when[b*im.W+a], way: int64(way), owner: owner}
		if !found || c.isAhead(first) {
			found, first = true, c
		}
	}
	return first, found
}

// plainWatershed goes through all pixels for each one that is taken.
func plainWatershed(im, seeds impl.Image) impl.Image {
	owners, when, taken := impl.Image{W: im.W, H: im.H, Pix: slices.Clone(seeds.Pix)}, make([]int64, len(im.Pix)), int64(0)
	for place, seed := range seeds.Pix {
		if seed != 0 {
			when[place] = taken
			taken++
		}
	}
	for {
		at, first := int64(-1), comer{}
		for place, owner := range owners.Pix {
			if owner != 0 {
				continue
			}
			c, beside := plainComer(im, owners, when, int64(place)%im.W, int64(place)/im.W)
			if beside && (at == -1 || c.isAhead(first)) {
				at, first = int64(place), c
			}
		}
		if at == -1 {
			return owners
		}
		owners.Pix[at], when[at] = first.owner, taken
		taken++
	}
}

// plainCost is what the document says a parting costs.
func plainCost(mask, source, sink impl.Image, link int64) int64 {
	cost := int64(0)
	for y := range mask.H {
		for x := range mask.W {
			place := y*mask.W + x
			own := mask.Pix[place]
			if own == 0 {
				cost += source.Pix[place]
			} else {
				cost += sink.Pix[place]
			}
			if x+1 < mask.W && mask.Pix[place+1] != own {
				cost += link
			}
			if y+1 < mask.H && mask.Pix[place+mask.W] != own {
				cost += link
			}
		}
	}
	return cost
}

// everyCut holds all masks against each other: the least cost, and the ones that all of the least have.
func everyCut(source, sink impl.Image, link int64) (impl.Image, int64) {
	n, least, common := source.W*source.H, int64(-1), int64(0)
	for bits := range int64(1) << n {
		cost := plainCost(impl.Image{W: source.W, H: source.H, Pix: bitsOfMask(bits, n)}, source, sink, link)
		switch {
		case least == -1 || cost < least:
			least, common = cost, bits
		case cost == least:
			common &= bits
		}
	}
	return impl.Image{W: source.W, H: source.H, Pix: bitsOfMask(common, n)}, least
}

// leastCost goes pixel by pixel and keeps the least cost for each way in which the last W pixels may stand. The pixel at nought, if there is one, is held to be 0.
func leastCost(source, sink impl.Image, link int64, nought int64) int64 {
	const never = int64(1) << 60
	states := int64(1) << source.W // the pixel that was the last is the lowest bit, the one above the next is the highest
	costs, next := make([]int64, states), make([]int64, states)
	for place := range source.W * source.H {
		for state := range states {
			next[state] = never
		}
		for state, cost := range costs {
			if place == 0 && state != 0 || cost == never {
				continue
			}
			for own := range int64(2) {
				if own == 1 && place == nought {
					continue
				}
				sum := cost + (1-own)*source.Pix[place] + own*sink.Pix[place]
				if place%source.W > 0 && int64(state)&1 != own {
					sum += link
				}
				if place >= source.W && int64(state)>>(source.W-1)&1 != own {
					sum += link
				}
				to := (int64(state)<<1 | own) & (states - 1)
				next[to] = min(next[to], sum)
			}
		}
		costs, next = next, costs
	}
	return slices.Min(costs)
}

// leastCut asks of each pixel whether it may be 0 at the least cost. The image is best narrow.
func leastCut(source, sink impl.Image, link int64) (impl.Image, int64) {
	least := leastCost(source, sink, link, -1)
	return drawnImage(source.W, source.H, func(x, y int64) int64 {
		return oneIf(leastCost(source, sink, link, y*source.W+x) != least)
	}), least
}

// plainVote counts each number there may be.
func plainVote(atlas []impl.Image) impl.Image {
	return drawnImage(atlas[0].W, atlas[0].H, func(x, y int64) int64 {
		best, most := int64(-1), 0
		for number := range int64(256) {
			votes := 0
			for _, im := range atlas {
				votes += int(oneIf(im.Pix[y*im.W+x] == number))
			}
			if votes > most {
				best, most = number, votes
			}
		}
		return best
	})
}

// solidAt says whether the volume has a voxel above 0 there.
func solidAt(v impl.Volume, x, y, z int64) bool {
	if x < 0 || y < 0 || z < 0 || x >= v.NX || y >= v.NY || z >= v.NZ {
		return false
	}
	return v.Vox[(z*v.NY+y)*v.NX+x] > 0
}

func solidCount(v impl.Volume) int64 {
	count := int64(0)
	for _, voxel := range v.Vox {
		count += oneIf(voxel > 0)
	}
	return count
}

// plainSurface has the six faces of each voxel written out.
func plainSurface(v impl.Volume) []impl.Face {
	var faces []impl.Face
	add := func(bare bool, face impl.Face) {
		if bare {
			faces = append(faces, face)
		}
	}
	for z := range v.NZ {
		for y := range v.NY {
			for x := range v.NX {
				if !solidAt(v, x, y, z) {
					continue
				}
				add(!solidAt(v, x-1, y, z), impl.Face{X: x, Y: y, Z: z, Axis: 1, Sign: -1})
				add(!solidAt(v, x+1, y, z), impl.Face{X: x + 1, Y: y, Z: z, Axis: 1, Sign: 1})
				add(!solidAt(v, x, y-1, z), impl.Face{X: x, Y: y, Z: z, Axis: 2, Sign: -1})
				add(!solidAt(v, x, y+1, z), impl.Face{X: x, Y: y + 1, Z: z, Axis: 2, Sign: 1})
				add(!solidAt(v, x, y, z-1), impl.Face{X: x, Y: y, Z: z, Axis: 3, Sign: -1})
				add(!solidAt(v, x, y, z+1), impl.Face{X: x, Y: y, Z: z + 1, Axis: 3, Sign: 1})
			}
		}
	}
	return faces
}

type point [3]int64

func (p point) less(q point) point { return point{p[0] - q[0], p[1] - q[1], p[2] - q[2]} }

// turning is above 0 where one goes from p to q by the right hand about n.
func turning(p, q, n point) int64 {
	return n[0]*(p[1]*q[2]-p[2]*q[1]) + n[1]*(p[2]*q[0]-p[0]*q[2]) + n[2]*(p[0]*q[1]-p[1]*q[0])
}

// goneRound are the four edges of a face, each from corner to corner; all numbers are doubled, so that the middle of the face is whole.
func goneRound(face impl.Face) [][2]point {
	upright, least := int(face.Axis-1), point{2 * face.X, 2 * face.Y, 2 * face.Z}
	out, middle, corners := point{}, point{least[0] + 1, least[1] + 1, least[2] + 1}, []point{}
	out[upright], middle[upright] = face.Sign, least[upright]
	for bits := range int64(8) {
		if bits>>upright&1 == 0 {
			corners = append(corners, point{least[0] + 2*(bits&1), least[1] + 2*(bits>>1&1), least[2] + 2*(bits>>2)})
		}
	}
	var list [][2]point
	for _, from := range corners {
		for _, to := range corners {
			if turning(from.less(middle), to.less(middle), out) > 0 {
				list = append(list, [2]point{from, to})
			}
		}
	}
	return list
}

func plainClosed(faces []impl.Face) bool {
	gone := map[[2]point]int{}
	for _, face := range faces {
		for _, way := range goneRound(face) {
			gone[way]++
		}
	}
	for way, times := range gone {
		if gone[[2]point{way[1], way[0]}] != times {
			return false
		}
	}
	return true
}

func plainEnclosed(faces []impl.Face) int64 {
	sum := int64(0)
	for _, face := range faces {
		if face.Axis == 1 {
			sum += face.Sign * face.X
		}
	}
	return sum
}

// facesOf has the numbers of each face in the order of its fields.
func facesOf(rows [][5]int64) []impl.Face {
	var faces []impl.Face
	for _, row := range rows {
		faces = append(faces, impl.Face{X: row[0], Y: row[1], Z: row[2], Axis: row[3], Sign: row[4]})
	}
	return faces
}

// turnedRound is the same square with the other direction.
func turnedRound(face impl.Face) impl.Face {
	face.Sign = -face.Sign
	return face
}

func wantFaces(t *testing.T, what any, got, want []impl.Face) {
	t.Helper()
	if !slices.Equal(got, want) {
		t.Errorf("%v: %d faces %v .., want %d %v ..", what, len(got), got[:min(len(got), 8)], len(want), want[:min(len(want), 8)])
	}
}
