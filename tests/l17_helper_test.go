package tests

import (
	"bytes"
	"encoding/binary"
	"fmt"
	"regexp"
	"slices"
	"strconv"
	"strings"
	"testing"

	"loop.example/g00050/impl"
)

// The codes of LoadImage, as the document numbers them.
const ldFile, ldImage = 1, 2

// twinName is a name under which the file of the image {1, 1, [5]}, in form 0 and the codec plain, has the Digest of the body bad.
const twinName = "enxhSsx\xc5\xeb\x91\x98\xe1_kh#"

func imageOf(w, h int64, pix ...int64) impl.Image { return impl.Image{W: w, H: h, Pix: pix} }

// isPlainPicture asks whether an image may be saved, but for the length of its bytes.
func isPlainPicture(im impl.Image) bool {
	return liesFrom(im.W, 1, 64) && liesFrom(im.H, 1, 64) && int64(len(im.Pix)) == im.W*im.H && allLieFrom(im.Pix, 0, 65535)
}

// plainSave lays the bytes of the four elements one behind the other.
func plainSave(im impl.Image, name string, form int64, codec string) []byte {
	packed, ok := plainCompress(codec, im.Pix)
	if !ok || !isPlainPicture(im) || len(name) > 4096 || len(packed) > 4096 || form < 0 || form > 3 {
		return nil
	}
	body := ""
	put := func(tag, kind, value string) {
		if form%2 == 0 {
			kind = ""
		}
		body += tag + kind + lowFirst(int64(len(value)), 4) + value
	}
	put("\x10\x00\x00\x00", "\x01", name)
	put("\x28\x00\x01\x00", "\x03", lowFirst(im.W, 4)+lowFirst(im.H, 4))
	put("\x28\x00\x05\x00", "\x01", codec)
	put("\x28\x00\x09\x00", "\x02", string(packed))
	return sealed(byte(form), body)
}

// savedList has the elements of a saved image.
func savedList(w, h int64, name, codec, packed string) []impl.Elem {
	return elemsOf(textAt(16, 0, name), wholesAt(40, 1, w, h), textAt(40, 5, codec), bytesAt(40, 9, packed))
}

// plainLoad looks at the elements one by one and saves nothing.
func plainLoad(b []byte) (impl.Image, string, int64) {
	list, fault := plainRead(b)
	if fault.Code != 0 {
		return impl.Image{}, "", 1
	}
	if len(list) != 4 || len(list[1].Nums) != 2 {
		return impl.Image{}, "", 2
	}
	w, h, name, codec, packed := list[1].Nums[0], list[1].Nums[1], list[0].Text, list[2].Text, list[3].Text
	pix, ok := plainExpand(codec, []byte(packed))
	im := impl.Image{W: w, H: h, Pix: pix}
	if !ok || !isPlainPicture(im) || !sameElems(list, savedList(w, h, name, codec, packed)) {
		return impl.Image{}, "", 2
	}
	return im, name, 0
}

// save asks SaveImage, and holds its answer against the test's own reckoning.
func save(t *testing.T, what any, im impl.Image, name string, form int64, codec string) []byte {
	t.Helper()
	got := impl.SaveImage(im, name, form, codec)
	want := plainSave(im, name, form, codec)
	if !bytes.Equal(got, want) {
		t.Errorf("%v: %d x %d, %.40q, form %d, %q: %d bytes %x, want %d bytes %x", what, im.W, im.H, name, form, codec, len(got), got[:min(len(got), 100)], len(want), want[:min(len(want), 100)])
	}
	return got
}

func wantSaved(t *testing.T, what any, im impl.Image, name string, form int64, codec string) {
	t.Helper()
	b := save(t, what, im, name, form, codec)
	if len(b) == 0 {
		t.Errorf("%v: %d x %d, %.40q, form %d, %q is not saved", what, im.W, im.H, name, form, codec)
	}
	wantLoaded(t, what, b, im, name)
}

func wantNotSaved(t *testing.T, what any, im impl.Image, name string, form int64, codec string) {
	t.Helper()
	if b := save(t, what, im, name, form, codec); len(b) > 0 {
		t.Errorf("%v: %d x %d, %.40q, form %d, %q is saved", what, im.W, im.H, name, form, codec)
	}
}

// load asks LoadImage, and holds its answers against the test's own reckoning.
func load(t *testing.T, what any, b []byte) (impl.Image, string, int64) {
	t.Helper()
	im, name, code := impl.LoadImage(b)
	wantIm, wantName, wantCode := plainLoad(b)
	if code != wantCode || name != wantName || !sameImage(im, wantIm) {
		t.Errorf("%v: %d bytes %x: %d x %d %s, %.40q, %d, want %d x %d %s, %.40q, %d", what, len(b), b[:min(len(b), 100)], im.W, im.H, brief(im.Pix), name, code, wantIm.W, wantIm.H, brief(wantIm.Pix), wantName, wantCode)
	}
	return im, name, code
}

func wantLoaded(t *testing.T, what any, b []byte, im impl.Image, name string) {
	t.Helper()
	got, gotName, code := load(t, what, b)
	if code != 0 || gotName != name {
		t.Errorf("%v: name %.40q, code %d, want %.40q and 0", what, gotName, code, name)
	}
	wantImage(t, what, got, im)
}

func wantNotLoaded(t *testing.T, what any, b []byte, want int64) {
	t.Helper()
	im, name, code := load(t, what, b)
	wantNumber(t, what, code, want)
	if !isZeroImage(im) || name != "" {
		t.Errorf("%v: %d x %d, %q beside a code", what, im.W, im.H, name)
	}
}

// plainHouse has what the lines of a script work on, as the document names it.
type plainHouse struct {
	shapes  []impl.Shape
	picture impl.Image
	samples impl.KSpace
	archive impl.Arch
}

const (
	numberForm = `(0|-?[1-9][0-9]{0,8})`
	wordForm   = `([^ ]*)`
)

// scriptLines are the document's lines as patterns, a number for each blank and n, a word for each blank and w.
var scriptLines = func() map[string]*regexp.Regexp {
	all := map[string]*regexp.Regexp{"play": regexp.MustCompile(`^play (.*)$`)}
	for _, line := range strings.Split("shape n n n n n n n,clear,paint n n,residues,scan,rebuild,store w n w,commit w n,hold w n,free w n,drop w n,fetch w n,scrub,tick,damage w n,show", ",") {
		form := strings.NewReplacer(" n", " "+numberForm, " w", " "+wordForm).Replace(line)
		all[strings.Fields(line)[0]] = regexp.MustCompile("^" + form + "$")
	}
	return all
}()

// plainScript answers a script as the words say.
func plainScript(text string) string {
	lines := strings.SplitAfter(text, "\n")
	if lines[len(lines)-1] == "" {
		lines = lines[:len(lines)-1]
	}
	if len(text) > 20000 || len(lines) > 300 {
		return ""
	}
	out, h := "", plainHouse{}
	for _, line := range lines {
		if line = strings.TrimSuffix(line, "\n"); len(line) > 0 {
			was := h
			answer, code := h.answer(line)
			if code != 0 {
				h, answer = was, []int64{code}
			}
			out += map[bool]string{true: "ok", false: "error"}[code == 0]
			for _, n := range answer {
				out += fmt.Sprint(" ", n)
			}
			out += "\n"
		}
	}
	return out
}

// answer has the numbers behind ok, or the one behind error.
func (h *plainHouse) answer(line string) ([]int64, int64) {
	for word, form := range scriptLines {
		if words := form.FindStringSubmatch(line); words != nil {
			nums := make([]int64, len(words))
			for k, word := range words {
				nums[k], _ = strconv.ParseInt(word, 10, 64)
			}
			return h.done(word, words, nums)
		}
	}
	return nil, 1
}

// done is given the words of a line, number 0 being the whole of it; nums are the same as numbers, where they are some.
func (h *plainHouse) done(word string, words []string, nums []int64) ([]int64, int64) {
	switch word {
	case "shape":
		s := impl.Shape{Kind: nums[1], X: nums[2], Y: nums[3], A: nums[4], B: nums[5], C: nums[6], Value: nums[7]}
		if !impl.ShapeOk(s) || len(h.shapes) == 64 {
			return nil, 2
		}
		h.shapes = append(slices.Clone(h.shapes), s)
		return []int64{int64(len(h.shapes))}, 0
	case "clear":
		h.shapes = nil
		return nil, 0
	case "paint":
		if !liesFrom(nums[1], 1, 64) || !liesFrom(nums[2], 1, 64) {
			return nil, 3
		}
		h.picture = drawnImage(nums[1], nums[2], func(x, y int64) int64 { return densityOf(h.shapes, x, y) })
		return plainWeight(h.picture), 0
	case "residues":
		h.picture = residuesOf(h.picture)
		return plainWeight(h.picture), 3 * oneIf(h.picture.W == 0)
	case "play", "scan", "rebuild":
		return h.scanned(word, words)
	case "damage":
		if words[1] != "left" && words[1] != "right" {
			return nil, 1
		}
		h.archive = plainDamage(h.archive, words[1] == "right", nums[2], "bad")
		return nil, 0
	case "show":
		return []int64{h.picture.W, h.picture.H, pixelDigest(h.picture)}, 0
	}
	return h.deed(word, words, nums)
}

func (h *plainHouse) scanned(word string, words []string) ([]int64, int64) {
	n := h.picture.W
	fits := slices.Contains(sides(), n) && h.picture.H == n
	switch word {
	case "rebuild":
		k := h.samples
		if k.N == 0 {
			return nil, 3
		}
		h.picture = plainSpectrum(impl.Image{W: k.N, H: k.N, Pix: k.Pix}, true)
		missing := int64(0)
		for _, have := range k.Have {
			missing += oneIf(have == 0)
		}
		return []int64{missing}, 0
	case "scan":
		words = []string{"", ""}
		for v := range n {
			step := ""
			if v > 0 {
				step = fmt.Sprintf("grad y %d 4; ", v)
			}
			words[1] += fmt.Sprintf("rf x 1; %sread %d; wait 4; ", step, n)
		}
		words[1] = strings.TrimSuffix(words[1], "; ")
	}
	ps, fault := parsed(words[1])
	list, _, code := unrolled(ps)
	if fault.Code != 0 || code != 0 || !fits {
		return nil, 3
	}
	path := sampled(list)
	h.samples = sampledSpectrum(h.picture, path)
	return []int64{int64(len(path))}, 0
}

func (h *plainHouse) deed(word string, words []string, nums []int64) ([]int64, int64) {
	d := impl.Deed{Kind: map[string]int64{"store": 1, "commit": 2, "fetch": 3, "hold": 4, "free": 5, "drop": 6, "scrub": 7, "tick": 8}[word]}
	if d.Kind < 7 {
		d.Name, d.Version = words[1], nums[2]
	}
	if word == "store" {
		d.Version, d.Body = 0, string(plainSave(h.picture, d.Name, nums[2], words[3]))
		if d.Body == "" {
			return nil, 3
		}
	}
	after, answer := plainArchDo(h.archive, d)
	if answer.Code != 0 {
		return nil, 10 + answer.Code
	}
	h.archive = after
	switch word {
	case "commit", "hold", "free", "drop":
		return nil, 0
	case "fetch":
		im, _, code := plainLoad([]byte(answer.Body))
		if code != 0 {
			return nil, 3
		}
		h.picture = im
	}
	return []int64{answer.Version}, 0
}

func plainWeight(im impl.Image) []int64 {
	sums := make([]int64, 3)
	for y := range im.H {
		for x := range im.W {
			pixel, _ := pixelAt(im, x, y)
			sums[0] += pixel
			sums[1] += x * pixel
			sums[2] += y * pixel
		}
	}
	return sums
}

func pixelDigest(im impl.Image) int64 {
	var b []byte
	for _, pixel := range im.Pix {
		b = binary.LittleEndian.AppendUint64(b, uint64(pixel))
	}
	return quickDigest(string(b))
}

// shownAs is what show answers to an image.
func shownAs(im impl.Image) string {
	return fmt.Sprintf("ok %d %d %d", im.W, im.H, pixelDigest(im))
}

// run asks HouseRun, and holds all of it against the test's own reckoning; it has the answers without their byte 10.
func run(t *testing.T, what any, text string) []string {
	t.Helper()
	got, want := impl.HouseRun(text), plainScript(text)
	if got != want {
		t.Errorf("%v: of %.300q: %.300q, want %.300q", what, text, got, want)
	}
	if got == "" {
		return nil
	}
	return strings.Split(strings.TrimSuffix(got, "\n"), "\n")
}

// wantAnswers asks for these answers to these lines.
func wantAnswers(t *testing.T, what any, lines []string, want ...string) {
	t.Helper()
	got := run(t, what, strings.Join(lines, "\n"))
	if !slices.Equal(got, want) {
		t.Errorf("%v: %.300q: %.300q, want %.300q", what, lines, got, want)
	}
}

// script asks for the answers to lines that are told in turns: a line, its answer, a line, its answer.
func script(t *testing.T, what any, turns ...string) {
	t.Helper()
	var lines, want []string
	for k := 0; k+1 < len(turns); k += 2 {
		lines, want = append(lines, turns[k]), append(want, turns[k+1])
	}
	wantAnswers(t, what, lines, want...)
}

// boxLine is the line of a shape that is the pixel (x, y) alone.
func boxLine(x, y, value int64) string {
	return fmt.Sprintf("shape 1 %d %d 0 0 0 %d", x, y, value)
}

// shapeLine is the line of a shape.
func shapeLine(s impl.Shape) string {
	return fmt.Sprintf("shape %d %d %d %d %d %d %d", s.Kind, s.X, s.Y, s.A, s.B, s.C, s.Value)
}

func shapeLines(shapes []impl.Shape) []string {
	var lines []string
	for _, s := range shapes {
		lines = append(lines, shapeLine(s))
	}
	return lines
}

// lastAnswers runs lines and has the answers to the last of them, as many as asked for.
func lastAnswers(t *testing.T, what any, count int, lines ...string) []string {
	t.Helper()
	got := run(t, what, strings.Join(lines, "\n"))
	if len(got) < count {
		t.Fatalf("%v: %d answers to %.300q", what, len(got), lines)
	}
	return got[len(got)-count:]
}
