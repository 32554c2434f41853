package tests

import (
	"bytes"
	"math/big"
	"slices"
	"strconv"
	"strings"
	"testing"

	"loop.example/g00050/impl"
)

func codecNames() []string { return []string{"plain", "rice", "runs", "steps"} }

// noCodecs are names that are no codec's, near ones among them.
func noCodecs() []string {
	return []string{"", " ", "none", "Plain", "RICE", "Runs", "stepS", "plain ", " rice", "runs\n", "steps\x00", "plai", "ric", "run", "step", "plainrice", "plain,rice", "p", "0", "1", "\xff"}
}

// bitsOf has the lowest bits of a number as digits, the lowest first.
func bitsOf(n, count int64) string {
	if count == 0 {
		return ""
	}
	digits := []byte(strings.Repeat("0", 64) + strconv.FormatInt(n, 2))
	slices.Reverse(digits)
	return string(digits[:count])
}

// bytesOfBits lays digits into bytes, with noughts for what is left over.
func bytesOfBits(digits string) []byte {
	var out []byte
	for at := 0; at < len(digits); at += 8 {
		part := 0
		for k, digit := range digits[at:min(at+8, len(digits))] {
			part += int(digit-'0') * []int{1, 2, 4, 8, 16, 32, 64, 128}[k]
		}
		out = append(out, byte(part))
	}
	return out
}

func digitsOfBytes(b []byte) string {
	var digits strings.Builder
	for _, part := range b {
		digits.WriteString(bitsOf(int64(part), 8))
	}
	return digits.String()
}

func wholeOfDigits(digits string) int64 {
	n := int64(0)
	for at := len(digits) - 1; at >= 0; at-- {
		n = n*2 + int64(digits[at]-'0')
	}
	return n
}

func areTonesOf(tones []int64) bool {
	return len(tones) <= 65536 && allLieFrom(tones, 0, 65535)
}

func plainPack(tones []int64, bits int64) []byte {
	if !areTonesOf(tones) || bits < 1 || bits > 16 {
		return nil
	}
	var digits strings.Builder
	for _, tone := range tones {
		if len(strconv.FormatInt(tone, 2)) > int(bits) {
			return nil
		}
		digits.WriteString(bitsOf(tone, bits))
	}
	return bytesOfBits(digits.String())
}

// plainUnpack looks at each bit and packs nothing.
func plainUnpack(b []byte, n, bits int64) ([]int64, bool) {
	if n < 0 || n > 65536 || bits < 1 || bits > 16 || !liesFrom(8*int64(len(b))-n*bits, 0, 7) {
		return nil, false
	}
	digits := digitsOfBytes(b)
	if strings.Contains(digits[n*bits:], "1") {
		return nil, false
	}
	var tones []int64
	for i := range n {
		tones = append(tones, wholeOfDigits(digits[i*bits:(i+1)*bits]))
	}
	return tones, true
}

func plainSmall(n int64) []byte {
	if n < 128 {
		return []byte{byte(n)}
	}
	return append([]byte{byte(128 + n%128)}, plainSmall(n/128)...)
}

// riceLength is how many bits tones have with k.
func riceLength(tones []int64, k int) int64 {
	power, length := int64(1)<<k, int64(0)
	for _, tone := range tones {
		length += tone/power + 1 + int64(k)
	}
	return length
}

func plainBest(tones []int64) int {
	var lengths []int64
	for k := range 16 {
		lengths = append(lengths, riceLength(tones, k))
	}
	return slices.Index(lengths, slices.Min(lengths))
}

// riceBody has the bytes behind the count, with any k.
func riceBody(tones []int64, k int) []byte {
	var digits strings.Builder
	for _, tone := range tones {
		digits.WriteString(strings.Repeat("1", int(tone)/(1<<k)) + "0" + bitsOf(tone, int64(k)))
	}
	return append([]byte{byte(k)}, bytesOfBits(digits.String())...)
}

func runsBody(tones []int64) []byte {
	var out []byte
	for start, i := 0, 1; i <= len(tones); i++ {
		if i == len(tones) || tones[i] != tones[start] {
			out = append(append(out, plainSmall(int64(i-start))...), plainSmall(tones[start])...)
			start = i
		}
	}
	return out
}

func stepsBody(tones []int64) []byte {
	var out []byte
	for i, tone := range tones {
		if i > 0 {
			tone -= tones[i-1]
		}
		code := 2 * tone
		if tone < 0 {
			code = -2*tone - 1
		}
		out = append(out, plainSmall(code)...)
	}
	return out
}

func plainCompress(name string, tones []int64) ([]byte, bool) {
	if !areTonesOf(tones) {
		return nil, false
	}
	out := plainSmall(int64(len(tones)))
	switch name {
	case "plain":
		for _, tone := range tones {
			out = append(out, byte(tone%256), byte(tone/256))
		}
	case "rice":
		out = append(out, riceBody(tones, plainBest(tones))...)
	case "runs":
		out = append(out, runsBody(tones)...)
	case "steps":
		out = append(out, stepsBody(tones)...)
	default:
		return nil, false
	}
	return out, true
}

// codeReader takes small numbers off bytes and minds every rule of theirs.
type codeReader struct {
	rest   []byte
	broken bool
}

// small has a number from least to most; any other one breaks what is read.
func (r *codeReader) small(least, most int64) int64 {
	n, factor := new(big.Int), big.NewInt(1)
	for at, part := range r.rest[:min(len(r.rest), 30)] { // a longer one is too great, if it is one
		n.Add(n, new(big.Int).Mul(factor, big.NewInt(int64(part%128))))
		factor.Mul(factor, big.NewInt(128))
		if part >= 128 {
			continue
		}
		if part == 0 && at > 0 || !n.IsInt64() || !liesFrom(n.Int64(), least, most) {
			break
		}
		r.rest = r.rest[at+1:]
		return n.Int64()
	}
	r.broken, r.rest = true, nil
	return 0
}

// plainExpand looks at every byte as it comes and compresses nothing.
func plainExpand(name string, b []byte) ([]int64, bool) {
	r := codeReader{rest: b}
	count := r.small(0, 65536)
	if r.broken {
		return nil, false
	}
	var tones []int64
	switch name {
	case "plain":
		if int64(len(r.rest)) != 2*count {
			return nil, false
		}
		for at := 0; at < len(r.rest); at += 2 {
			tones = append(tones, int64(r.rest[at])+256*int64(r.rest[at+1]))
		}
		r.rest = nil
	case "rice":
		return plainRiceTones(r.rest, count)
	case "runs":
		for left := count; left > 0 && !r.broken; left = count - int64(len(tones)) {
			length, tone := r.small(1, left), r.small(0, 65535)
			r.broken = r.broken || len(tones) > 0 && tones[len(tones)-1] == tone
			tones = append(tones, slices.Repeat([]int64{tone}, int(length))...)
		}
	case "steps":
		for now := int64(0); int64(len(tones)) < count && !r.broken; {
			code := r.small(0, 131070)
			step := code / 2
			if code%2 == 1 {
				step = -(code + 1) / 2
			}
			now += step
			r.broken = r.broken || !liesFrom(now, 0, 65535)
			tones = append(tones, now)
		}
	default:
		return nil, false
	}
	if r.broken || len(r.rest) > 0 {
		return nil, false
	}
	return tones, true
}

func plainRiceTones(b []byte, count int64) ([]int64, bool) {
	if len(b) == 0 || b[0] > 15 {
		return nil, false
	}
	k, digits := int(b[0]), digitsOfBytes(b[1:])
	var tones []int64
	for range count {
		high := strings.IndexByte(digits, '0')
		if high < 0 || len(digits) < high+1+k || high<<k > 65535 {
			return nil, false
		}
		tones = append(tones, int64(high)<<k+wholeOfDigits(digits[high+1:high+1+k]))
		digits = digits[high+1+k:]
	}
	return tones, len(digits) < 8 && !strings.Contains(digits, "1") && k == plainBest(tones)
}

func plainShortest(tones []int64) (string, []byte) {
	name, least := "", []byte(nil)
	for _, other := range []string{"steps", "runs", "rice", "plain"} {
		if b, ok := plainCompress(other, tones); ok && (name == "" || len(b) <= len(least)) {
			name, least = other, b
		}
	}
	return name, least
}

const digestPrime = 2305843009213693951

func plainDigest(b []byte) int64 {
	h, prime := big.NewInt(int64(len(b))), big.NewInt(digestPrime)
	for _, part := range b {
		h.Mul(h, big.NewInt(257))
		h.Add(h, big.NewInt(int64(part)+1))
		h.Mod(h, prime)
	}
	return h.Int64()
}

// bytesOfDigest are so many bytes with that digest, if some are found: each byte and 1 is a digit, from 1 to 256, of a number to the base of 257.
func bytesOfDigest(digest int64, count int64) ([]byte, bool) {
	prime, base := big.NewInt(digestPrime), big.NewInt(257)
	start := new(big.Int).Mul(big.NewInt(count), new(big.Int).Exp(base, big.NewInt(count), nil))
	sum := new(big.Int).Mod(new(big.Int).Sub(big.NewInt(digest), start), prime)
	for range 20 {
		var out []byte
		left, digit := new(big.Int).Set(sum), new(big.Int)
		for range count {
			left.DivMod(left, base, digit)
			out = append(out, byte(digit.Int64()-1))
			if digit.Sign() == 0 {
				left.SetInt64(-1)
				break
			}
		}
		if left.Sign() == 0 {
			slices.Reverse(out)
			return out, true
		}
		sum.Add(sum, prime)
	}
	return nil, false
}

func wantPacked(t *testing.T, what any, tones []int64, bits int64) {
	t.Helper()
	packed := impl.PackTones(tones, bits)
	wantFile(t, what, packed, plainPack(tones, bits))
	if len(packed) > 0 || len(tones) == 0 && bits >= 1 && bits <= 16 {
		wantUnpacked(t, what, packed, int64(len(tones)), bits, tones, true)
	}
}

func wantUnpacked(t *testing.T, what any, b []byte, n, bits int64, want []int64, wantOk bool) {
	t.Helper()
	got, ok := impl.UnpackTones(b, n, bits)
	if ok != wantOk || !slices.Equal(got, want) {
		t.Errorf("%v: n %d, bits %d: %s %v, want %s %v", what, n, bits, brief(got), ok, brief(want), wantOk)
	}
}

func wantCompressed(t *testing.T, name string, tones []int64, want []byte, wantOk bool) {
	t.Helper()
	got, ok := impl.Compress(name, tones)
	if ok != wantOk || !bytes.Equal(got, want) {
		t.Errorf("%q of %s: %d bytes %x %v, want %d bytes %x %v", name, brief(tones), len(got), got[:min(len(got), 100)], ok, len(want), want[:min(len(want), 100)], wantOk)
	}
}

func wantExpanded(t *testing.T, name string, b []byte, want []int64, wantOk bool) {
	t.Helper()
	got, ok := impl.Expand(name, b)
	if ok != wantOk || !slices.Equal(got, want) {
		t.Errorf("%q of %d bytes %x: %s %v, want %s %v", name, len(b), b[:min(len(b), 100)], brief(got), ok, brief(want), wantOk)
	}
}

// wantPlainly holds what is expanded against the test's own reckoning, and says whether the bytes were taken; then they are what Compress makes.
func wantPlainly(t *testing.T, name string, b []byte) bool {
	t.Helper()
	tones, ok := plainExpand(name, b)
	if ok {
		wantCompressed(t, name, tones, b, true)
	} else {
		tones = nil
	}
	wantExpanded(t, name, b, tones, ok)
	return ok
}

// wantThereAndBack asks all of promise 16 that one list of tones can tell.
func wantThereAndBack(t *testing.T, tones []int64) {
	t.Helper()
	shortest, least := impl.Shortest(tones)
	for _, name := range codecNames() {
		want, ok := plainCompress(name, tones)
		wantCompressed(t, name, tones, want, ok)
		wantExpanded(t, name, want, tones, true)
		if len(least) > len(want) || name == shortest && !bytes.Equal(least, want) {
			t.Errorf("%s: %q has %d bytes, the shortest, %q, %d", brief(tones), name, len(want), shortest, len(least))
		}
	}
	wantShortest(t, tones)
}

func wantShortest(t *testing.T, tones []int64) {
	t.Helper()
	name, b := impl.Shortest(tones)
	wantName, want := plainShortest(tones)
	if name != wantName || !bytes.Equal(b, want) {
		t.Errorf("%s: %q %d bytes %x, want %q %d bytes %x", brief(tones), name, len(b), b[:min(len(b), 100)], wantName, len(want), want[:min(len(want), 100)])
	}
}

// noTones are lists of which one number is none, or that are too long.
func noTones() [][]int64 {
	lists := [][]int64{make([]int64, 65537), slices.Repeat([]int64{65535}, 65537), make([]int64, 1<<17), append(make([]int64, 65536), -1)}
	for _, number := range []int64{-1, 65536, 65537, 131072, -65535, -65536, 1 << 31, 1 << 32, 1<<32 + 5, -1 << 32, 1 << 62, leastInt, leastInt + 1, leastInt + 5, mostInt - 1, mostInt} {
		lists = append(lists, []int64{number}, []int64{number, 5}, []int64{5, number}, []int64{5, number, 7}, []int64{number, number}, append(make([]int64, 65535), number))
	}
	return lists
}

// someTones are short lists of all sorts.
func (m *mixer) someTones() [][]int64 {
	lists := [][]int64{{}, {0}, {1}, {127}, {128}, {255}, {256}, {16383}, {16384}, {32767}, {32768}, {65534}, {65535},
		{0, 0}, {5, 5, 7}, {0, 65535}, {65535, 0}, {0, 65535, 0}, {65535, 65535, 0, 0, 65535}, {1, 2, 3, 2, 1}, {9, 9, 9, 0, 0, 9}}
	for _, most := range []int64{1, 2, 5, 20, 127, 128, 300, 16383, 16384, 65535} {
		for _, n := range []int{1, 2, 3, 7, 12} {
			lists = append(lists, m.list(n, 0, most), m.list(n, most/2, most))
		}
	}
	return lists
}
