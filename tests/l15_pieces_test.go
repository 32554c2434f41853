package tests

import (
	"slices"
	"strings"
	"testing"

	"loop.example/g00050/impl"
)

// unlikeBytes is a text of so many bytes in which no piece is like the one beside it.
func unlikeBytes(count int) string {
	b := make([]byte, count)
	for k := range b {
		b[k] = byte(k*7 + k/256)
	}
	return string(b)
}

// wantPieces asks for the pieces by the document's words, one by one.
func wantPieces(t *testing.T, id int64, message string, size int64) {
	t.Helper()
	what := []any{id, len(message), size}
	got := impl.Pieces(id, message, size)
	if want := plainPieces(id, message, size); !slices.Equal(got, want) {
		wantParts(t, what, got, want)
		return
	}
	whole := ""
	for k, p := range got {
		isLast := k == len(got)-1
		if p.Id != id || p.Number != int64(k) || p.Last != isLast || !isLast && int64(len(p.Body)) != size || int64(len(p.Body)) > size || isLast && k > 0 && p.Body == "" {
			t.Error(what, briefPart(p))
		}
		whole += p.Body
	}
	if len(got) > 64 || len(got) > 0 && whole != message {
		t.Error(what, "not the message")
	}
}

func wantNoPieces(t *testing.T, id int64, message string, size int64) {
	t.Helper()
	if got := impl.Pieces(id, message, size); len(got) != 0 {
		t.Error(id, len(message), size, len(got), "pieces")
	}
	wantPieces(t, id, message, size)
}

func TestPiecesOfMessages(t *testing.T) {
	wantParts(t, "no bytes", impl.Pieces(4, "", 3), []impl.Part{lastPart(4, 0, "")})
	wantParts(t, "one byte less", impl.Pieces(4, "ab", 3), []impl.Part{lastPart(4, 0, "ab")})
	wantParts(t, "just as many", impl.Pieces(4, "abc", 3), []impl.Part{lastPart(4, 0, "abc")})
	wantParts(t, "one byte more", impl.Pieces(4, "abcd", 3), []impl.Part{part(4, 0, "abc"), lastPart(4, 1, "d")})
	wantParts(t, "two sizes just so", impl.Pieces(4, "abcdef", 3), []impl.Part{part(4, 0, "abc"), lastPart(4, 1, "def")})
	wantParts(t, "byte by byte", impl.Pieces(0, "abc", 1), []impl.Part{part(0, 0, "a"), part(0, 1, "b"), lastPart(0, 2, "c")})
	wantParts(t, "bytes, not runes", impl.Pieces(1000000, "é\x00\xff", 1), []impl.Part{part(1000000, 0, "\xc3"), part(1000000, 1, "\xa9"), part(1000000, 2, "\x00"), lastPart(1000000, 3, "\xff")})
	wantParts(t, "all of it", impl.Pieces(1, unlikeBytes(2048), 1024), []impl.Part{part(1, 0, unlikeBytes(2048)[:1024]), lastPart(1, 1, unlikeBytes(2048)[1024:])})
}

func TestIdsOfPieces(t *testing.T) {
	for _, id := range []int64{leastInt, -1 << 32, -1000000, -1, 1000001, 1 << 32, 1<<32 + 5, mostInt} {
		wantNoPieces(t, id, "abc", 2)
		wantNoPieces(t, id, "", 2)
	}
	for _, id := range []int64{0, 1, 999999, 1000000} {
		wantPieces(t, id, "abc", 2)
		wantNumber(t, id, int64(len(impl.Pieces(id, "abc", 2))), 2)
	}
}

func TestSizesOfPieces(t *testing.T) {
	for _, size := range []int64{leastInt, leastInt + 1, -1 << 32, -1024, -1, 0, 1025, 1026, 2048, 1 << 32, 1<<32 + 1, 1 << 62, mostInt - 1, mostInt} {
		wantNoPieces(t, 5, "", size)
		wantNoPieces(t, 5, "abc", size)
		wantNoPieces(t, 5, unlikeBytes(2048), size)
	}
	for size, count := range map[int64]int64{1: 3, 2: 2, 3: 1, 1023: 1, 1024: 1} {
		wantPieces(t, 5, "abc", size)
		wantNumber(t, size, int64(len(impl.Pieces(5, "abc", size))), count)
	}
}

func TestLengthsOfPieces(t *testing.T) {
	for _, length := range []int{2047, 2048} {
		wantPieces(t, 5, unlikeBytes(length), 1024)
		wantNumber(t, length, int64(len(impl.Pieces(5, unlikeBytes(length), 1024))), 2)
	}
	for _, length := range []int{2049, 2050, 3000, 1 << 16, 1 << 20} {
		for _, size := range []int64{1, 32, 33, 1000, 1024} {
			wantNoPieces(t, 5, unlikeBytes(length), size)
		}
	}
}

func TestCountsOfPieces(t *testing.T) {
	for _, size := range []int64{1, 2, 3, 16, 31, 32} {
		most := int(size) * 64
		wantNumber(t, size, int64(len(impl.Pieces(5, unlikeBytes(most-int(size)+1), size))), 64)
		wantNumber(t, size, int64(len(impl.Pieces(5, unlikeBytes(most), size))), 64)
		wantNumber(t, size, int64(len(impl.Pieces(5, unlikeBytes(most-int(size)), size))), 63)
		wantNoPieces(t, 5, unlikeBytes(most+1), size)
		wantNoPieces(t, 5, unlikeBytes(most+int(size)), size)
	}
	wantNoPieces(t, 5, unlikeBytes(2048), 31)
	wantNumber(t, "within 2048 bytes", int64(len(impl.Pieces(5, unlikeBytes(2048), 32))), 64)
	wantNumber(t, "within 2048 bytes", int64(len(impl.Pieces(5, unlikeBytes(2048), 33))), 63)
}

// Every length, at each size that matters for it.
func TestPiecesPlainly(t *testing.T) {
	whole := unlikeBytes(2052)
	for length := range 2053 {
		for _, size := range []int64{1, 2, 3, 5, 31, 32, 33, 64, 100, 512, 1023, 1024, int64(length) / 2, int64(length)/2 + 1, int64(length) - 1, int64(length), int64(length) + 1} {
			wantPieces(t, 12, whole[:length], size)
		}
	}
	for size := int64(-1); size <= 1026; size++ {
		wantPieces(t, 12, whole[:1000], size)
		wantPieces(t, 12, strings.Repeat("a", 64), size)
	}
}
