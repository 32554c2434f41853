package tests

import (
	"fmt"
	"slices"
	"testing"

	"loop.example/g00050/impl"
)

func TestAgreedForms(t *testing.T) {
	wantAgreed(t, "no offer", nil, []int64{0, 1})
	wantAgreed(t, "no offer and none known", nil, nil)
	wantAgreed(t, "the best first", []impl.Offer{offerOf(1, 2, 1)}, []int64{1, 2}, 2)
	wantAgreed(t, "known in another order", []impl.Offer{offerOf(1, 2, 1)}, []int64{2, 1}, 2)
	wantAgreed(t, "the first unknown, the second known", []impl.Offer{offerOf(1, 3, 1)}, []int64{0, 1}, 1)
	wantAgreed(t, "the last alone known", []impl.Offer{offerOf(1, 3, 1, 2, 0)}, []int64{0}, 0)
	wantAgreed(t, "none known of its forms", []impl.Offer{offerOf(1, 3, 1)}, []int64{0, 2}, -1)
	wantAgreed(t, "none known", []impl.Offer{offerOf(1, 3, 1)}, nil, -1)
	wantAgreed(t, "in order", []impl.Offer{offerOf(9, 3), offerOf(1, 0), offerOf(5), offerOf(4, 2, 0)}, []int64{0, 3}, 3, 0, -1, 0)
}

func TestIdsOfOffers(t *testing.T) {
	for _, id := range []int64{leastInt, leastInt + 1, -256, -255, -1, 0, 1, 2, 254, 255, 256, 257, 511, 1<<32 + 1, 1 << 62, mostInt - 1, mostInt} {
		want := int64(-1)
		if id >= 1 && id <= 255 {
			want = 2
		}
		wantAgreed(t, id, []impl.Offer{offerOf(id, 2)}, []int64{2}, want)
		wantAgreed(t, id, []impl.Offer{offerOf(77, 2), offerOf(id, 2), offerOf(78, 2)}, []int64{2}, 2, want, 2)
	}
}

// Each list of up to five forms from -1 to 4, against each set of known ones.
func TestFormsOfOffers(t *testing.T) {
	for length := range 6 {
		for _, forms := range listsOf(length, -1, 4) {
			for known := range 16 {
				var list []int64
				for form := range int64(4) {
					if known>>form&1 == 1 {
						list = append(list, form)
					}
				}
				offers := []impl.Offer{offerOf(255, forms...)}
				if got, want := impl.Agree(offers, list), plainAgree(offers, list); !slices.Equal(got, want) {
					t.Fatal(forms, list, got, want)
				}
			}
		}
	}
}

func TestOffersNotAsTold(t *testing.T) {
	all := []int64{0, 1, 2, 3}
	for _, form := range []int64{leastInt, -4, -1, 0, 3, 4, 1 << 32, mostInt} {
		want := int64(-1)
		if form >= 0 && form <= 3 {
			want = form
		}
		// Known as it may be, a form that is none is none.
		wantAgreed(t, form, []impl.Offer{offerOf(5, form)}, append(all, form), want)
	}
	wantAgreed(t, "a form that is none behind one that is known", []impl.Offer{offerOf(5, 1, 4)}, all, -1)
	wantAgreed(t, "a form below 0 behind one that is known", []impl.Offer{offerOf(5, 1, -1)}, all, -1)
	wantAgreed(t, "no form", []impl.Offer{offerOf(5)}, all, -1)
	wantAgreed(t, "four forms", []impl.Offer{offerOf(5, 3, 2, 1, 0)}, all, 3)
	wantAgreed(t, "five forms", []impl.Offer{offerOf(5, 3, 2, 1, 0, 3)}, all, -1)
	wantAgreed(t, "a form twice", []impl.Offer{offerOf(5, 1, 1)}, all, -1)
	wantAgreed(t, "a form twice, apart", []impl.Offer{offerOf(5, 1, 2, 1)}, all, -1)
	wantAgreed(t, "a form twice, behind one that is known", []impl.Offer{offerOf(5, 0, 2, 2)}, []int64{0}, -1)
}

func TestKnownForms(t *testing.T) {
	offers := []impl.Offer{offerOf(5, 2, 0), offerOf(6, 3)}
	wantAgreed(t, "known ones that are none", offers, []int64{-1, 4, leastInt, mostInt, 100}, -1, -1)
	wantAgreed(t, "some that are none", offers, []int64{-1, 0, 4}, 0, -1)
	wantAgreed(t, "one twice", offers, []int64{0, 0, 3, 3, 3}, 0, 3)
	wantAgreed(t, "two forms by their low bytes", offers, []int64{256, 1<<32 + 2, 259}, -1, -1)
}

func TestOffersOfOneId(t *testing.T) {
	all := []int64{0, 1, 2, 3}
	wantAgreed(t, "twice", []impl.Offer{offerOf(5, 1), offerOf(5, 2)}, all, 1, -1)
	wantAgreed(t, "three times, apart", []impl.Offer{offerOf(5, 1), offerOf(6, 1), offerOf(5, 2), offerOf(7, 3), offerOf(5, 1)}, all, 1, 1, -1, 3, -1)
	wantAgreed(t, "the one ahead has a form that is none", []impl.Offer{offerOf(5, 4), offerOf(5, 2)}, all, -1, -1)
	wantAgreed(t, "the one ahead has a form twice", []impl.Offer{offerOf(5, 1, 1), offerOf(5, 2)}, all, -1, -1)
	wantAgreed(t, "the one ahead has five forms", []impl.Offer{offerOf(5, 0, 1, 2, 3, 0), offerOf(5, 2)}, all, -1, -1)
	wantAgreed(t, "the one ahead has no form", []impl.Offer{offerOf(5), offerOf(5, 2)}, all, -1, -1)
	wantAgreed(t, "the one ahead has none that is known", []impl.Offer{offerOf(5, 3), offerOf(5, 2)}, []int64{2}, -1, -1)
	wantAgreed(t, "the one ahead is refused for one ahead of it", []impl.Offer{offerOf(5, 3), offerOf(5, 2), offerOf(5, 1)}, all, 3, -1, -1)
	wantAgreed(t, "one behind changes nothing", []impl.Offer{offerOf(5, 3), offerOf(6, 2), offerOf(6, 4)}, all, 3, 2, -1)
}

func TestCountsOfOffers(t *testing.T) {
	for _, count := range []int{1, 63, 64, 65, 66, 200, 255, 300} {
		var offers []impl.Offer
		var want []int64
		for k := range count {
			offers = append(offers, offerOf(1+int64(k), int64(k%4)))
			want = append(want, []int64{0, -1, 2, 3}[k%4])
		}
		if count > 64 {
			want = nil
		}
		wantAgreed(t, count, offers, []int64{0, 2, 3}, want...)
		// So many that are known, the one that matters at the end.
		known := make([]int64, count)
		known[count-1] = 3
		want = []int64{3}
		if count > 64 {
			want = nil
		}
		wantAgreed(t, []any{"known", count}, []impl.Offer{offerOf(9, 3)}, known, want...)
		wantAgreed(t, []any{"known", count}, nil, known)
	}
	wantAgreed(t, "too many of both", make([]impl.Offer, 65), make([]int64, 65))
}

func TestOffersPlainly(t *testing.T) {
	m := mixer(250)
	agreed := map[int64]int{}
	for range 20000 {
		var offers []impl.Offer
		for range m.pick(0, 6) {
			offers = append(offers, offerOf(m.pick(0, 5), m.list(int(m.pick(0, 3)), 0, 3)...))
		}
		known := m.list(int(m.pick(0, 4)), -1, 4)
		got := impl.Agree(offers, known)
		wantLists(t, fmt.Sprint(offers, known), got, plainAgree(offers, known))
		for _, form := range got {
			agreed[form]++
		}
	}
	for form := int64(-1); form <= 3; form++ {
		if agreed[form] < 1000 {
			t.Error("one-sided", agreed)
		}
	}
}

func TestLineConstants(t *testing.T) {
	got := fmt.Sprint(impl.MaxOffers, impl.MaxId, impl.MaxPart, impl.MaxPieces, impl.MaxOpen, impl.MaxDone, impl.FtGoes, impl.FtLost, impl.FtTwice, impl.FtLate)
	if got != "64 1000000 1024 64 16 4096 0 1 2 3" {
		t.Error(got)
	}
}
