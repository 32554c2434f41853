package tests

import (
	"slices"
	"testing"
)

// No answer shows the table of factors, so the text of the program is asked: it is filled once, behind a function that an exported one asks.
func TestFactorsAreMadeOnceAndRead(t *testing.T) {
	var filledBy, readBy, guardedBy, askedBy []string
	for _, f := range functionsOf(t, "l05_wave.go") {
		if uses, fills := usesOf(f, "factorTable"); fills > 0 {
			filledBy = append(filledBy, f.Name.Name)
		} else if uses > 0 {
			readBy = append(readBy, f.Name.Name)
		}
		if uses, _ := usesOf(f, "madeFactors"); uses > 0 {
			guardedBy = append(guardedBy, f.Name.Name)
		}
		if uses, _ := usesOf(f, "factors"); uses > 0 && f.Name.IsExported() {
			askedBy = append(askedBy, f.Name.Name)
		}
	}
	if !slices.Equal(filledBy, []string{"makeFactors"}) || !slices.Equal(readBy, []string{"factors"}) {
		t.Error("filled by", filledBy, "and read by", readBy)
	}
	if !slices.Equal(guardedBy, []string{"factors"}) || len(askedBy) == 0 {
		t.Error("made by", guardedBy, "and asked by", askedBy)
	}
}
