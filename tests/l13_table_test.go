package tests

import "testing"

// No answer shows the registry, so the text of the program is asked.
func TestRegistryIsFilledAndRead(t *testing.T) {
	wantFilledAtStart(t, "l13_codec.go", "registry")
}
