package powers

import (
	"testing"

	"algebrist/whole"
)

func TestOf(t *testing.T) {
	want := whole.Of(1)
	for n := range 1200 {
		if !whole.Same(Of(whole.Of(-3), n), want) {
			t.Fatal(n)
		}
		want = whole.Mul(want, whole.Of(-3))
	}
	if !whole.Same(Of(whole.Of(0), 0), whole.Of(1)) || whole.Sign(Of(whole.Of(0), 7)) != 0 {
		t.Error("0")
	}
}
