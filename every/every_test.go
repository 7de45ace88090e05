package every

import (
	"slices"
	"strings"
	"testing"
)

// Text yields all texts of the pieces once, the shorter ahead of those that go on from it.
func TestText(t *testing.T) {
	for _, x := range []struct {
		most   int
		pieces []string
		want   string
	}{
		{0, []string{"a"}, "."},
		{-1, []string{"a"}, "."},
		{3, nil, "."},
		{1, []string{"a", "bc"}, ". a. bc."},
		{2, []string{"a", "b"}, ". a. aa. ab. b. ba. bb."},
	} {
		var got []string
		for s := range Text(x.most, x.pieces...) {
			got = append(got, s+".")
		}
		if strings.Join(got, " ") != x.want {
			t.Errorf("Text(%d, %q): %q", x.most, x.pieces, got)
		}
	}
}

// List ends where the loop over it does, and yields as many lists as there are.
func TestList(t *testing.T) {
	count := 0
	for l := range List(5, 1, 2, 3) {
		count++
		if slices.Equal(l, []int{1, 2, 1}) {
			break
		}
	}
	all := 0
	for range List(5, 1, 2, 3) {
		all++
	}
	if count != 44 || all != 1+3+9+27+81+243 {
		t.Errorf("%d lists till 1 2 1, %d in all", count, all)
	}
}
