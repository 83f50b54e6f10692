package values

import (
	"math"
	"strings"
	"testing"

	"lineage/api"
	"lineage/words"
)

func number(n int) api.Value  { return api.Value{Kind: api.Int, Int: n} }
func text(s string) api.Value { return api.Value{Kind: api.Text, Text: s} }

func TestOrder(t *testing.T) {
	ordered := []api.Value{{}, number(math.MinInt64), number(-1), number(0), number(9), number(10), number(math.MaxInt64), text(""), text("A"), text("a"), text("aa"), text("b"), text("\xff"), truth(false), truth(true)}
	for i, a := range ordered {
		for k, b := range ordered {
			want := 0
			if i < k {
				want = -1
			} else if i > k {
				want = 1
			}
			if got := Compare(a, b); got != want {
				t.Errorf("Compare(%v, %v) = %d, want %d", a, b, got, want)
			}
			if got := CompareRows([]api.Value{number(5), a, b}, []api.Value{number(5), b, a}); got != want {
				t.Errorf("CompareRows of %v and %v = %d, want %d", a, b, got, want)
			}
		}
	}
}

func TestEndsOfNumbers(t *testing.T) {
	for _, c := range []struct {
		op    words.Kind
		a, b  int
		want  int
		error bool
	}{
		{words.Plus, math.MaxInt64, 0, math.MaxInt64, false},
		{words.Plus, math.MaxInt64, 1, 0, true},
		{words.Plus, math.MinInt64, 0, math.MinInt64, false},
		{words.Plus, math.MinInt64, -1, 0, true},
		{words.Plus, math.MinInt64, math.MinInt64, 0, true},
		{words.Plus, math.MinInt64, math.MaxInt64, -1, false},
		{words.Minus, math.MinInt64, 1, 0, true},
		{words.Minus, math.MaxInt64, -1, 0, true},
		{words.Minus, 0, math.MinInt64, 0, true},
		{words.Minus, -1, math.MinInt64, math.MaxInt64, false},
		{words.Minus, math.MinInt64, math.MinInt64, 0, false},
		{words.Star, math.MinInt64, -1, 0, true},
		{words.Star, -1, math.MinInt64, 0, true},
		{words.Star, math.MinInt64, 1, math.MinInt64, false},
		{words.Star, math.MinInt64, 2, 0, true},
		{words.Star, 1 << 32, 1 << 32, 0, true},
		{words.Star, -1 << 32, 1 << 31, math.MinInt64, false},
		{words.Star, 0, math.MinInt64, 0, false},
		{words.Slash, math.MinInt64, -1, 0, true},
		{words.Slash, math.MinInt64, 1, math.MinInt64, false},
		{words.Slash, -7, 2, -3, false},
		{words.Slash, 1, 0, 0, true},
		{words.Percent, math.MinInt64, -1, 0, false},
		{words.Percent, -7, 2, -1, false},
		{words.Percent, 7, -2, 1, false},
		{words.Percent, 0, 0, 0, true},
	} {
		got, errno := Binary(c.op, number(c.a), number(c.b))
		if c.error && (got != api.Value{} || errno != api.ErrValue) || !c.error && (got != number(c.want) || errno != api.OK) {
			t.Errorf("%d %s %d: %v, %d, want %v", c.a, c.op.Spelling(), c.b, got, errno, c)
		}
	}
}

func TestLongTexts(t *testing.T) {
	half := strings.Repeat("x", api.MaxLong/2)
	if got, errno := Binary(words.Bars, text(half), text(half)); got != text(half+half) || errno != api.OK {
		t.Errorf("%v, %d", got, errno)
	}
	if got, errno := Binary(words.Bars, text(half), text(half+"x")); got != (api.Value{}) || errno != api.ErrValue {
		t.Errorf("%v, %d", got, errno)
	}
}
