package series_test

import (
	"fmt"
	"math"
	"math/big"
	"testing"

	"swath/api"
	"swath/series"
)

func moved(first, firstMargin, second, secondMargin, wave int) api.SeriesMoved {
	return api.SeriesMoved{First: first, FirstMargin: firstMargin, Second: second, SecondMargin: secondMargin, Wave: wave}
}

// movement returns the movement of two phases.
func movement(first, second, wave int) *big.Rat {
	return times(whole(second-first), part(-wave, 8192))
}

// movements returns the least and the greatest movement within the margins, from the phases at their ends.
func movements(x api.SeriesMoved) (*big.Rat, *big.Rat) {
	var lo, hi *big.Rat
	for _, first := range []int{x.First - x.FirstMargin, x.First + x.FirstMargin} {
		for _, second := range []int{x.Second - x.SecondMargin, x.Second + x.SecondMargin} {
			m := movement(first, second, x.Wave)
			if lo == nil {
				lo, hi = m, m
			}
			lo, hi = least(lo, m), greatest(hi, m)
		}
	}
	return lo, hi
}

func rightMoved(x api.SeriesMoved) api.Range {
	lo, hi := movements(x)
	return api.Range{Lo: down(lo), Hi: up(hi)}
}

func rightExceeds(x api.SeriesMoved, threshold int) int {
	lo, hi := movements(x)
	most, less := whole(threshold), whole(-threshold)
	switch {
	case lo.Cmp(most) > 0, hi.Cmp(less) < 0:
		return api.AnswerYes
	case lo.Cmp(less) >= 0 && hi.Cmp(most) <= 0:
		return api.AnswerNo
	}
	return api.AnswerMaybe
}

// anyMoved returns questions of all sizes.
func (r *numbers) anyMoved(count int) []api.SeriesMoved {
	out := []api.SeriesMoved{exampleMoved()}
	for i := range count {
		switch i % 4 {
		case 0:
			out = append(out, moved(r.within(20), r.below(4), r.within(20), r.below(4), 1+r.below(10000)))
		case 1:
			out = append(out, moved(r.within(4096), r.below(300), r.within(4096), r.below(300), 1+r.below(1000)))
		case 2:
			out = append(out, moved(r.within(9), 0, r.within(9), 0, 1<<r.below(14)))
		default:
			out = append(out, moved(r.within(api.MaxPhase), r.below(2049), r.within(api.MaxPhase), r.below(2049), 1+r.below(10000)))
		}
	}
	return out
}

func TestP8_5Moved(t *testing.T) {
	for _, x := range []struct {
		what  string
		x     api.SeriesMoved
		right api.Range
	}{
		{"example 8", exampleMoved(), api.Range{Lo: 4, Hi: 7}},
		{"example 10 of the document", moved(0, 10, -500, 10, 560), api.Range{Lo: 32, Hi: 36}},
		{"away from the satellite", moved(20, 6, 100, 10, 560), api.Range{Lo: -7, Hi: -4}},
		{"nothing", moved(5, 0, 5, 0, 560), api.Range{}},
		{"a whole movement", moved(0, 0, -8192, 0, 560), api.Range{Lo: 560, Hi: 560}},
		{"a part more", moved(0, 0, -8193, 0, 560), api.Range{Lo: 560, Hi: 561}},
		{"a part less", moved(0, 0, 8193, 0, 560), api.Range{Lo: -561, Hi: -560}},
		{"one margin", moved(0, 1, 0, 0, 8192), api.Range{Lo: -1, Hi: 1}},
		{"the other margin", moved(0, 0, 0, 2, 8192), api.Range{Lo: -2, Hi: 2}},
		{"a short wave", moved(0, 0, 1, 0, 1), api.Range{Lo: -1, Hi: 0}},
		{"the greatest movement", moved(100000000, 2048, -100000000, 2048, 10000), api.Range{Lo: 244135625, Hi: 244145625}},
		{"the least movement", moved(-100000000, 2048, 100000000, 2048, 10000), api.Range{Lo: -244145625, Hi: -244135625}},
	} {
		m, e := series.Moved(x.x)
		want(t, x.what, m, e, x.right, api.OK)
	}
	r := numbers{19}
	for _, x := range r.anyMoved(800) {
		m, e := series.Moved(x)
		want(t, fmt.Sprint("Moved ", x), m, e, rightMoved(x), api.OK)
	}
}

func TestP8_5MovedErrors(t *testing.T) {
	for _, x := range wrongMoved() {
		m, e := series.Moved(x)
		wantError(t, fmt.Sprint("Moved ", x), m, e, api.ErrRange)
		for _, threshold := range []int{0, -1, math.MinInt} {
			answer, e := series.Exceeds(x, threshold)
			wantError(t, fmt.Sprint("Exceeds ", x), answer, e, api.ErrRange)
		}
	}
	for threshold, right := range map[int]api.Errno{0: api.OK, 1000000000: api.OK, -1: api.ErrRange, 1000000001: api.ErrRange, math.MinInt: api.ErrRange, math.MaxInt: api.ErrRange} {
		answer, e := series.Exceeds(exampleMoved(), threshold)
		wantError(t, fmt.Sprint("Exceeds ", threshold), answer, e, right)
	}
}

func TestP8_5Exceeds(t *testing.T) {
	for _, x := range []struct {
		what      string
		x         api.SeriesMoved
		threshold int
		right     int
	}{
		{"example 8", exampleMoved(), 4, api.AnswerYes},
		{"example 8", exampleMoved(), 5, api.AnswerMaybe},
		{"example 8", exampleMoved(), 6, api.AnswerMaybe},
		{"example 8", exampleMoved(), 7, api.AnswerNo},
		{"away", moved(20, 6, 100, 10, 560), 4, api.AnswerYes},
		{"away", moved(20, 6, 100, 10, 560), 5, api.AnswerMaybe},
		{"away", moved(20, 6, 100, 10, 560), 7, api.AnswerNo},
		{"example 10 of the document", moved(0, 10, -500, 10, 560), 20, api.AnswerYes},
		{"nothing", moved(5, 0, 5, 0, 560), 0, api.AnswerNo},
		{"nothing, perhaps", moved(5, 1, 5, 0, 560), 0, api.AnswerMaybe},
		{"a little", moved(6, 0, 5, 0, 1), 0, api.AnswerYes},
		{"a little away", moved(5, 0, 6, 0, 1), 0, api.AnswerYes},
		{"a little, beside 0", moved(6, 0, 5, 1, 1), 0, api.AnswerMaybe},
		{"both ways", moved(0, 0, 0, 20, 8192), 19, api.AnswerMaybe},
		{"both ways, as much as allowed", moved(0, 0, 0, 20, 8192), 20, api.AnswerNo},
		{"just the threshold", moved(0, 0, -20, 0, 8192), 20, api.AnswerNo},
		{"just the threshold, away", moved(0, 0, 20, 0, 8192), 20, api.AnswerNo},
		{"more than it", moved(0, 0, -21, 0, 8192), 20, api.AnswerYes},
		{"from it on", moved(0, 0, -21, 1, 8192), 20, api.AnswerMaybe},
		{"a part more than it", moved(0, 0, -8193, 0, 20), 20, api.AnswerYes},
		{"a part more than it, away", moved(0, 0, 8193, 0, 20), 20, api.AnswerYes},
		{"a part less than it", moved(0, 0, -8191, 0, 20), 20, api.AnswerNo},
		{"a part more, perhaps", moved(0, 0, -8192, 1, 20), 20, api.AnswerMaybe},
		{"the greatest movement", moved(100000000, 2048, -100000000, 2048, 10000), 244135624, api.AnswerYes},
		{"the greatest movement", moved(100000000, 2048, -100000000, 2048, 10000), 244135625, api.AnswerMaybe},
		{"the greatest movement", moved(100000000, 2048, -100000000, 2048, 10000), 1000000000, api.AnswerNo},
	} {
		answer, e := series.Exceeds(x.x, x.threshold)
		want(t, fmt.Sprint(x.what, " ", x.threshold), answer, e, x.right, api.OK)
	}
	r := numbers{20}
	seen := map[int]int{}
	for _, x := range r.anyMoved(800) {
		m := rightMoved(x)
		for _, threshold := range []int{0, 1, m.Lo, m.Hi, -m.Lo, -m.Hi, m.Lo - 1, -m.Hi - 1, m.Lo + 1, m.Hi - 1} {
			if threshold < 0 {
				continue
			}
			answer, e := series.Exceeds(x, threshold)
			want(t, fmt.Sprint("Exceeds ", x, threshold), answer, e, rightExceeds(x, threshold), api.OK)
			seen[answer]++
		}
	}
	if len(seen) != 3 || min(seen[0], seen[1], seen[2]) < 100 {
		t.Error("answers that are rare:", seen)
	}
}

// P8.11: the movement of any phases within the margins lies in Moved, and answers agree with it.
func TestP8_11Movements(t *testing.T) {
	r := numbers{21}
	for _, x := range r.anyMoved(800) {
		m, e := series.Moved(x)
		for range 10 {
			inside := movement(x.First+r.within(x.FirstMargin), x.Second+r.within(x.SecondMargin), x.Wave)
			if e != api.OK || inside.Cmp(whole(m.Lo)) < 0 || inside.Cmp(whole(m.Hi)) > 0 {
				t.Errorf("%v: %v is not in %v, error %d", x, inside, m, e)
			}
			threshold := r.below(1 + max(m.Hi, -m.Lo))
			answer, e := series.Exceeds(x, threshold)
			exceeds := new(big.Rat).Abs(inside).Cmp(whole(threshold)) > 0
			if e != api.OK || answer == api.AnswerYes && !exceeds || answer == api.AnswerNo && exceeds {
				t.Errorf("%v: answer %d to %d, but %v, error %d", x, answer, threshold, inside, e)
			}
		}
	}
}

// P8.11: what is surely more than a threshold is surely more than a lesser one, and what is surely not more is not more
// than a greater one.
func TestP8_11Thresholds(t *testing.T) {
	r := numbers{22}
	for _, x := range r.anyMoved(400) {
		last := api.AnswerYes
		for threshold := range 30 {
			answer, e := series.Exceeds(x, threshold)
			if e != api.OK || answer > last {
				t.Errorf("%v: answer %d to %d behind %d, error %d", x, answer, threshold, last, e)
			}
			last = answer
		}
	}
}
