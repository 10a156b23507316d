package match

import (
	"iter"

	"swath/api"
)

// A scene is an image that is asked for its samples and windows.
type scene struct{ api.RadarImage }

// has compares without a sum, which may be too large for an int.
func (s scene) has(w api.MatchWindow) bool {
	return w.Line >= 0 && w.Line <= s.Lines-w.Lines && w.Sample >= 0 && w.Sample <= s.Samples-w.Samples
}

// at returns a sample, which is 0 outside of the image.
func (s scene) at(line, sample int) complex128 {
	if line < 0 || line >= s.Lines || sample < 0 || sample >= s.Samples {
		return 0
	}
	return complex128(s.Data[line*s.Samples+sample])
}

// within yields the samples of a window with their lines and samples.
func (s scene) within(w api.MatchWindow) iter.Seq2[[2]int, complex128] {
	return func(yield func([2]int, complex128) bool) {
		for i := range w.Lines * w.Samples {
			line, sample := w.Line+i/w.Samples, w.Sample+i%w.Samples
			if !yield([2]int{line, sample}, s.at(line, sample)) {
				return
			}
		}
	}
}

// Scenes are those of a pair.
type scenes struct{ first, second scene }

func scenesOf(p api.MatchPair) scenes {
	return scenes{first: scene{p.First}, second: scene{p.Second}}
}

// An offset has the score of a window there, in lowest terms.
type offset struct{ by, score [2]int }

// Cut returns a window as an image.
func Cut(im api.RadarImage, w api.MatchWindow) (api.RadarImage, api.Errno) {
	if e := CheckWindow(im, w); e != api.OK {
		return api.RadarImage{}, e
	}
	out := api.RadarImage{Lines: w.Lines, Samples: w.Samples}
	for _, z := range (scene{im}).within(w) {
		out.Data = append(out.Data, plain(z))
	}
	return out, api.OK
}

// Score returns the score of a window at an offset.
func Score(p api.MatchPair, w api.MatchWindow, by [2]int) ([2]int, api.Errno) {
	if e := firstError(pairError(p), windowError(p.First, w)); e != api.OK {
		return [2]int{}, e
	}
	return scenesOf(p).score(w, by)
}

// BestOffset returns the best offset of a window within a reach, and its score.
func BestOffset(p api.MatchPair, w api.MatchWindow, reach int) ([2]int, [2]int, api.Errno) {
	if e := firstError(pairError(p), windowError(p.First, w), reachError(reach)); e != api.OK {
		return [2]int{}, [2]int{}, e
	}
	best, found := scenesOf(p).best(w, reach)
	if !found {
		return [2]int{}, [2]int{}, api.ErrNone
	}
	return best.by, best.score, api.OK
}

// score returns the score of a window of the first scene, which has it.
func (p scenes) score(w api.MatchWindow, by [2]int) ([2]int, api.Errno) {
	if !p.second.has(moved(w, by)) {
		return [2]int{}, api.ErrBreak
	}
	product, energies := complex128(0), [2]int{}
	for at, x := range p.first.within(w) {
		y := p.second.at(at[0]+by[0], at[1]+by[1])
		product += x * conjugate(y)
		energies[0] += energy(x)
		energies[1] += energy(y)
	}
	whole := energies[0] * energies[1]
	if whole == 0 {
		return [2]int{}, api.ErrZero
	}
	return lowest(energy(product), whole), api.OK
}

// best goes through the offsets in lexicographic order, so that the first one of equal ones stays.
func (p scenes) best(w api.MatchWindow, reach int) (offset, bool) {
	var best offset
	found := false
	for lines := -reach; lines <= reach; lines++ {
		for samples := -reach; samples <= reach; samples++ {
			by := [2]int{lines, samples}
			score, e := p.score(w, by)
			if next := (offset{by, score}); e == api.OK && (!found || next.isBetter(best)) {
				best, found = next, true
			}
		}
	}
	return best, found
}

func (a offset) isBetter(b offset) bool {
	if order := compared(a.score, b.score); order != 0 {
		return order > 0
	}
	return a.sizes() < b.sizes()
}

func (a offset) sizes() int {
	return sizeOf(a.by[0]) + sizeOf(a.by[1])
}

// moved returns the second window. Where a sum is too large for an int, it wraps to a number below 0, where no window is.
func moved(w api.MatchWindow, by [2]int) api.MatchWindow {
	w.Line += by[0]
	w.Sample += by[1]
	return w
}

func conjugate(z complex128) complex128 {
	return complex(real(z), -imag(z))
}

// energy squares ints, as the square of a product sum has more digits than a float.
func energy(z complex128) int {
	x, y := int(real(z)), int(imag(z))
	return x*x + y*y
}

// plain is the sample without -0, which no result may have.
func plain(z complex128) complex64 {
	return complex(float32(int(real(z))), float32(int(imag(z))))
}
