package fringe

import "iter"

// A grid has rows of items of one kind.
type grid[T any] struct {
	rows, columns int
	items         []T
}

// made returns a grid of a size with the item that each place gets.
func made[T any](rows, columns int, item func(at [2]int) T) grid[T] {
	g := grid[T]{rows: rows, columns: columns, items: make([]T, rows*columns)}
	for i := range g.items {
		g.items[i] = item([2]int{i / columns, i % columns})
	}
	return g
}

// mapped returns a grid with what becomes of each item.
func mapped[A, B any](a grid[A], item func(A) B) grid[B] {
	return made(a.rows, a.columns, func(at [2]int) B { return item(a.at(at)) })
}

// combined returns a grid with what the items of two grids of one size come to.
func combined[A, B, C any](a grid[A], b grid[B], item func(A, B) C) grid[C] {
	return made(a.rows, a.columns, func(at [2]int) C { return item(a.at(at), b.at(at)) })
}

func (g grid[T]) size() [2]int {
	return [2]int{g.rows, g.columns}
}

func (g grid[T]) has(at [2]int) bool {
	return at[0] >= 0 && at[0] < g.rows && at[1] >= 0 && at[1] < g.columns
}

func (g grid[T]) at(at [2]int) T {
	return g.items[at[0]*g.columns+at[1]]
}

// block yields the items of a block of a size; what lies outside of the grid is left out.
func (g grid[T]) block(first, size [2]int) iter.Seq[T] {
	return func(yield func(T) bool) {
		for row := max(first[0], 0); row < min(first[0]+size[0], g.rows); row++ {
			for column := max(first[1], 0); column < min(first[1]+size[1], g.columns); column++ {
				if !yield(g.at([2]int{row, column})) {
					return
				}
			}
		}
	}
}

// around yields the items at most half rows and half columns away from a place.
func (g grid[T]) around(at [2]int, half int) iter.Seq[T] {
	side := 2*half + 1
	return g.block([2]int{at[0] - half, at[1] - half}, [2]int{side, side})
}
