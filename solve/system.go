package solve

import (
	"gimbal/mat"
	"gimbal/soft"
	"gimbal/word"
)

// system is a square matrix on its way to two triangles: what leads and stands to its right is the upper one, what
// stands beneath are the factors by which rows were taken away, the lower one, with ones on its diagonal.
//
// Its numbers stay where they are: rows[i] and cols[k] tell which row and column stand at i and k now.
type system struct {
	m    mat.Matrix
	rows []int
	cols []int
}

func systemOf(a mat.Matrix) system {
	s := system{m: a.Clone(), rows: make([]int, a.Rows), cols: make([]int, a.Cols)}
	for i := range a.Rows {
		s.rows[i], s.cols[i] = i, i
	}
	return s
}

func (s system) at(i, k int) uint64 { return s.m.At(s.rows[i], s.cols[k]) }

func (s system) set(i, k int, b uint64) { s.m.Set(s.rows[i], s.cols[k], b) }

// reduce makes the two triangles, and tells whether least had to lead.
func (s system) reduce(c *soft.Calc, least uint64) bool {
	told := false
	for step := range s.rows {
		s.lead(step)
		if word.Abs(s.at(step, step)) < least {
			s.set(step, step, least)
			told = true
		}
		s.take(c, step)
	}
	return told
}

// lead changes rows and columns so that the greatest number left leads: the first of several.
func (s system) lead(step int) {
	row, col := step, step
	for i := step; i < len(s.rows); i++ {
		for k := step; k < len(s.cols); k++ {
			// Without their signs, patterns stand in the order of their values.
			if word.Abs(s.at(i, k)) > word.Abs(s.at(row, col)) {
				row, col = i, k
			}
		}
	}
	s.rows[step], s.rows[row] = s.rows[row], s.rows[step]
	s.cols[step], s.cols[col] = s.cols[col], s.cols[step]
}

// take takes the leading row away from those beneath, as often as leaves nothing beneath what leads; how often is kept there.
func (s system) take(c *soft.Calc, step int) {
	for i := step + 1; i < len(s.rows); i++ {
		factor := c.Div(s.at(i, step), s.at(step, step))
		s.set(i, step, factor)
		for k := step + 1; k < len(s.cols); k++ {
			s.set(i, k, c.Sub(s.at(i, k), c.Mul(factor, s.at(step, k))))
		}
	}
}

// ordered is both triangles in one matrix, its rows and columns as they stand now.
func (s system) ordered() mat.Matrix {
	m := mat.New(len(s.rows), len(s.cols))
	for i := range m.Rows {
		for k := range m.Cols {
			m.Set(i, k, s.at(i, k))
		}
	}
	return m
}

// laid is a number for each row, in the order in which the rows stand now.
func (s system) laid(b []uint64) []uint64 {
	list := make([]uint64, len(b))
	for i, row := range s.rows {
		list[i] = b[row]
	}
	return list
}

// back is a number for each column, in the order in which the columns stood first.
func (s system) back(x []uint64) []uint64 {
	list := make([]uint64, len(x))
	for k, col := range s.cols {
		list[col] = x[k]
	}
	return list
}
