package hex

import (
	"strconv"
	"strings"

	"gimbal/api"
	"gimbal/word"
)

// What parts the numbers of a row, and the rows.
const (
	blank = ' '
	end   = '\n'
)

// mostText is how long a text may be: of a longer one the document promises nothing.
const mostText = 1<<31 - 1

// Rows is a matrix as a text: how many rows and columns, and each row on a line.
func Rows(rows, cols int, at func(i, k int) uint64) string {
	if at == nil {
		at = func(i, k int) uint64 { return word.Quiet } // where nothing is told there is no number
	}
	if !fits(rows, cols, mostText) {
		return "" // rather than to run out of memory
	}
	var out strings.Builder
	out.WriteString(strconv.Itoa(rows))
	out.WriteByte(blank)
	out.WriteString(strconv.Itoa(cols))
	out.WriteByte(end)
	for i := range rows {
		for k := range cols {
			if k > 0 {
				out.WriteByte(blank)
			}
			out.WriteString(Text(at(i, k)))
		}
		out.WriteByte(end)
	}
	return out.String()
}

// Matrix is the rows, the columns, and the numbers row by row, of a text.
func Matrix(s string) (int, int, []uint64, api.Errno) {
	// next is what stands ahead of the next such byte; the text goes on behind that.
	next := func(stop byte) (string, bool) {
		n := strings.IndexByte(s, stop)
		if n < 0 {
			return "", false
		}
		piece := s[:n]
		s = s[n+1:]
		return piece, true
	}
	rows, rowsOK := readSize(next(blank))
	cols, colsOK := readSize(next(end))
	// Memory is taken only for as many numbers as the text can have.
	if !rowsOK || !colsOK || !fits(rows, cols, len(s)) {
		return 0, 0, nil, api.ErrForm
	}
	all, ok := readRows(rows, cols, next)
	if !ok || s != "" {
		return 0, 0, nil, api.ErrForm
	}
	return rows, cols, all, api.OK
}

// fits tells whether so many rows and columns may stand in n bytes: a number takes two at least, with the byte behind
// it, and a row without numbers takes one.
func fits(rows, cols, n int) bool {
	if rows <= 0 {
		return true
	}
	if cols <= 0 {
		return rows <= n
	}
	return cols <= n/2 && rows <= n/(2*cols) // by quotients, since products might wrap round
}

// readSize is how many rows or columns a text tells, in the usual form; false: the text is none, or they are too many.
func readSize(s string, found bool) (int, bool) {
	n, err := strconv.Atoi(s)
	if !found || err != nil || strconv.Itoa(n) != s || n < 0 || n > api.MaxN {
		return 0, false
	}
	return n, true
}

// readRows is the numbers of so many rows and columns, of a text of which next answers piece by piece.
func readRows(rows, cols int, next func(stop byte) (string, bool)) ([]uint64, bool) {
	all := make([]uint64, 0, rows*cols)
	for range rows {
		if cols == 0 {
			if piece, found := next(end); !found || piece != "" {
				return nil, false
			}
		}
		for k := range cols {
			stop := byte(blank)
			if k == cols-1 {
				stop = end
			}
			piece, found := next(stop)
			b, e := Parse(piece)
			if !found || e != api.OK {
				return nil, false
			}
			all = append(all, b)
		}
	}
	return all, true
}
