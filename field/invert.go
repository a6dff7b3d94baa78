package field

import "drydock/api"

const maxOrder = 32 // rows of the largest matrix that is inverted

// Invert returns the matrix whose product with a is the identity.
func Invert(a [][]byte) ([][]byte, api.Errno) {
	n := len(a)
	if n == 0 || n > maxOrder || !haveLength(a, n) {
		return nil, api.ErrArg
	}
	rows := extended(a)
	for j := range rows {
		if !findPivot(rows, j) {
			return nil, api.ErrSingular
		}
		clearColumn(rows, j)
	}
	for i, row := range rows {
		rows[i] = row[n:]
	}
	return rows, api.OK
}

// extended returns copies of the rows of a, which is square, with those of the identity behind them.
func extended(a [][]byte) [][]byte {
	n := len(a)
	rows := make([][]byte, n)
	for i := range rows {
		rows[i] = make([]byte, 2*n)
		copy(rows[i], a[i])
		rows[i][n+i] = 1
	}
	return rows
}

// findPivot brings a row whose element in column j is not 0 to the place j, and reports whether there is one. The rows before j have their pivots already.
func findPivot(rows [][]byte, j int) bool {
	for i := j; i < len(rows); i++ {
		if rows[i][j] != 0 {
			rows[i], rows[j] = rows[j], rows[i]
			return true
		}
	}
	return false
}

// clearColumn makes the element in row j and column j, which is not 0, 1, and those of all other rows in this column 0.
func clearColumn(rows [][]byte, j int) {
	pivotRow := rows[j]
	inverse, _ := Inv(pivotRow[j])
	for k, x := range pivotRow {
		pivotRow[k] = Mul(inverse, x)
	}
	for i, row := range rows {
		if i != j {
			// Adding is subtracting in this field.
			addMultiple(row, row[j], pivotRow)
		}
	}
}
