package erasure

import "drydock/api"

const maxSize = 4096 // bytes of the longest row that Split makes

// Split returns k rows of size bytes, filled by data with zero bytes behind.
func Split(k, size int, data []byte) ([][]byte, api.Errno) {
	if k < 1 || k > api.MaxK || size < 0 || size > maxSize {
		return nil, api.ErrArg
	}
	if len(data) > k*size {
		return nil, api.ErrSize
	}
	rows := make([][]byte, k)
	for i := range rows {
		rows[i] = make([]byte, size)
		taken := copy(rows[i], data)
		data = data[taken:]
	}
	return rows, api.OK
}

// Join returns the first n bytes of all rows one behind the other.
func Join(rows [][]byte, n int) ([]byte, api.Errno) {
	if n < 0 || n > total(rows) {
		return nil, api.ErrArg
	}
	out := make([]byte, n)
	filled := 0
	for _, row := range rows {
		filled += copy(out[filled:], row)
	}
	return out, api.OK
}

// total returns the number of bytes of all rows.
func total(rows [][]byte) int {
	sum := 0
	for _, row := range rows {
		sum += len(row)
	}
	return sum
}
