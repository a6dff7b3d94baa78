package erasure_test

import (
	"bytes"
	"math"
	"math/rand"
	"testing"

	"drydock/api"
	"drydock/erasure"
)

// counted returns n bytes without zeros, of which 255 neighbours are different.
func counted(n int) []byte {
	out := make([]byte, n)
	for i := range out {
		out[i] = byte(1 + i%255)
	}
	return out
}

// checkSplit compares a result of Split with data and zeros, byte by byte.
func checkSplit(t *testing.T, k, size int, data []byte) {
	t.Helper()
	rows, err := erasure.Split(k, size, data)
	if err != api.OK || len(rows) != k {
		t.Errorf("Split(%d, %d, %d bytes) = %v, %d", k, size, len(data), rows, err)
		return
	}
	for i, row := range rows {
		if len(row) != size {
			t.Errorf("Split(%d, %d, %d bytes): row %d has %d bytes", k, size, len(data), i, len(row))
			return
		}
		for x, got := range row {
			want := byte(0)
			if i*size+x < len(data) {
				want = data[i*size+x]
			}
			if got != want {
				t.Errorf("Split(%d, %d, %d bytes): byte %d of row %d is %d, want %d", k, size, len(data), x, i, got, want)
				return
			}
		}
	}
}

// checkNotSplit checks the error of Split.
func checkNotSplit(t *testing.T, k, size int, data []byte, want api.Errno) {
	t.Helper()
	if got, err := erasure.Split(k, size, data); err != want || len(got) != 0 {
		t.Errorf("Split(%d, %d, %d bytes) = %v, %d, want %d", k, size, len(data), got, err, want)
	}
}

// P7.5: Split of data of every length for small rows, and of lengths around every end of a row for large ones.
func TestSplit(t *testing.T) {
	for k := 1; k <= 6; k++ {
		for size := range 6 {
			for n := range k*size + 1 {
				checkSplit(t, k, size, counted(n))
			}
			checkNotSplit(t, k, size, counted(k*size+1), api.ErrSize)
		}
		for _, size := range []int{16, 255, 256, 257, 4095, 4096} {
			for i := range k + 1 {
				for n := max(0, i*size-2); n <= min(i*size+2, k*size); n++ {
					checkSplit(t, k, size, counted(n))
				}
			}
			checkNotSplit(t, k, size, counted(k*size+1), api.ErrSize)
			checkNotSplit(t, k, size, counted(k*size+5000), api.ErrSize)
		}
	}
}

// P7.5: splits written out.
func TestSplitWritten(t *testing.T) {
	for _, c := range []struct {
		k, size int
		data    string
		want    string
	}{
		{1, 3, "abc", "abc"}, {3, 1, "abc", "a|b|c"}, {2, 2, "abc", "ab|c\x00"}, {2, 3, "abc", "abc|\x00\x00\x00"}, {2, 3, "ab", "ab\x00|\x00\x00\x00"}, {3, 2, "", "\x00\x00|\x00\x00|\x00\x00"}, {3, 0, "", "||"}, {6, 1, "abcdef", "a|b|c|d|e|f"},
	} {
		got, err := erasure.Split(c.k, c.size, []byte(c.data))
		if text := string(bytes.Join(got, []byte("|"))); err != api.OK || text != c.want {
			t.Errorf("Split(%d, %d, %q) = %q, %d", c.k, c.size, c.data, text, err)
		}
	}
	checkSplit(t, 2, 0, nil)
	checkSplit(t, 2, 0, []byte{})
	checkNotSplit(t, 1, 0, []byte{0}, api.ErrSize)
	checkNotSplit(t, 6, 0, []byte{1}, api.ErrSize)
	checkNotSplit(t, 2, 1, []byte{0, 0, 0}, api.ErrSize)
}

// P7.5: numbers that Split refuses, also if data has too many bytes.
func TestSplitErrors(t *testing.T) {
	wrongK := []int{math.MinInt, -1 << 32, -256, -7, -1, 0, 7, 8, 255, 256, 257, 1 << 32, 1<<32 + 1, 1 << 62, math.MaxInt}
	wrongSize := []int{math.MinInt, -1 << 32, -4096, -2, -1, 4097, 4098, 8192, 65536, 1 << 32, 1<<32 + 1, 1 << 61, 1 << 62, math.MaxInt/2 + 1, math.MaxInt}
	for _, data := range [][]byte{nil, {}, {0}, {1, 2}, counted(50000)} {
		for _, k := range wrongK {
			for _, size := range append([]int{0, 1, 2, 4096}, wrongSize...) {
				checkNotSplit(t, k, size, data, api.ErrArg)
			}
		}
		for k := 1; k <= 6; k++ {
			for _, size := range wrongSize {
				checkNotSplit(t, k, size, data, api.ErrArg)
			}
		}
	}
}

// checkJoined compares a result of Join with the expected bytes.
func checkJoined(t *testing.T, rows [][]byte, n int, want []byte) {
	t.Helper()
	if got, err := erasure.Join(rows, n); err != api.OK || !bytes.Equal(got, want) {
		t.Errorf("Join(%v, %d) = %v, %d, want %v", rows, n, got, err, want)
	}
}

// checkAllJoins checks Join for every n up to the number of bytes, and for numbers outside.
func checkAllJoins(t *testing.T, rows [][]byte) {
	t.Helper()
	all := bytes.Join(rows, nil)
	for n := range len(all) + 1 {
		checkJoined(t, rows, n, all[:n])
	}
	for _, n := range append(outside(len(all)+1), len(all)+len(rows)+1) {
		if n >= 0 && n <= len(all) {
			continue
		}
		if got, err := erasure.Join(rows, n); err != api.ErrArg || len(got) != 0 {
			t.Errorf("Join(%v, %d) = %v, %d", rows, n, got, err)
		}
	}
}

// P7.5: Join of no rows, of rows of equal and of different lengths, and of many rows, for every number of bytes.
func TestJoin(t *testing.T) {
	r := rand.New(rand.NewSource(18))
	for _, rows := range [][][]byte{
		nil, {}, {nil}, {{}, nil, {}}, {{1}}, {{0}, {0}}, {{1, 2, 3}}, {{1}, {2}, {3}}, {{1, 2}, {3, 4}}, {{1}, {2, 3}, {4, 5, 6}}, {{1, 2, 3}, {4, 5}, {6}}, {nil, {1, 2}, nil, nil, {3}, nil}, {counted(3), counted(0), counted(300), counted(2)}, random(r, 400, 1), random(r, 4, 100), make([][]byte, 300),
	} {
		checkAllJoins(t, rows)
	}
	for range 100 {
		rows := make([][]byte, r.Intn(8))
		for i := range rows {
			rows[i] = random(r, 1, r.Intn(6))[0]
		}
		checkAllJoins(t, rows)
	}
	checkJoined(t, [][]byte{[]byte("ab"), []byte("cde"), []byte("f")}, 4, []byte("abcd"))
}
