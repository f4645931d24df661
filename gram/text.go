package gram

import (
	"strconv"
	"strings"

	"quadform/api"
	"quadform/integer"
)

// header begins the first line of a text; the number of rows follows.
const header = "form "

// lineReader reads a text line by line.
type lineReader struct {
	rest   string // the text behind the lines that were read
	number int    // the number of the last line that was asked for, counted from 1
}

// next returns the next line without its line feed; false if no line feed ends it.
func (r *lineReader) next() (string, bool) {
	line, rest, ended := strings.Cut(r.rest, "\n")
	r.rest = rest
	r.number++
	return line, ended
}

// Parse reads a Gram matrix; with ErrSyntax it returns the number of the first wrong line.
func Parse(s string) ([][]api.Int, api.Errno, int) {
	lines := lineReader{rest: s}
	rows, ok := readRows(lines.next)
	if !ok {
		return nil, api.ErrSyntax, lines.number
	}
	if lines.rest != "" {
		return nil, api.ErrSyntax, lines.number + 1
	}
	g := symmetric(rows)
	// A symmetric matrix of 1 to MaxDim rows has no other error.
	if e := Validate(g); e != api.OK {
		return nil, e, 0
	}
	return g, api.OK, 0
}

// readRows reads the entries on and below the diagonal; false if the last line that it asked for is wrong.
func readRows(next func() (string, bool)) ([][]api.Int, bool) {
	line, ok := next()
	if !ok {
		return nil, false
	}
	n, ok := readDimension(line)
	if !ok {
		return nil, false
	}
	rows := make([][]api.Int, n)
	for i := range rows {
		line, ok = next()
		if !ok {
			return nil, false
		}
		rows[i], ok = readNumbers(line, i+1)
		if !ok {
			return nil, false
		}
	}
	return rows, true
}

// readDimension reads the first line; false if it is wrong.
func readDimension(line string) (int, bool) {
	digit, ok := strings.CutPrefix(line, header)
	if !ok || len(digit) != 1 || digit[0] < '1' || digit[0] > '0'+api.MaxDim {
		return 0, false
	}
	return int(digit[0] - '0'), true
}

// readNumbers reads this many numbers with single spaces between them; false if the line is anything else.
func readNumbers(line string, count int) ([]api.Int, bool) {
	words := strings.SplitN(line, " ", count) // Further words stay in the last one, which is no number then.
	if len(words) != count {
		return nil, false
	}
	numbers := make([]api.Int, count)
	for i, word := range words {
		number, e := integer.Parse(word)
		if e != api.OK {
			return nil, false
		}
		numbers[i] = number
	}
	return numbers, true
}

// symmetric returns the symmetric matrix with these entries on and below the diagonal. Equal entries have limbs of their own.
func symmetric(rows [][]api.Int) [][]api.Int {
	return build(len(rows), func(i, j int) api.Int {
		return integer.Normalize(rows[max(i, j)][min(i, j)])
	})
}

// Format returns the text of a Gram matrix.
func Format(g [][]api.Int) (string, api.Errno) {
	if e := Validate(g); e != api.OK {
		return "", e
	}
	if !isShort(g) {
		return "", api.ErrTooLarge
	}
	text := new(strings.Builder)
	text.WriteString(header + strconv.Itoa(len(g)) + "\n")
	for i, row := range g {
		words := make([]string, i+1)
		for j := range words {
			words[j] = integer.Format(row[j])
		}
		text.WriteString(strings.Join(words, " ") + "\n")
	}
	return text.String(), api.OK
}

// isShort reports whether all entries of a Gram matrix have at most MaxDigits digits.
func isShort(g [][]api.Int) bool {
	limit := powerOfTen(api.MaxDigits)
	for i, row := range g {
		// The greatest entries of a positive definite matrix stand on its diagonal.
		if integer.Cmp(row[i], limit) >= 0 {
			return false
		}
	}
	return true
}

// powerOfTen returns 10 to the n-th power, where n may be greater than MaxPow.
func powerOfTen(n int) api.Int {
	power := integer.Small(1)
	for n > 0 {
		part, _ := integer.Pow(integer.Small(10), min(n, api.MaxPow))
		power = integer.Mul(power, part)
		n -= api.MaxPow
	}
	return power
}
