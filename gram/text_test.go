package gram_test

import (
	"fmt"
	"math/big"
	"regexp"
	"strings"
	"testing"

	"quadform/api"
	"quadform/gram"
)

// textOf returns the text of a matrix by package big.
func textOf(m values) string {
	text := fmt.Sprintf("form %d\n", len(m))
	for i, row := range m {
		text += strings.Trim(fmt.Sprint(row[:i+1]), "[]") + "\n"
	}
	return text
}

// P7.2
func TestFormat(t *testing.T) {
	for _, g := range forms() {
		if text, e := gram.Format(g); e != api.OK || text != textOf(valuesOf(g)) {
			t.Errorf("Format of %v: %q, %d", g, text, e)
		}
	}
	for _, c := range []struct {
		l    ints
		text string
	}{{hexagon, "form 2\n2\n1 2\n"}, {ints{{7}}, "form 1\n7\n"}, {ints{{2, -1}, {-1, 10}}, "form 2\n2\n-1 10\n"}, {ints{{4, 2, 0}, {2, 6, -1}, {0, -1, 3}}, "form 3\n4\n2 6\n0 -1 3\n"}, {unit(8), "form 8\n1\n0 1\n0 0 1\n0 0 0 1\n0 0 0 0 1\n0 0 0 0 0 1\n0 0 0 0 0 0 1\n0 0 0 0 0 0 0 1\n"}} {
		if text, e := gram.Format(of(c.l)); e != api.OK || text != c.text {
			t.Errorf("Format of %v: %q, %d", c.l, text, e)
		}
	}
}

// P7.2: an entry may have MaxDigits digits, and no more, wherever it stands.
func TestFormatOfLongEntries(t *testing.T) {
	limit := big10(api.MaxDigits)
	longest, negative := new(big.Int).Sub(limit, big.NewInt(1)), new(big.Int).Sub(big.NewInt(2), limit)
	zero, one, huge := new(big.Int), big.NewInt(1), new(big.Int).Lsh(limit, 1<<20)
	for _, c := range []struct {
		a, b, c *big.Int // the matrix ((a, b), (b, c))
		e       api.Errno
	}{
		{longest, negative, longest, api.OK}, {longest, one, longest, api.OK}, {longest, zero, one, api.OK}, {one, zero, longest, api.OK},
		{limit, zero, one, api.ErrTooLarge}, {one, zero, limit, api.ErrTooLarge}, {limit, negative, longest, api.ErrTooLarge}, {longest, negative, limit, api.ErrTooLarge}, {limit, negative, limit, api.ErrTooLarge}, {huge, limit, limit, api.ErrTooLarge}, {one, zero, huge, api.ErrTooLarge},
		{limit, limit, limit, api.ErrDefinite}, {limit, limit, one, api.ErrDefinite}, {zero, zero, limit, api.ErrDefinite}, {limit, zero, zero, api.ErrDefinite},
	} {
		g := [][]api.Int{{intOf(c.a), intOf(c.b)}, {intOf(c.b), intOf(c.c)}}
		want := ""
		if c.e == api.OK {
			want = textOf(valuesOf(g))
		}
		if text, e := gram.Format(g); e != c.e || text != want {
			t.Errorf("Format of ((%.9s, %.9s), (.., %.9s)): %.40q, %d, want the error %d", c.a, c.b, c.c, text, e, c.e)
		}
	}
}

var (
	firstLine = regexp.MustCompile(`^form [1-8]\n$`)
	digits    = regexp.MustCompile(`[0-9]+`)
)

// reading returns what Parse is to return: the text of the matrix instead of the matrix.
func reading(s string) (string, api.Errno, int) {
	lines := strings.SplitAfter(s, "\n")
	if !firstLine.MatchString(lines[0]) {
		return "", api.ErrSyntax, 1
	}
	n := int(lines[0][len("form ")] - '0')
	g := make(values, n)
	for i := range n {
		pattern := fmt.Sprintf(`^(0|-?[1-9][0-9]*)( (0|-?[1-9][0-9]*)){%d}\n$`, i)
		if i+1 >= len(lines) || !regexp.MustCompile(pattern).MatchString(lines[i+1]) {
			return "", api.ErrSyntax, i + 2
		}
		for _, number := range digits.FindAllString(lines[i+1], -1) {
			if len(number) > api.MaxDigits {
				return "", api.ErrSyntax, i + 2
			}
		}
		for _, number := range strings.Fields(lines[i+1]) {
			v, _ := new(big.Int).SetString(number, 10)
			g[i] = append(g[i], v)
		}
	}
	if strings.Join(lines[n+1:], "") != "" {
		return "", api.ErrSyntax, n + 2
	}
	for i := range n {
		for j := i + 1; j < n; j++ {
			g[i] = append(g[i], g[j][i])
		}
	}
	for k := range n {
		corner := make(values, k+1)
		for i := range corner {
			corner[i] = g[i][:k+1]
		}
		if determinant(corner).Sign() <= 0 {
			return "", api.ErrDefinite, 0
		}
	}
	return s, api.OK, 0
}

// expectReading checks what Parse returns.
func expectReading(t *testing.T, s string) {
	t.Helper()
	want, wantError, wantLine := reading(s)
	g, e, line := gram.Parse(s)
	if e != wantError || line != wantLine {
		t.Errorf("Parse of %.60q: %d in line %d, want %d in line %d", s, e, line, wantError, wantLine)
		return
	}
	if e != api.OK {
		expectError(t, fmt.Sprintf("Parse of %.60q", s), g, e, wantError)
		return
	}
	expect(t, fmt.Sprintf("Parse of %.60q", s), g, gram.Validate(g), valuesOf(g)) // all entries are canonical
	if got := textOf(valuesOf(g)); got != want {
		t.Errorf("Parse of %.60q: the matrix with the text %.60q", s, got)
	}
}

// P7.3
func TestParse(t *testing.T) {
	for _, c := range []struct {
		text string
		want ints
	}{{"form 2\n2\n1 2\n", hexagon}, {"form 1\n7\n", ints{{7}}}, {"form 3\n4\n2 6\n0 -1 3\n", ints{{4, 2, 0}, {2, 6, -1}, {0, -1, 3}}}, {"form 2\n2\n-1 10\n", ints{{2, -1}, {-1, 10}}}, {"form 8\n1\n0 1\n0 0 1\n0 0 0 1\n0 0 0 0 1\n0 0 0 0 0 1\n0 0 0 0 0 0 1\n0 0 0 0 0 0 0 1\n", unit(8)}} {
		g, e, line := gram.Parse(c.text)
		expect(t, fmt.Sprintf("Parse of %q", c.text), g, e, valuesOf(of(c.want)))
		if line != 0 {
			t.Errorf("Parse of %q: line %d", c.text, line)
		}
		expectReading(t, c.text)
	}
	for _, g := range forms() {
		expectReading(t, textOf(valuesOf(g)))
	}
}

// P7.3
func TestParseOfWrongTexts(t *testing.T) {
	for _, c := range []struct {
		text string
		line int
	}{
		{"", 1}, {"\n", 1}, {"form 2", 1}, {"form\n", 1}, {"form \n", 1}, {"form 0\n", 1}, {"form 9\n", 1}, {"form 10\n", 1}, {"form 16\n", 1}, {"form 02\n", 1}, {"form -1\n", 1}, {"form +1\n", 1}, {"form :\n", 1}, {"form /\n", 1}, {"form x\n", 1}, {"form  2\n", 1}, {"form2\n", 1}, {"form\t2\n", 1}, {" form 2\n", 1}, {"Form 1\n1\n", 1}, {"form 1 \n1\n", 1}, {"\nform 1\n1\n", 1}, {"form 1\r\n1\n", 1}, {"form \u0661\n1\n", 1}, {"form 1\n1\n"[1:], 1}, {"form form 1\n1\n", 1}, {"form 1\r1\n", 1},
		{"form 1\n", 2}, {"form 1\n1", 2}, {"form 1\n\n", 2}, {"form 1\n\n1\n", 2}, {"form 1\n01\n", 2}, {"form 1\n-0\n", 2}, {"form 1\n+1\n", 2}, {"form 1\n1 \n", 2}, {"form 1\n 1\n", 2}, {"form 1\n1 1\n", 2}, {"form 1\n1.0\n", 2}, {"form 1\n0x1\n", 2}, {"form 1\n-\n", 2}, {"form 1\n1\r\n", 2}, {"form 1\n1\x00\n", 2}, {"form 1\n\xff\n", 2}, {"form 1\n1_0\n", 2}, {"form 1\n--1\n", 2}, {"form 2\n2 1\n1 2\n", 2}, {"form 2\n1 2\n2\n", 2},
		{"form 1\n1\n\n", 3}, {"form 1\n1\nx", 3}, {"form 1\n1\n ", 3}, {"form 1\n1\n\x00", 3}, {"form 1\n1\nform 1\n1\n", 3}, {"form 1\n-1\n1\n", 3}, {"form 2\n2\n", 3}, {"form 2\n2\n1 2", 3}, {"form 2\n2\n1\n", 3}, {"form 2\n2\n1  2\n", 3}, {"form 2\n2\n1 2 \n", 3}, {"form 2\n2\n 1 2\n", 3}, {"form 2\n2\n1\t2\n", 3}, {"form 2\n2\n1 2 3\n", 3}, {"form 2\n2\n\n1 2\n", 3}, {"form 2\n2\n1\n2\n", 3}, {"form 2\n-2\n1 x\n", 3},
		{"form 2\n2\n1 2\n\n", 4}, {"form 2\n2\n1 2\n1 2 3\n", 4}, {"form 3\n2\n1 2\n0 0\n", 4}, {"form 3\n2\n1 2\n0 0 2", 4}, {"form 2\n0\n0 0\n0\n", 4}, {"form 8\n1\n0 1\n0 0 1\n0 0 0 1\n0 0 0 0 1\n0 0 0 0 0 1\n0 0 0 0 0 0 1\n0 0 0 0 0 0 0 1\n0 0 0 0 0 0 0 0 1\n", 10},
	} {
		g, e, line := gram.Parse(c.text)
		expectError(t, fmt.Sprintf("Parse of %q", c.text), g, e, api.ErrSyntax)
		if line != c.line {
			t.Errorf("Parse of %q: line %d, want %d", c.text, line, c.line)
		}
		expectReading(t, c.text)
	}
	for _, s := range []string{"form 1\n0\n", "form 1\n-5\n", "form 2\n1\n1 1\n", "form 2\n-1\n0 1\n", "form 2\n1\n0 0\n", "form 3\n2\n-1 2\n-1 -1 2\n", "form 2\n0\n0 0\n"} {
		g, e, line := gram.Parse(s)
		expectError(t, fmt.Sprintf("Parse of %q", s), g, e, api.ErrDefinite)
		if line != 0 {
			t.Errorf("Parse of %q: line %d", s, line)
		}
		expectReading(t, s)
	}
}

// P7.3: a number may have MaxDigits digits, and no more; the sign is not counted.
func TestParseOfLongNumbers(t *testing.T) {
	longest := strings.Repeat("9", api.MaxDigits)
	for _, s := range []string{
		"form 1\n" + longest + "\n", "form 1\n" + longest + "9\n", "form 1\n-" + longest + "\n", "form 1\n1" + strings.Repeat("0", api.MaxDigits) + "\n", "form 1\n0" + longest + "\n", "form 1\n" + strings.Repeat("9", 1<<20) + "\n",
		"form 2\n" + longest + "\n-" + longest[1:] + " " + longest + "\n", "form 2\n" + longest + "\n-" + longest + " " + longest + "\n", "form 2\n" + longest + "\n" + longest + "9 1\n", "form 2\n" + longest + "\n1 " + longest + "9\n", "form 2\n" + longest + "9\n1\n",
		"form 1\n" + strings.Repeat("1 ", 1<<20) + "\n", "form 1\n" + strings.Repeat(" ", 1<<20) + "1\n", "form 1\n1\n" + strings.Repeat("\n", 1<<20), "form 2\n2\n1" + strings.Repeat(" 1", 1<<20) + "\n", strings.Repeat("form 1\n", 1<<10), strings.Repeat("form", 1<<20),
	} {
		expectReading(t, s)
	}
}

// P7.3: texts that differ from right ones by one character.
func TestParseOfChangedTexts(t *testing.T) {
	for _, text := range []string{"form 1\n10\n", "form 2\n2\n-1 12\n", "form 3\n20\n2 6\n0 -1 3\n"} {
		for i := range len(text) + 1 {
			expectReading(t, text[:i])
			expectReading(t, text[i:])
			for _, c := range []string{"\n", " ", "-", "+", "0", "1", "2", "3", "8", "9", "f", "form 1", "\r", "\t", "\x00", "\x80", ".", "\u00a0", "\u2212", "\u0663", "\n\n", "  ", "1 2\n", "-1 "} {
				expectReading(t, text[:i]+c+text[i:])
				if i < len(text) {
					expectReading(t, text[:i]+c+text[i+1:])
				}
			}
			if i < len(text) {
				expectReading(t, text[:i]+text[i+1:])
			}
		}
	}
}
