package tests

import (
	"math"
	"strings"
	"testing"

	"envelope/api"
	"envelope/ivp"
	"envelope/script"
)

// written is a problem, its text.
func written() (api.Problem, string) {
	p := api.Problem{
		Tape:  api.Tape{N: 2, Ops: ops(load(0), load(1), constant(-0.75), op(api.OAdd, 0, 1), op(api.OSub, 3, 2), op(api.OMul, 4, 0), op(api.ODiv, 5, 2)), Out: list(6, 0)},
		Box:   []api.Iv{{Lo: -8, Hi: 10}, {Lo: 0, Hi: most}},
		Y:     row(0.1, 3),
		End:   1 << 40,
		First: 1 << 20,
		Least: 1,
		Atol:  least,
		Cap:   12,
		Most:  10000,
		Outs:  list(0, 7, 7, 1<<40),
	}
	return p, `vars 2
load 0
load 1
const -3p-2
add 0 1
sub 3 2
mul 4 0
div 5 2
out 6 0
box -1p3 5p1
box 0p0 9007199254740991p971
start 3602879701896397p-55 3p0
steps 1099511627776 1048576 1 10000
tol 1p-1074 0p0 3p2
at 0 7 7 1099511627776
`
}

func TestText(t *testing.T) {
	p, text := written()
	if got := script.Text(p); got != text {
		t.Errorf("P1301: %s", got)
	}
	p.Outs = nil
	if got := script.Text(p); got != text[:strings.Index(text, "at ")] {
		t.Errorf("P1301: no outputs: %s", got)
	}
	p.Y[1] = minus
	if got := script.Text(p); !strings.Contains(got, "start 3602879701896397p-55 0p0\n") {
		t.Errorf("P1301: -0: %s", got)
	}
}

// thereAndBack tells of a problem that is not read as it was written.
func thereAndBack(t *testing.T, p api.Problem) {
	t.Helper()
	text := script.Text(p)
	got, line, e := script.Parse(text)
	if e != api.OK || line != 0 || shown(got, false) != shown(p, false) || script.Text(got) != text {
		t.Fatalf("P1303: %s: %v, %d, %v, not %v", text, got, line, e, p)
	}
}

func TestThereAndBack(t *testing.T) {
	p, _ := written()
	thereAndBack(t, p)
	d := &dice{131}
	for range 3000 {
		p := someProblem(d)
		for i, o := range p.Tape.Ops {
			if o.Kind == api.OConst {
				p.Tape.Ops[i].C = d.real()
			}
		}
		for i := range p.Y {
			if d.of(2) == 0 {
				p.Box[i] = right(func() float64 {
					return max(-most, min(most, math.Float64frombits(uint64(d.of(1<<31))<<33|uint64(d.of(1<<31))<<2)))
				})
				if !(p.Box[i].Lo <= p.Box[i].Hi) {
					p.Box[i] = api.Iv{Lo: -most, Hi: most}
				}
				p.Y[i] = p.Box[i].Lo
			}
		}
		thereAndBack(t, p)
	}
	p.Outs = make([]int, 1000) // the longest text there is
	for i := range p.Outs {
		p.Outs[i] = 1<<40 - 1000 + i
	}
	p.Tape = api.Tape{N: 4, Out: list(59, 59, 59, 59)}
	for range 60 {
		p.Tape.Ops = append(p.Tape.Ops, constant(math.Ldexp(-(1<<53-1), -1074)))
	}
	p.Y, p.Box = row(0, 0, 0, 0), nil
	for range 4 {
		p.Box = append(p.Box, api.Iv{Lo: math.Ldexp(-(1<<53 - 1), -1074), Hi: math.Ldexp(1<<53-1, -1074)})
	}
	thereAndBack(t, p)
}

// lineOf is the line at which a text is refused; -1, if it is read.
func lineOf(t *testing.T, text string) int {
	t.Helper()
	p, line, e := script.Parse(text)
	if e == api.OK {
		if line != 0 {
			t.Errorf("P1302: %q: line %d beside OK", text, line)
		}
		return -1
	}
	if e != api.BadInput || shown(p, false) != shown(api.Problem{}, false) {
		t.Errorf("P1302: %q: %v, %v", text, p, e)
	}
	return line
}

func TestParseLines(t *testing.T) {
	_, text := written()
	lines := strings.SplitAfter(text, "\n")
	lines = lines[:len(lines)-1]
	for n := range lines { // some lack; a last line without its line feed
		part := strings.Join(lines[:n], "")
		want := n + 1
		if n == 14 { // outputs may lack
			want = -1
		}
		if got := lineOf(t, part); got != want {
			t.Errorf("P1302: %d lines: %d", n, got)
		}
		if got := lineOf(t, part+strings.TrimSuffix(lines[n], "\n")); got != n+1 {
			t.Errorf("P1302: line %d without its end: %d", n+1, got)
		}
		if got := lineOf(t, part+strings.TrimSuffix(lines[n], "\n")+" \n"+strings.Join(lines[n+1:], "")); got != n+1 {
			t.Errorf("P1302: line %d with a blank behind: %d", n+1, got)
		}
		for _, wrong := range []string{"\n", "none 1\n", " " + lines[n], strings.Replace(lines[n], " ", "  ", 1), strings.Replace(lines[n], "\n", "\r\n", 1), strings.Replace(lines[n], "\n", " 1x\n", 1), strings.ToUpper(lines[n]), strings.Split(lines[n], " ")[0] + "\n", strings.Replace(lines[n], " ", "\t", 1)} {
			if got := lineOf(t, part+wrong+strings.Join(lines[n+1:], "")); got != n+1 {
				t.Errorf("P1302: line %d as %q: %d", n+1, wrong, got)
			}
		}
	}
	for _, more := range []string{"at 0\n", "\n", "vars 2\n", "x", " "} {
		if got := lineOf(t, text+more); got != 16 {
			t.Errorf("P1302: %q behind all: %d", more, got)
		}
	}
}

func TestParseWrong(t *testing.T) {
	_, text := written()
	for _, x := range []struct {
		name, old, new string
		line           int
	}{
		{"even m", "5p1", "10p0", 10},
		{"m of 2^53 + 1", "5p1", "9007199254740993p0", 10},
		{"m of 2^53 - 1", "5p1", "9007199254740991p0", -1},
		{"-0", "0p0 9007", "-0p0 9007", 11},
		{"0p1", "0p0 9007", "0p1 9007", 11},
		{"m with a plus", "5p1", "+5p1", 10},
		{"m with a 0 ahead", "5p1", "05p1", 10},
		{"k with a plus", "5p1", "5p+1", 10},
		{"k of -0", "5p1", "5p-0", 10},
		{"k with a 0 ahead", "5p1", "5p01", 10},
		{"no k", "5p1", "5p", 10},
		{"no m", "5p1", "p1", 10},
		{"no p", "5p1", "5", 10},
		{"two p", "5p1", "5p1p1", 10},
		{"P", "5p1", "5P1", 10},
		{"a point", "5p1", "5.0p1", 10},
		{"infinite", "5p1", "Inf", 10},
		{"NaN", "5p1", "NaN", 10},
		{"too great", "9007199254740991p971", "9007199254740991p972", 11},
		{"the greatest power", "9007199254740991p971", "1p1023", -1},
		{"k of 1024", "5p1", "1p1024", 10},
		{"k of -1075", "1p-1074", "1p-1075", 14},
		{"3 by 2^-1074", "1p-1074", "3p-1074", -1},
		{"3 by 2^-1075", "1p-1074", "3p-1075", 14},
		{"k too long", "5p1", "5p99999999999999999999", 10},
		{"k 2^63 - 1", "5p1", "5p9223372036854775807", 10},
		{"k -2^63", "5p1", "5p-9223372036854775808", 10},
		{"m too long", "5p1", "99999999999999999999p1", 10},
		{"an underscore", "5p1", "1_1p1", 10},
		{"a count below 0", "load 1", "load -1", 3},
		{"a count -0", "load 0", "load -0", 2},
		{"a count with a 0 ahead", "load 1", "load 01", 3},
		{"a count with a plus", "load 1", "load +1", 3},
		{"a count that is a number", "load 1", "load 1p0", 3},
		{"a count above 2^62", "load 1", "load 4611686018427387905", 3},
		{"a count of 2^62", "load 1", "load 4611686018427387904", 0},
		{"a count above 2^64", "load 1", "load 99999999999999999999", 3},
		{"a word too few", "add 0 1", "add 0", 5},
		{"a word too many", "add 0 1", "add 0 1 2", 5},
		{"another word", "add 0 1", "sum 0 1", 5},
		{"const of two", "const -3p-2", "const -3p-2 1p0", 4},
		{"const of a count", "const -3p-2", "const 3", 4},
		{"vars of two", "vars 2", "vars 2 2", 1},
		{"vars of 2^62", "vars 2", "vars 4611686018427387904", 0},
		{"out of none", "out 6 0", "out", 9},
		{"out of one", "out 6 0", "out 6", 0},
		{"out of three", "out 6 0", "out 6 0 0", 0},
		{"start of none", "start 3602879701896397p-55 3p0", "start", 12},
		{"start of one", "start 3602879701896397p-55 3p0", "start 3p0", 0},
		{"box of one", "box -1p3 5p1", "box -1p3", 10},
		{"box of three", "box -1p3 5p1", "box -1p3 5p1 7p1", 10},
		{"a box too few", "box -1p3 5p1\n", "", 0},
		{"no box", "box -1p3 5p1\nbox 0p0 9007199254740991p971\n", "", 0},
		{"a box too many", "start", "box 1p0 3p0\nstart", 0},
		{"a box wrong way", "box -1p3 5p1", "box 5p1 -1p3", 0},
		{"at of none", "at 0 7 7 1099511627776", "at", 15},
		{"at twice", "at 0 7 7 1099511627776", "at 0\nat 7", 16},
		{"at going down", "at 0 7 7 1099511627776", "at 7 0", 0},
		{"steps of three", "1048576 1 10000", "1048576 10000", 13},
		{"tol of two", "tol 1p-1074 0p0 3p2", "tol 1p-1074 3p2", 14},
		{"a field behind out", "out 6 0\n", "out 6 0\nload 0\n", 10},
		{"start ahead of box", "box -1p3 5p1\nbox 0p0 9007199254740991p971\nstart 3602879701896397p-55 3p0\n", "start 3602879701896397p-55 3p0\nbox -1p3 5p1\nbox 0p0 9007199254740991p971\n", 11},
		{"no operation", text[strings.Index(text, "load 0"):strings.Index(text, "out")], "", 0},
		{"a register that is none", "div 5 2", "div 5 7", 0},
		{"the first of two", "load 1\nconst -3p-2\nadd 0 1", "load x\nconst y\nadd 0 1", 3},
	} {
		changed := strings.Replace(text, x.old, x.new, 1)
		if changed == text {
			t.Fatalf("%s: nothing to change", x.name)
		}
		if got := lineOf(t, changed); got != x.line {
			t.Errorf("P1302: %s: line %d, not %d", x.name, got, x.line)
		}
	}
	if got := lineOf(t, ""); got != 1 {
		t.Errorf("P1302: no text: line %d", got)
	}
	if got := lineOf(t, strings.Repeat("x", 20000)); got != 1 {
		t.Errorf("P1302: 20000 bytes: line %d", got)
	}
	if got := lineOf(t, strings.Repeat("x", 20001)); got != 0 {
		t.Errorf("P1302: 20001 bytes: line %d", got)
	}
	many := "vars 1\n" + strings.Repeat("load 0\n", 61) + "out 60\nbox 0p0 0p0\nstart 0p0\nsteps 1 1 1 1\ntol 1p0 1p0 1p0\n"
	if got := lineOf(t, many); got != 0 {
		t.Errorf("P1302: 61 operations: line %d", got)
	}
}

func TestScriptRules(t *testing.T) {
	d := &dice{132}
	_, text := written()
	for range 20000 { // a text with a few bytes changed
		b := []byte(text)
		for range 1 + d.of(3) {
			i := d.of(len(b))
			switch c := " \nxp-0123"[d.of(9)]; d.of(3) {
			case 0:
				b[i] = c
			case 1:
				b = append(b[:i], b[i+1:]...)
			case 2:
				b = append(b[:i], append([]byte{c}, b[i:]...)...)
			}
		}
		s := string(b)
		quiet(t, s, func() {
			p, line, e := script.Parse(s)
			switch {
			case e == api.OK && (line != 0 || !ivp.Check(p) || script.Text(p) != s):
				t.Fatalf("P1302: %q: %v, %d", s, p, line)
			case e != api.OK && (line < 0 || line > strings.Count(s, "\n")+1):
				t.Fatalf("P1302: %q: line %d", s, line)
			}
		})
	}
	p := roomy(someProblem(d))
	pure(t, "Text", []any{p}, func() []any { return []any{script.Text(p)} })
	pure(t, "Parse", nil, func() []any { p, line, e := script.Parse(text); return []any{p, line, e} })
	for range 500 {
		p := problem(wildTape(d))
		quiet(t, "Text", func() { script.Text(p) })
	}
}
