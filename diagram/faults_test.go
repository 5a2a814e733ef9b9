package diagram_test

import (
	"math/rand"
	"strings"
	"testing"

	"diagram/api"
	"diagram/diagram"
)

// refusedText: a circuit that must be refused so.
func refusedText(t *testing.T, circuit string, want api.Errno, wantLine int) {
	t.Helper()
	if v, e, line := judged(t, circuit); e != want || line != wantLine {
		t.Errorf("Check(%q) = %+v, %d, %d, want %d in line %d", circuit, v, e, line, want, wantLine)
	}
}

// accepted: a circuit that must be looked at, and is safe.
func accepted(t *testing.T, circuit string) {
	t.Helper()
	if v, e, line := judged(t, circuit); e != api.OK || line != 0 || !v.Safe {
		t.Errorf("Check(%q) = %+v, %d, %d, want it safe", circuit, v, e, line)
	}
}

func TestP9TooLong(t *testing.T) {
	for _, short := range []string{"bad = 0", "bad = 0\n", "\nbad = 0", "in x\nlatch a 0\nnext a = a\nbad = 0 "} {
		room := api.MaxText - len(short)
		accepted(t, short+strings.Repeat(" ", room))
		accepted(t, short+strings.Repeat("\n", room))
		refusedText(t, short+strings.Repeat(" ", room+1), api.ErrLimit, 0)
		refusedText(t, short+strings.Repeat("\n", room+1), api.ErrLimit, 0)
	}
	refusedText(t, strings.Repeat("#", api.MaxText), api.ErrText, 1)
	refusedText(t, strings.Repeat("#", api.MaxText+1), api.ErrLimit, 0) // ahead of what its lines are
	refusedText(t, strings.Repeat("\n", api.MaxText), api.ErrMissing, 0)
	refusedText(t, strings.Repeat("\n", api.MaxText-1)+"?", api.ErrText, api.MaxText)
	refusedText(t, strings.Repeat("bad = 1\n", 1<<20), api.ErrLimit, 0)
	accepted(t, "bad = 0"+strings.Repeat("&1", (api.MaxText-7)/2))
	refusedText(t, "bad = "+strings.Repeat("(", api.MaxText-6), api.ErrText, 1)
	refusedText(t, "bad = "+strings.Repeat("!", api.MaxText-6), api.ErrText, 1)
}

// notLines: none of what a line may be.
var notLines = []string{
	"#", ".", "in#", "a", "0", "1", "=", "?", "!", "()", "_", "-", ",", ";", "~", "+", "*", "/", "<", "@", "`", "{", "[", ":",
	"\t", "\r", "\x00", "\xff", "é", "in a\t", "in\ta", "in a\r", "bad = 0\r", "bad\u00a0= 0", "in ａ",
	"in", "in a b", "in 0", "in 1", "in =", "in a =", "in a 0", "in ?", "In a", "IN a", "in A", "in aB", "in a_b", "in 0a", "in 9", "in (a)", "in !a", "ina", "in in in", "input a", "inn a",
	"latch", "latch a", "latch 0", "latch a a", "latch a 2", "latch a 0 0", "latch a 01", "latch a 10", "latch a = 0", "latch 0 a", "latch ? a", "latch a ! 0", "latch a0", "latch a ??", "latch a ? 0", "latch a 0 ?", "latch a (0)", "latch a b 0", "latcha 0", "latch a !", "Latch a 0", "latch 0 0", "latch = 0",
	"next", "next a", "next a =", "next = a", "next a 1", "next a = = 1", "next 0 = 1", "next a b = 1", "next a = 1 =", "nexta = 1", "next a = 1 2", "next a = ?", "next a = a b", "next (a) = 1", "next a == 1", "next ? = 1", "next a ! 1", "Next a = 1", "next", "next a = ()",
	"bad", "bad =", "bad 1", "bad bad = 1", "bad a = 1", "bad = = 1", "bad = 1 =", "= 1", "bads = 1", "bad = bad =", "Bad = 1", "bad ? 1", "bad !1", "bad (1)", "bad == 1", "bad ! 1",
	"bad = 01", "bad = 10", "bad = 0a", "bad = 1a", "bad = 2", "bad = 0 1", "bad = a a", "bad = a 0", "bad = 0 a", "bad = a(0)", "bad = (0)a", "bad = (0)(0)", "bad = (0) (0)", "bad = (0)0", "bad = 0(0)", "bad = a!0",
	"bad = ()", "bad = ( )", "bad = (0", "bad = 0)", "bad = (0))", "bad = ((0)", "bad = )0(", "bad = (", "bad = )", "bad = !", "bad = !)", "bad = (!)", "bad = 0 (", "bad = (0 0)",
	"bad = 0 |", "bad = | 0", "bad = 0 & ", "bad = & 0", "bad = 0 ^", "bad = ^ 0", "bad = 0 & & 0", "bad = 0 | | 0", "bad = 0 ^ ^ 0", "bad = 0 & | 0", "bad = 0 || 0", "bad = 0 && 0", "bad = 0 ! 0", "bad = 0 !", "bad = !& 0", "bad = (0 |)", "bad = (| 0)", "bad = 0 & ()", "bad = 0 ? 0", "bad = ?", "bad = 0 = 0", "bad = 0 =", "bad = a ? 0", "bad = 0 & ^ 0",
}

func TestP9Text(t *testing.T) {
	for _, line := range notLines {
		refusedText(t, line, api.ErrText, 1)
		refusedText(t, "  "+line+"  ", api.ErrText, 1)
		refusedText(t, "in a\n\n"+line+"\nbad = 0", api.ErrText, 3)
		refusedText(t, "bad = 0\n"+line+"\n#", api.ErrText, 2) // the first
		refusedText(t, "bad = 0\nin a\nin a\nin b\nin c\nin d\nnext z = 1\nlatch l 0\n"+line, api.ErrText, 9)
	}
}

// TestP9OneByte: of all bytes, which may stand as a line, in a name, as a value, between words.
func TestP9OneByte(t *testing.T) {
	for b := range 256 {
		one := string([]byte{byte(b)})
		for _, circuit := range []string{one, "bad = 0\n" + one, "bad = " + one, "bad = 0" + one + "0", "in a" + one + "\nbad = 0", "in " + one + "\nbad = 0", "latch a " + one + "\nnext a = a\nbad = 0", "in" + one + "a\nbad = 0", "bad" + one + "=0", "latch a" + one + "0\nnext a = a\nbad = 0"} {
			judged(t, circuit)
		}
	}
}

func TestP9Names(t *testing.T) {
	longest := "abcdefgh"
	for _, name := range []string{"a", "z", "a0", "z9", "a0123456", "b0c1d2e3", longest, "in", "latch", "next", "bad"} {
		accepted(t, "in "+name+"\nbad = "+name+" & !"+name)
		accepted(t, "latch "+name+" 1\nnext "+name+" = "+name+"\nbad = !"+name)
		accepted(t, "bad="+name+"&0|0&"+name+"\nin "+name)
	}
	for _, name := range []string{longest + "i", longest + "0", "a01234567", "latchlatch", strings.Repeat("a", 900), "0a", "10", "a_", "aB", "Aa", "é"} {
		refusedText(t, "bad = 0\nin "+name, api.ErrText, 2)
		refusedText(t, "bad = 0\nlatch "+name+" 0", api.ErrText, 2)
		refusedText(t, "bad = 0\nnext "+name+" = 0", api.ErrText, 2)
		refusedText(t, "\nbad = 0 & "+name, api.ErrText, 2)
		refusedText(t, "\nbad = 0 & "+name+" | "+name[:1], api.ErrText, 2)
	}
	// One that begins as another does is another.
	refusedText(t, "in abcdefg\nbad = abcdefgh", api.ErrName, 2)
	accepted(t, "in ab\nin abc\nlatch abcd 0\nnext abcd = abcd & ab\nbad = abcd")
}

func TestP9Deep(t *testing.T) {
	nested := func(signs, inner string) string {
		return signs + inner + strings.Repeat(")", strings.Count(signs, "("))
	}
	for n := range 1 << api.MaxDeep { // all ways to stand so deep
		signs := ""
		for i := range api.MaxDeep {
			signs += "!("[n>>i&1:][:1]
		}
		even := strings.Count(signs, "!")%2 == 0
		inner, outer := "0", "1"
		if !even {
			inner, outer = outer, inner
		}
		accepted(t, "bad = "+nested(signs, inner))
		accepted(t, "bad = "+nested(signs, inner+"&"+inner)+"&"+nested(signs, inner))
		accepted(t, "latch a "+outer+"\nnext a = "+nested(signs, inner)+"\nbad = 0&a")
		for _, more := range []string{"!", "("} {
			refusedText(t, "\nbad = "+nested(signs+more, inner), api.ErrText, 2)
			refusedText(t, "\nbad = "+nested(more+signs, inner), api.ErrText, 2)
			refusedText(t, "\nbad = 0 | 1 ^ "+nested(signs, nested(more, "0")+" & 0"), api.ErrText, 2)
			if signs[len(signs)-1] == '(' {
				refusedText(t, "\nbad = 0 | 1 ^ "+nested(signs, "0 & "+nested(more, "0")), api.ErrText, 2)
			}
			refusedText(t, "bad = 0\nnext a = "+nested(signs+more, inner)+"\n", api.ErrText, 2)
		}
	}
	// Beside one another is not in one another.
	accepted(t, "bad = "+strings.Repeat("!(!(!(!(0))))|", 40)+"0")
	accepted(t, "bad = "+strings.Repeat("!!0|((0))&", 40)+"0")
	accepted(t, "bad = ((((((((0)&(0))|!0&0)^0)))&!!!1)|0)")
	refusedText(t, "bad = 0 & (0 | (0 ^ (0 & !(0 | (0 & !(1 & !(0 | 0)))))))", api.ErrText, 1)
}

func TestP9Twice(t *testing.T) {
	for _, c := range []struct {
		lines string
		line  int
	}{
		{"in a / in a", 2}, {"in a / latch a 0", 2}, {"latch a 0 / in a", 2}, {"latch a 0 / latch a 0", 2}, {"latch a 0 / latch a 1", 2},
		{"in b / in a / bad = 0 / next c = 1 /  / in a / in b", 6},
		{"latch a 0 / next a = 0 / next a = 0 / bad = 0", 3}, {"latch a 0 / bad = 1 / next a = 0 / next a = 1", 4},
		{"next z = 1 / next z = 1", 2}, {"in a / next a = 1 / next a = 1", 3},
		{"bad = 0 / bad = 0", 2}, {"bad = 0 / in x /  / bad = x", 4}, {"bad = zz / bad = 0", 2},
		// The first such line, of whatever kind.
		{"in a / bad = 0 / bad = 0 / in a", 3}, {"in a / bad = 0 / in a / bad = 0", 3}, {"next a = 0 / bad = 0 / next a = 0 / bad = 0", 3},
		// Ahead of inputs and latches too many, names that are not there, what is missing.
		{"in a / in b / in c / in d / in e / in e", 6}, {"next a = zz / in b / latch c 0 / in b", 4},
		{"latch a 0 / latch b 0 / latch c 0 / latch d 0 / latch e 0 / bad = q / bad = r", 7},
		{"bad = bad / bad = bad", 2}, {"in bad / bad = bad / in bad", 3}, {"in in / latch in 0", 2},
	} {
		refusedText(t, text(c.lines), api.ErrTwice, c.line)
	}
	// Neither a next and a declaration nor two of other names are the same twice.
	accepted(t, text("latch a 0 / next a = a / latch b 0 / next b = b / in c / bad = a & b & c"))
	accepted(t, text("latch next 0 / next next = next / in bad / bad = next & bad"))
	accepted(t, text(" / bad = 0 /  /  / "))
}

func TestP9TooMany(t *testing.T) {
	const inputs, latches, nexts = "in i / in j / in k / ", "latch a 0 / latch b 0 / latch c 0 / latch d 0 / ", "next a = a / next b = b / next c = c / next d = d / "
	accepted(t, text(inputs+latches+nexts+"bad = a & b & c & d & i & j & k"))
	for _, c := range []struct {
		lines string
		line  int
	}{
		{inputs + "in l / bad = 0", 4}, {"bad = 0 / " + inputs + " / in l / in m", 6},
		{latches + nexts + "latch e 0 / next e = e / bad = 0", 9}, {latches + "latch e 0 / latch f 0", 5},
		// The first of either.
		{latches + inputs + "in l / latch e 0", 8}, {latches + inputs + "latch e 0 / in l", 8}, {inputs + "in l / " + latches + "latch e 0", 4},
		// Ahead of names that are not there, and of what is missing.
		{"bad = zz / next zz = 0 / " + inputs + "in l", 6}, {latches + "latch e ?", 5},
	} {
		refusedText(t, text(c.lines), api.ErrLimit, c.line)
	}
}

func TestP9UnknownNames(t *testing.T) {
	for _, c := range []struct {
		lines string
		line  int
	}{
		{"bad = zz", 1}, {"bad = 0 & zz", 1}, {"bad = !(1 | zz)", 1}, {"in a /  / bad = a & aa", 3}, {"in aa / bad = a", 2}, {"bad = in", 1}, {"bad = bad", 1}, {"in a / bad = a & latch", 2},
		{"next a = 0 / bad = 0", 1}, {"in a / next a = 1 / bad = 0", 2}, {"next a = 1 / in a / bad = 0", 1}, {"latch b 0 / next b = 0 / next a = 0 / bad = 0", 3},
		{"latch a 0 / next a = b / bad = 0", 2}, {"next a = b / latch a 0 / bad = 0", 1},
		// The first of either kind.
		{"next a = 0 / bad = zz", 1}, {"bad = zz / next a = 0", 1}, {"latch a 0 / next a = q / next b = 0 / bad = zz", 2}, {"latch a 0 / next b = a / next a = q", 2},
		// Ahead of what is missing.
		{"latch a 0 / bad = b", 2}, {"latch a 0 / latch b 0 / next b = c", 3},
	} {
		refusedText(t, text(c.lines), api.ErrName, c.line)
	}
	accepted(t, text("bad = a & b & !i / next b = i / next a = a & b / latch b 0 / in i / latch a 0"))
}

func TestP9Missing(t *testing.T) {
	for _, c := range []struct {
		lines string
		line  int
	}{
		{"", 0}, {" ", 0}, {"\n", 0}, {"in a", 0}, {"in bad", 0}, {"latch a 0 / next a = a", 0}, {"latch bad 0 / next bad = bad", 0},
		{"latch a 0 / bad = 0", 1}, {"bad = 0 / in x /  / latch a ?", 4}, {"latch a 0 / latch b 0 / next b = a / bad = 0", 1}, {"latch a 0 / latch b 0 / next a = b / bad = 0", 2},
		{"next b = a / latch a 0 / latch b 0 / latch c 0 / bad = 0", 2}, {"latch next 0 / bad = 0", 1},
		// Ahead of a bad that is missing.
		{"in x /  / latch a 0", 3}, {"latch a 0 / latch b 0 / next a = 0", 2},
	} {
		refusedText(t, text(c.lines), api.ErrMissing, c.line)
	}
}

// TestP9InTurn: a text with all that is wrong, and then always without what was told.
func TestP9InTurn(t *testing.T) {
	lines := []string{"bad = zz", "latch a 0", "in i", "in j", "in k", "in l", "in i", "#", strings.Repeat(" ", api.MaxText)}
	for _, c := range []struct {
		e    api.Errno
		line int
		mend int // the line that is to blame
		by   string
	}{
		{api.ErrLimit, 0, 9, ""}, {api.ErrText, 8, 8, ""}, {api.ErrTwice, 7, 7, ""}, {api.ErrLimit, 6, 6, ""}, {api.ErrName, 1, 1, ""}, {api.ErrMissing, 2, 2, ""}, {api.ErrMissing, 0, 1, "bad = 0"},
	} {
		refusedText(t, strings.Join(lines, "\n"), c.e, c.line)
		lines[c.mend-1] = c.by
	}
	accepted(t, strings.Join(lines, "\n"))
}

// expr draws an expression of these names.
func expr(r *rand.Rand, names []string, deep int) string {
	switch n := r.Intn(8); {
	case deep == 0 || n < 2:
		return append(names, "0", "1")[r.Intn(len(names)+2)]
	case n < 3:
		return "!" + expr(r, names, deep-1)
	case n < 4:
		return "(" + expr(r, names, deep-1) + ")"
	default:
		return expr(r, names, deep-1) + []string{"&", " & ", " ^", "^ ", "|", " |  "}[r.Intn(6)] + expr(r, names, deep-1)
	}
}

// drawnCircuit draws a circuit: with nothing wrong, if it is short enough.
func drawnCircuit(r *rand.Rand, deep int) []string {
	names := []string{"a", "b", "go", "in", "latch", "next", "bad", "x0", "abcdefgh"}
	r.Shuffle(len(names), func(i, j int) { names[i], names[j] = names[j], names[i] })
	inputs, latches := r.Intn(api.MaxInputs+1), r.Intn(api.MaxLatches+1)
	names = names[: inputs+latches : inputs+latches]
	lines := []string{"bad = " + expr(r, names, deep)}
	for i, name := range names {
		if i < inputs {
			lines = append(lines, "in "+name)
		} else {
			lines = append(lines, "latch "+name+" "+[]string{"0", "0", "1", "?"}[r.Intn(4)], " next  "+name+"="+expr(r, names, deep)+" ")
		}
	}
	r.Shuffle(len(lines), func(i, j int) { lines[i], lines[j] = lines[j], lines[i] })
	return lines
}

func TestP9Drawn(t *testing.T) {
	r := rand.New(rand.NewSource(9))
	var isSafe, isUnsafe int
	for i := range 1500 {
		v, e, _ := judged(t, strings.Join(drawnCircuit(r, 1+i%5), "\n"))
		switch {
		case e == api.OK && v.Safe:
			isSafe++
		case e == api.OK:
			isUnsafe++
		}
	}
	if isSafe < 200 || isUnsafe < 200 {
		t.Errorf("drawn: %d safe, %d not: too few to tell", isSafe, isUnsafe)
	}
}

// TestP9ShortestRunsDrawn: counters that turn by drawn rules, so that runs are long.
func TestP9ShortestRunsDrawn(t *testing.T) {
	r := rand.New(rand.NewSource(10))
	names := []string{"a", "b", "c", "d", "i"}
	longest := 0
	for range 400 {
		lines := []string{"in i", "bad = a & " + expr(r, names, 1) + " & c & !d"}
		for _, name := range names[:4] {
			lines = append(lines, "latch "+name+" 0", "next "+name+" = "+name+" ^ "+expr(r, names, 2)+" & "+expr(r, names, 1))
		}
		v, _, _ := judged(t, strings.Join(lines, "\n"))
		longest = max(longest, len(v.Inputs)-1)
	}
	if longest < 6 {
		t.Errorf("the longest run drawn has %d steps: too few to tell", longest)
	}
}

// damaged draws something wrong into lines.
func damaged(r *rand.Rand, lines []string) []string {
	i := r.Intn(len(lines))
	switch r.Intn(6) {
	case 0:
		return append(lines[:i:i], lines[i+1:]...)
	case 1:
		return append(lines, lines[i])
	case 2:
		return append(lines, []string{"in q", "latch q 0", "next q = 1", "bad = q", " ", "next a = a", "in i", "in j"}[r.Intn(8)])
	}
	const bytes = "ab01xq=?!&^|() \n9\tA"
	line := []byte(lines[i])
	for k := range line {
		if r.Intn(len(line)) == 0 {
			line[k] = bytes[r.Intn(len(bytes))]
		}
	}
	lines[i] = string(line)
	return lines
}

func TestP9DrawnFaults(t *testing.T) {
	r := rand.New(rand.NewSource(11))
	seen := map[api.Errno]int{}
	for range 6000 {
		lines := drawnCircuit(r, 2)
		for range 1 + r.Intn(3) {
			if len(lines) > 0 {
				lines = damaged(r, lines)
			}
		}
		_, e, _ := judged(t, strings.Join(lines, "\n"))
		seen[e]++
	}
	for _, e := range []api.Errno{api.OK, api.ErrText, api.ErrTwice, api.ErrLimit, api.ErrName, api.ErrMissing} {
		if seen[e] < 50 {
			t.Errorf("drawn: the error %d just %d times: too few to tell", e, seen[e])
		}
	}
}

// TestP1CheckEnds: with any bytes at all.
func TestP1CheckEnds(t *testing.T) {
	r := rand.New(rand.NewSource(12))
	const bytes = "abin =?!&^|()01\n\n latch next bad = "
	for i := range 20000 {
		text := make([]byte, r.Intn(60))
		for k := range text {
			text[k] = bytes[r.Intn(len(bytes))]
			if i%4 == 0 {
				text[k] = byte(r.Intn(256))
			}
		}
		judged(t, string(text))
	}
	for _, size := range []int{1 << 10, 1 << 16, 1 << 24} {
		if v, e, line := diagram.Check(strings.Repeat("(", size)); e != api.ErrLimit || line != 0 {
			t.Errorf("Check of %d bytes: %+v, %d, %d", size, v, e, line)
		}
	}
}
