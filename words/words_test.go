package words_test

import (
	"fmt"
	"math"
	"regexp"
	"slices"
	"strings"
	"testing"

	"handoff/api"
	"handoff/plan"
	"handoff/words"
)

// outermost are numbers of all sizes and signs; cut to 8, 16 or 32 bits some of the wrong ones would be right.
func outermost() []int {
	return []int{-1, -4, -255, -256, 256, 257, 300, 1<<16 + 1, 1 << 32, 1<<32 + 1, 1 - 1<<32, math.MaxInt32, math.MinInt32, math.MaxInt, math.MinInt}
}

// wording is an op, and its words.
type wording struct {
	op   api.Op
	text string
}

// plainOps are all right ops without cases and else.
func plainOps() []wording {
	var all []wording
	put := func(o api.Op, format string, numbers ...any) {
		all = append(all, wording{o, fmt.Sprintf(format, numbers...)})
	}
	for n := range 5 {
		put(api.Op{Kind: 1, N: n}, "make %d", n)
	}
	for ch := range 9 {
		for v := range int64(256) {
			put(api.Op{Kind: 2, Ch: ch, V: v}, "send %d %d", ch, v)
			put(api.Op{Kind: 4, Ch: ch, V: v}, "try send %d %d", ch, v)
		}
		put(api.Op{Kind: 3, Ch: ch}, "recv %d", ch)
		put(api.Op{Kind: 5, Ch: ch}, "try recv %d", ch)
		put(api.Op{Kind: 6, Ch: ch}, "close %d", ch)
		put(api.Op{Kind: 7, Ch: ch}, "len %d", ch)
		put(api.Op{Kind: 8, Ch: ch}, "cap %d", ch)
	}
	return append(all, wording{api.Op{Kind: 9}, "select"})
}

// caseText answers a right case's words.
func caseText(c api.Case) string {
	if c.Send {
		return fmt.Sprintf("send %d %d", c.Ch, c.V)
	}
	return fmt.Sprintf("recv %d", c.Ch)
}

// selects are right selects: every case by itself, each number of cases, each place of a sending one, with and without an else.
func selects() []wording {
	var rows [][]api.Case
	for ch := range 9 {
		rows = append(rows, []api.Case{{Ch: ch}})
		for v := range int64(256) {
			rows = append(rows, []api.Case{{Send: true, Ch: ch, V: v}})
		}
	}
	for n := range 7 {
		longest := slices.Repeat([]api.Case{{Send: true, Ch: 8, V: 255}}, n)
		rows = append(rows, make([]api.Case, n), longest)
		for mask := range 1 << n {
			row := make([]api.Case, n)
			for i := range row {
				row[i].Ch = (mask + i) % 9
				if mask>>i&1 == 1 {
					row[i].Send, row[i].V = true, int64(mask*(i+3)%256)
				}
			}
			rows = append(rows, row)
		}
	}
	var all []wording
	for _, row := range rows {
		text := "select"
		for _, c := range row {
			text += " | " + caseText(c)
		}
		all = append(all, wording{api.Op{Kind: 9, Cases: row}, text}, wording{api.Op{Kind: 9, Cases: row, Else: true}, text + " | else"})
	}
	return all
}

// rightOps are all right ops without cases, and selects of all kinds.
func rightOps() []wording { return append(plainOps(), selects()...) }

// wrongOps are ops that can't be.
func wrongOps() []api.Op {
	wrong := []api.Op{
		{}, {Kind: 10}, {Kind: 1, N: 5}, {Kind: 9, Ch: 1}, {Kind: 9, N: 1}, {Kind: 9, V: 1}, {Kind: 9, Cases: make([]api.Case, 7)}, {Kind: 9, Cases: make([]api.Case, 300), Else: true},
		{Kind: 9, Cases: []api.Case{{Ch: 9}}}, {Kind: 9, Cases: []api.Case{{V: 1}}}, {Kind: 9, Cases: []api.Case{{}, {Send: true, V: 256}}}, {Kind: 9, Cases: []api.Case{{}, {Send: true, V: 255}, {Send: true, Ch: 9}}},
		{Kind: 1, Ch: 1}, {Kind: 1, V: 1}, {Kind: 3, V: 1}, {Kind: 5, V: 1}, {Kind: 6, V: 1}, {Kind: 7, V: 1}, {Kind: 8, V: 1},
	}
	for kind := 1; kind <= 8; kind++ {
		wrong = append(wrong, api.Op{Kind: kind, Else: true}, api.Op{Kind: kind, Cases: make([]api.Case, 1)})
		if kind > 1 {
			wrong = append(wrong, api.Op{Kind: kind, Ch: 9}, api.Op{Kind: kind, N: 1})
		}
	}
	for _, x := range outermost() {
		v := int64(x)
		wrong = append(wrong, api.Op{Kind: 9, Cases: []api.Case{{Ch: x}}}, api.Op{Kind: 9, Cases: []api.Case{{Send: true, Ch: x}}}, api.Op{Kind: 9, Cases: []api.Case{{Send: true, V: v}}}, api.Op{Kind: 9, Cases: []api.Case{{V: v}}})
		for kind := 1; kind <= 9; kind++ {
			wrong = append(wrong, api.Op{Kind: x}, api.Op{Kind: kind, Ch: x}, api.Op{Kind: kind, N: x}, api.Op{Kind: kind, V: v})
		}
	}
	return wrong
}

// opLine tells of which lines the chapter says that they are a right op's.
func opLine() *regexp.Regexp {
	const value = `([0-9]|[1-9][0-9]|1[0-9][0-9]|2[0-4][0-9]|25[0-5])`
	const send, recv = `send [0-8] ` + value, `recv [0-8]`
	return regexp.MustCompile(`\A(make [0-4]|(try )?` + send + `|(try )?` + recv + `|(close|len|cap) [0-8]|select( \| (` + send + `|` + recv + `)){0,6}( \| else)?)\z`)
}

// samePlan: have both the same ops?
func samePlan(a, b [][]api.Op) bool {
	return slices.EqualFunc(a, b, func(x, y []api.Op) bool { return slices.EqualFunc(x, y, plan.SameOp) })
}

// parses tells an error unless that is the plan of a text.
func parses(t *testing.T, s string, want [][]api.Op) {
	t.Helper()
	if p, line := words.Parse(s); line != 0 || !samePlan(p, want) {
		t.Fatalf("Parse(%q) is %v, %d; want %v", s, p, line, want)
	}
}

// fails tells an error unless that line of a text is told to be wrong.
func fails(t *testing.T, s string, want int) {
	t.Helper()
	if p, line := words.Parse(s); line != want || len(p) != 0 {
		t.Fatalf("Parse(%.200q) is %v, %d; want %d", s, p, line, want)
	}
}

// draws are numbers that are drawn, the same ones in each run.
type draws struct{ x uint64 }

// draw is a number from 0 to n - 1.
func (d *draws) draw(n int) int {
	d.x = d.x*6364136223846793005 + 1442695040888963407
	return int(d.x>>33) % n
}

// plan is a right plan, and its text.
func (d *draws) plan(ops []wording) ([][]api.Op, string) {
	text := ""
	p := make([][]api.Op, 1+d.draw(8))
	for g := range p {
		text += "go\n"
		for range d.draw(17) {
			w := ops[d.draw(len(ops))]
			p[g] = append(p[g], w.op)
			text += w.text + "\n"
		}
	}
	return p, text
}

func TestTheChapter(t *testing.T) {
	o := api.Op{Kind: api.OpSelect, Cases: []api.Case{{Ch: 1}}, Else: true}
	if got := words.Op(o); got != "select | recv 1 | else" {
		t.Error(got)
	}
	if got := words.Result(api.Result{Code: 1, Case: -1, V: 7, Ok: true}); got != "done 7 ok 0" {
		t.Error(got)
	}
}

func TestOp(t *testing.T) {
	for _, w := range rightOps() {
		if got := words.Op(w.op); got != w.text {
			t.Fatalf("Op(%v) is %q; want %q", w.op, got, w.text)
		}
	}
}

func TestOpOfWhatIsNotRight(t *testing.T) {
	for _, o := range wrongOps() {
		if got := words.Op(o); got != "" {
			t.Fatalf("Op(%v) is %q", o, got)
		}
	}
}

func TestText(t *testing.T) {
	rows := []struct {
		p    [][]api.Op
		text string
	}{
		{[][]api.Op{nil}, "go\n"},
		{[][]api.Op{{}, nil, {}}, "go\ngo\ngo\n"},
		{[][]api.Op{nil, {{Kind: 1, N: 4}}, nil}, "go\ngo\nmake 4\ngo\n"},
		{[][]api.Op{{{Kind: 2, Ch: 1, V: 10}, {Kind: 9}}, {{Kind: 3, Ch: 1}}}, "go\nsend 1 10\nselect\ngo\nrecv 1\n"},
		{make([][]api.Op, 8), strings.Repeat("go\n", 8)},
		{[][]api.Op{slices.Repeat([]api.Op{{Kind: 6, Ch: 8}}, 16)}, "go\n" + strings.Repeat("close 8\n", 16)},
	}
	for _, r := range rows {
		if got := words.Text(r.p); got != r.text {
			t.Errorf("Text(%v) is %q; want %q", r.p, got, r.text)
		}
		parses(t, r.text, r.p)
	}
}

func TestTextOfWhatIsNotRight(t *testing.T) {
	plans := [][][]api.Op{nil, {}, make([][]api.Op, 9), make([][]api.Op, 264), {slices.Repeat([]api.Op{{Kind: 3}}, 17)}, {nil, slices.Repeat([]api.Op{{Kind: 3}}, 272)}}
	for _, o := range wrongOps() {
		plans = append(plans, [][]api.Op{{o}}, [][]api.Op{nil, {{Kind: 3}, o, {Kind: 3}}, nil})
	}
	for _, p := range plans {
		if got := words.Text(p); got != "" {
			t.Fatalf("Text(%v) is %q", p, got)
		}
	}
}

func TestTextAndBack(t *testing.T) {
	ops := rightOps()
	for _, w := range ops {
		p := [][]api.Op{{w.op}}
		if got := words.Text(p); got != "go\n"+w.text+"\n" {
			t.Fatalf("Text(%v) is %q", p, got)
		}
		parses(t, "go\n"+w.text+"\n", p)
	}
	d := &draws{1}
	for range 2000 {
		p, text := d.plan(ops)
		if got := words.Text(p); got != text {
			t.Fatalf("Text(%v) is %q; want %q", p, got, text)
		}
		parses(t, text, p)
	}
}

func TestTheGreatestPlan(t *testing.T) {
	longest := api.Op{Kind: 9, Cases: slices.Repeat([]api.Case{{Send: true, Ch: 8, V: 255}}, 6), Else: true}
	p := slices.Repeat([][]api.Op{slices.Repeat([]api.Op{longest}, 16)}, 8)
	line := "select" + strings.Repeat(" | send 8 255", 6) + " | else\n"
	text := strings.Repeat("go\n"+strings.Repeat(line, 16), 8)
	if words.Text(p) != text {
		t.Error("Text isn't that of the chapter")
	}
	parses(t, text, p)
	fails(t, text+"go\n", 137)
	fails(t, text+line, 137)
	fails(t, text+"\n", 137)
	fails(t, text[:len(text)-1], 136)
}

// wrongLines are lines that are no op's, most of them nearly one's.
func wrongLines() []string {
	wrong := []string{
		"", " ", "go ", " go", "Go", "gog", "go go", "go 1", "go\r", "go\x00", "goroutine",
		"make", "make ", "make 5", "make -1", "make 01", "make 00", "make +1", "make 1 ", "make 1 1", "make  1", " make 1", "make1", "make 1\r", "make\t1", "Make 1", "make one", "make 1.", "make 0x1", "make 1_0", "make 0b1", "make \u0661", "make \xff", "mak 1", "ake 1", "make -0",
		"send", "send 1", "send 1 ", "send 1  2", "send 1 2 3", "send 1 2 ", "send 9 1", "send -1 1", "send 1 256", "send 1 -1", "send 01 1", "send 1 01", "send 1 00", "send 1 1000", "send 1 257", "send 1,2", "send  1", "send 1 x", "send x 1", "sends 1 1", "send1 1",
		"recv", "recv 9", "recv 10", "recv 1 1", "recv x", "recv -1", "receive 1", "recv 1 | else", "recv 1 | recv 1", "recv 1 ", "recv 1 0",
		"try", "try ", "try send", "try send 1", "try send 9 1", "try send 1 256", "try  send 1 1", "trysend 1 1", "try recv", "try recv 9", "try recv 1 0", "try close 1", "try make 1", "try len 1", "try cap 1", "try select", "try try send 1 1", "try recv 1 | else", "try else", "try\tsend 1 1",
		"close", "close 9", "close 1 1", "close -1", "closed 1", "close all", "len", "len 9", "len 1 1", "length 1", "cap", "cap 9", "cap 1 1", "capacity 1",
		"select ", "select 1", "select |", "select | ", "select |  ", "select | recv", "select | recv 9", "select | recv 1 2", "select | send 1", "select | send 1 256", "select | send 9 1", "select | send 1 1 1", "select | else |", "select | else | ", "select | else | else", "select | else | recv 1", "select | recv 1 | else | recv 1", "select | recv 1 |", "select | recv 1 | ", "select | | recv 1", "select || recv 1", "select |recv 1", "select| recv 1", "select recv 1", "select | recv 1 recv 1", "select  | recv 1", "select |  recv 1", "select | try recv 1", "select | try send 1 1", "select | make 0", "select | close 1", "select | len 1", "select | cap 1", "select | select", "select | go", "select | recv 1 else", "select else", "select | Else", "select | else ", "select | recv 01", "select | recv -1", "select | select | recv 1", "else", "| else", " | else", "| recv 1", " | recv 1",
		"select" + strings.Repeat(" | recv 1", 7), "select" + strings.Repeat(" | recv 1", 7) + " | else", "select" + strings.Repeat(" | send 8 255", 7), "select" + strings.Repeat(" | send 8 255", 6) + " | else | else", "select" + strings.Repeat(" | send 8 255", 7) + " | else", "select" + strings.Repeat(" | else", 300), "select" + strings.Repeat(" | recv 1", 256),
		"select" + strings.Repeat(" ", 100), strings.Repeat("go", 300), strings.Repeat("1", 100), "nothing", "\x00", "\xff", "\u00a0", "#", "# go", "//",
	}
	for _, x := range append(outermost(), 9) {
		wrong = append(wrong, fmt.Sprintf("make %d", x), fmt.Sprintf("send %d 1", x), fmt.Sprintf("recv %d", x), fmt.Sprintf("try send %d 1", x), fmt.Sprintf("try recv %d", x), fmt.Sprintf("close %d", x), fmt.Sprintf("len %d", x), fmt.Sprintf("cap %d", x), fmt.Sprintf("select | recv %d", x), fmt.Sprintf("select | send %d 1", x))
		if x != 9 {
			wrong = append(wrong, fmt.Sprintf("send 1 %d", x), fmt.Sprintf("try send 1 %d", x), fmt.Sprintf("select | send 1 %d", x))
		}
	}
	for _, x := range []string{"18446744073709551616", "18446744073709551617", "340282366920938463463374607431768211457", "9223372036854775808", strings.Repeat("0", 400) + "1", strings.Repeat("9", 400)} {
		wrong = append(wrong, "make "+x, "recv "+x, "send "+x+" 1", "send 1 "+x, "select | recv "+x, "select | send 1 "+x)
	}
	return wrong
}

func TestParseOfWrongLines(t *testing.T) {
	right := opLine()
	for _, line := range wrongLines() {
		if right.MatchString(line) {
			t.Fatalf("%q is an op's", line)
		}
		fails(t, line+"\n", 1)
		fails(t, "go\n"+line+"\n", 2)
		fails(t, "go\n"+line+"\ngo\nrecv 1\n", 2)
		fails(t, "go\nrecv 1\ngo\n"+line+"\n", 4)
		if line != "" {
			fails(t, "go\nrecv 1\n"+line, 3)
		}
	}
}

func TestParseOfLinesNearRightOnes(t *testing.T) {
	right := opLine()
	// sees holds Parse of one line against the chapter's words.
	sees := func(line string) {
		p, at := words.Parse("go\n" + line + "\n")
		switch {
		case line == "go":
			if at != 0 || len(p) != 2 {
				t.Fatalf("%q: %v, %d", line, p, at)
			}
		case right.MatchString(line):
			if at != 0 || len(p) != 1 || len(p[0]) != 1 || words.Op(p[0][0]) != line {
				t.Fatalf("%q: %v, %d", line, p, at)
			}
		default:
			if at != 2 || len(p) != 0 {
				t.Fatalf("%q: %v, %d", line, p, at)
			}
		}
	}
	lines := []string{"go", "make 3", "send 1 200", "send 2 25", "recv 8", "try send 0 9", "try recv 7", "close 4", "len 0", "cap 5", "select", "select | else", "select | recv 2", "select | send 1 19 | else", "select | send 1 255 | recv 4 | send 0 0", "select | recv 1 | recv 2 | recv 3 | recv 4 | recv 5 | send 6 99", "select | recv 1 | recv 2 | recv 3 | recv 4 | recv 5 | send 6 99 | else"}
	for _, line := range lines {
		for i := range len(line) + 1 {
			for b := range 256 {
				if b == 10 {
					continue
				}
				more := string([]byte{byte(b)})
				sees(line[:i] + more + line[i:])
				if i < len(line) {
					sees(line[:i] + more + line[i+1:])
				}
			}
			for k := i; k <= len(line); k++ {
				sees(line[:i] + line[k:])
				sees(line[:k] + line[i:])
			}
		}
		for _, other := range lines {
			for _, between := range []string{"", " ", " | ", "|", "\r", "\t", "\v"} {
				sees(line + between + other)
			}
		}
	}
}

func TestParseOfRowsOfWords(t *testing.T) {
	right := opLine()
	pieces := []string{"go", "make", "send", "recv", "try", "close", "len", "cap", "select", "|", "else", "0", "8", "200", ""}
	var row func(line string, more int)
	row = func(line string, more int) {
		_, at := words.Parse("go\n" + line + "\n")
		if ok := right.MatchString(line) || line == "go"; ok != (at == 0) || !ok && at != 2 {
			t.Fatalf("%q: %d", line, at)
		}
		if more == 0 {
			return
		}
		for _, piece := range pieces {
			row(line+" "+piece, more-1)
		}
	}
	for _, piece := range pieces {
		row(piece, 4)
	}
}

func TestParseOfNumbers(t *testing.T) {
	for x := range 1200 {
		at := func(right bool) int {
			if right {
				return 0
			}
			return 2
		}
		for form, most := range map[string]int{"make %d": 4, "send %d 1": 8, "send 1 %d": 255, "recv %d": 8, "try send %d 1": 8, "try send 1 %d": 255, "try recv %d": 8, "close %d": 8, "len %d": 8, "cap %d": 8, "select | recv %d": 8, "select | send %d 1": 8, "select | send 1 %d": 255} {
			for _, number := range []string{fmt.Sprint(x), "0" + fmt.Sprint(x), "+" + fmt.Sprint(x), "-" + fmt.Sprint(x), fmt.Sprintf("%#x", x)} {
				line := strings.Replace(form, "%d", number, 1)
				_, got := words.Parse("go\n" + line + "\n")
				if got != at(x <= most && number == fmt.Sprint(x)) {
					t.Fatalf("%q: %d", line, got)
				}
			}
		}
	}
}

func TestParseOfTexts(t *testing.T) {
	rows := map[string]int{
		"":                        1,
		"\n":                      1,
		"\n\n":                    1,
		"\ngo\n":                  1,
		"go":                      1,
		"go\n\n":                  2,
		"go\n\ngo\n":              2,
		"go\ngo":                  2,
		"go\nrecv 1":              2,
		"go\nrecv 1\n\n":          3,
		"recv 1\n":                1,
		"recv 1":                  1,
		"recv 1\ngo\n":            1,
		"go\r\n":                  1,
		"go\nrecv 1\r\n":          2,
		"go\nrecv 9\nrecv 9\n":    2,
		"go\nrecv 9\nrecv 1":      2,
		"go\nrecv 9":              2,
		"go\nrecv 1\nrecv 9\ngo":  3,
		"x":                       1,
		"go\n" + "recv 1\rrecv 2": 2,
		"\xef\xbb\xbfgo\n":        1,
	}
	for s, want := range rows {
		fails(t, s, want)
	}
}

func TestParseEndsAtAByte10(t *testing.T) {
	d := &draws{7}
	ops := rightOps()
	for range 60 {
		_, text := d.plan(ops)
		for i := range len(text) {
			cut := text[:i]
			p, at := words.Parse(cut)
			switch {
			case i == 0:
				fails(t, cut, 1)
			case cut[i-1] == '\n':
				if at != 0 || words.Text(p) != cut {
					t.Fatalf("Parse(%q) is %v, %d", cut, p, at)
				}
			default:
				fails(t, cut, strings.Count(cut, "\n")+1)
			}
		}
	}
}

func TestParseOfTooMany(t *testing.T) {
	for gs := 1; gs <= 20; gs++ {
		for ops := range 40 {
			unit := "go\n" + strings.Repeat("len 3\n", ops)
			text := strings.Repeat(unit, gs)
			switch {
			case ops > 16:
				fails(t, text, 18)
			case gs > 8:
				fails(t, text, 8*(ops+1)+1)
			default:
				parses(t, text, slices.Repeat([][]api.Op{slices.Repeat([]api.Op{{Kind: 7, Ch: 3}}, ops)}, gs))
			}
		}
	}
	for g := range 8 {
		full := "go\n" + strings.Repeat("cap 0\n", 16)
		ahead := strings.Repeat(full, g)
		fails(t, ahead+full+"cap 0\n", 17*g+18)
		fails(t, ahead+full+"cap 0", 17*g+18)
		fails(t, ahead+full+"wrong\n", 17*g+18)
		fails(t, strings.Repeat("go\n", g)+full+"cap 0\n", g+18)
	}
	fails(t, strings.Repeat("go\n", 8)+"go", 9)
	fails(t, strings.Repeat("go\n", 8)+"recv 1\ngo\n", 10)
	fails(t, strings.Repeat("go\n", 264), 9)
	fails(t, "go\n"+strings.Repeat("recv 1\n", 272), 18)
}

func TestParseTellsTheFirstWrongLine(t *testing.T) {
	d := &draws{3}
	ops := rightOps()
	wrong := wrongLines()
	for range 3000 {
		_, text := d.plan(ops)
		lines := strings.SplitAfter(text, "\n")
		first := d.draw(len(lines) - 1)
		for i := range lines[:len(lines)-1] {
			if i == first || i > first && d.draw(3) == 0 {
				lines[i] = wrong[d.draw(len(wrong))] + "\n"
			}
		}
		fails(t, strings.Join(lines, ""), first+1)
	}
}

func TestParseOfLongTexts(t *testing.T) {
	many := 1 << 20
	fails(t, strings.Repeat("go\n", many), 9)
	fails(t, "go\n"+strings.Repeat("recv 1\n", many), 18)
	fails(t, strings.Repeat("\n", many), 1)
	fails(t, strings.Repeat("go", many), 1)
	for _, piece := range []string{" | recv 1", " | else", " | ", " ", "|", "0", "1", " 1", "\x00"} {
		fails(t, "go\nselect"+strings.Repeat(piece, many)+"\n", 2)
		fails(t, "go\nrecv "+strings.Repeat(piece, many)+"\n", 2)
		fails(t, "go\nsend 1 "+strings.Repeat(piece, many), 2)
	}
}

func TestNothingIsChangedOrShared(t *testing.T) {
	cases := []api.Case{{Ch: 1}, {Send: true, Ch: 2, V: 3}, {Ch: 8}}
	p := [][]api.Op{{{Kind: 9, Cases: cases[:2]}, {Kind: 3, Ch: 1}}, nil, {{Kind: 1}}}
	q := plan.Clone(p)
	text := words.Text(p)
	words.Op(p[0][0])
	if !samePlan(p, q) || cases[2] != (api.Case{Ch: 8}) {
		t.Error("what was handed in is changed")
	}
	if words.Text(p) != text {
		t.Error("Text answers something else the second time")
	}
	long := strings.Repeat("go\n"+strings.Repeat("select | recv 1 | recv 2 | recv 3\nsend 1 2\nselect\n", 5), 6)
	a, _ := words.Parse(long)
	b, _ := words.Parse(long)
	want := plan.Clone(a)
	// Each list is written over, spare room included.
	for g := range a {
		for i := range a[g] {
			cases := a[g][i].Cases[:cap(a[g][i].Cases)]
			for k := range cases {
				cases[k] = api.Case{Send: true, Ch: g, V: int64(i)}
			}
			if !slices.Equal(a[g][i].Cases, cases[:len(a[g][i].Cases)]) {
				t.Fatal("cases are not where they are written")
			}
			for h := range a {
				for k := range a[h] {
					if (h > g || h == g && k > i) && !plan.SameOp(a[h][k], want[h][k]) {
						t.Fatal("two ops of one answer share cases")
					}
				}
			}
		}
	}
	a, _ = words.Parse(long)
	for g := range a {
		ops := a[g][:cap(a[g])]
		for i := range ops {
			ops[i] = api.Op{Kind: 1, N: g % 5}
		}
		if !samePlan(a[g+1:], want[g+1:]) {
			t.Fatal("two goroutines of one answer share ops")
		}
		for h := range g {
			if a[h][0].N != h%5 {
				t.Fatal("two goroutines of one answer share ops")
			}
		}
	}
	clear(a[:cap(a)])
	if !samePlan(b, want) {
		t.Error("two answers share memory")
	}
	parses(t, long, want)
}

func TestResultOfDone(t *testing.T) {
	numbers := append(outermost(), 0, 1, 2, 5, 6, 8, 10, 255)
	for _, c := range numbers {
		for _, v := range numbers {
			for _, n := range numbers {
				for _, ok := range []bool{false, true} {
					want := "done "
					if c != -1 {
						want += fmt.Sprintf("case %d ", c)
					}
					want += fmt.Sprintf("%d ", v)
					if ok {
						want += "ok"
					} else {
						want += "closed"
					}
					want += fmt.Sprintf(" %d", n)
					r := api.Result{Code: 1, Case: c, V: int64(v), Ok: ok, N: n}
					if got := words.Result(r); got != want {
						t.Fatalf("Result(%v) is %q; want %q", r, got, want)
					}
				}
			}
		}
	}
}

func TestResultOfOtherCodes(t *testing.T) {
	wants := map[int]string{2: "no", 3: "panic send", 4: "panic close", 5: "panic nil", 6: "none", 7: "full"}
	codes := outermost()
	for code := -20; code <= 300; code++ {
		codes = append(codes, code)
	}
	for _, code := range codes {
		if code == 1 {
			continue
		}
		want, named := wants[code]
		if !named {
			want = fmt.Sprintf("code %d", code)
		}
		// What else a result has is told of done alone.
		for _, r := range []api.Result{{}, {Case: -1}, {Case: 3}, {V: 7, Ok: true}, {Ok: true, N: 9}, {Case: -5, V: math.MinInt64, N: math.MinInt}} {
			r.Code = code
			if got := words.Result(r); got != want {
				t.Fatalf("Result(%v) is %q; want %q", r, got, want)
			}
		}
	}
}
