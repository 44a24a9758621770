package ticket

import (
	"math/rand/v2"
	"slices"
	"strconv"
	"strings"
	"testing"

	"jitney/api"
	"jitney/deci"
)

func parsed(t *testing.T, text string, want ...Line) {
	t.Helper()
	if lines, at, e := Parse(text); !slices.Equal(lines, want) || at != 0 || e != api.OK {
		t.Errorf("%.200q: %+v %d %d", text, lines, at, e)
	}
}

func refused(t *testing.T, text string, line int, want api.Errno) {
	t.Helper()
	if lines, at, e := Parse(text); len(lines) != 0 || at != line || e != want {
		t.Errorf("%.200q: %+v, line %d, %d, not line %d, %d", text, lines, at, e, line, want)
	}
}

// P24.1: texts by hand, those that aren't as they would be printed too.
func TestParse(t *testing.T) {
	parsed(t, "")
	parsed(t, "1 0 0 6 5\n", served(1, 0, 0, 6, 5))
	parsed(t, "0 unserved\n", Line{})
	parsed(t, "0 0 0 0 0\n", Line{Served: true})
	parsed(t, "1 1 4 9 -5\n2 unserved\n10 3 -7 -1099511627776 1099511627776\n", served(1, 1, 4, 9, -5), Line{ID: 2}, served(10, 3, -7, -api.MaxTime, api.MaxTime))
	parsed(t, "1 0 007 -00 0000000000005\n", served(1, 0, 7, 0, 5))
	parsed(t, "1099511627775 unserved\n1099511627776 1099511627776 1 2 3\n", Line{ID: api.MaxTime - 1}, served(api.MaxTime, api.MaxTime, 1, 2, 3))
	parsed(t, "9 unserved\n10 unserved\n11 unserved\n", Line{ID: 9}, Line{ID: 10}, Line{ID: 11})
}

// P24.1: the whole text.
func TestParseOfTheWhole(t *testing.T) {
	refused(t, "1 unserved", 0, api.ErrShort)
	refused(t, "1 unserved\n1 unserved\n2 unserved", 0, api.ErrShort)
	refused(t, "x", 0, api.ErrShort)
	refused(t, "\n\n ", 0, api.ErrShort)
	refused(t, strings.Repeat("x", api.MaxText+1), 0, api.ErrLong)
	refused(t, strings.Repeat("\n", api.MaxText+1), 0, api.ErrLong)
	refused(t, strings.Repeat("\n", api.MaxText), 1, api.ErrForm)
	refused(t, strings.Repeat("1 ", api.MaxText/2-1)+"1\n", 1, api.ErrForm)
	var text strings.Builder
	var want []Line
	for id := 0; text.Len() < api.MaxText-40; id++ {
		text.WriteString(strconv.Itoa(id) + " unserved\n")
		want = append(want, Line{ID: id})
	}
	parsed(t, text.String(), want...)
	refused(t, text.String()+"7 unserved\n", len(want)+1, api.ErrTwice)
}

// P24.1: a line that isn't as said, behind one that is.
func TestParseOfWrongLines(t *testing.T) {
	for _, line := range []string{
		"", " ", "2", "unserved", "2 unserved 0", "2 0 0 0", "2 0 0 0 0 0", "2 0 0", "2 0 0 0 0 unserved", "2 unserved unserved", "2 0 0 0 unserved", "2 unserved 0 0 0", "unserved 2", "unserved 0 0 0 0",
		"2  unserved", " 2 unserved", "2 unserved ", "2\tunserved", "2 unserved\r", "2 unserved\x00", "2 uns\xffrved", "2 ünserved", "2 0 0 0  0", "2 0 0 0 0 ", " 2 0 0 0 0", "2 0 0 0 0\x7f",
		"2 Unserved", "2 served", "2 unserve", "2 unservedd", "2 2", "2 here", "two unserved", "-2 unserved", "02 unserved", "+2 unserved", "2. unserved", "2.0 unserved", "-0 unserved", "00 unserved", "10000000000000 unserved", "0x2 unserved", "2_0 unserved",
		"-2 0 0 0 0", "02 0 0 0 0", "x 0 0 0 0", "2.5 0 0 0 0", "2 -1 0 0 0", "2 01 0 0 0", "2 -0 0 0 0", "2 x 0 0 0", "2 1. 0 0 0", "2 0 x 0 0", "2 0 +1 0 0", "2 0 1.0 0 0", "2 0 1. 0 0", "2 0 --1 0 0", "2 0 - 0 0", "2 0 0 x 0", "2 0 0 1.5 0", "2 0 0 .5 0", "2 0 0 0 x", "2 0 0 0 1e3", "2 0 0 0 5-", "2 0 0 0 10000000000000", "2 0 0 0 -00000000000000", "2 0 00000000000000 0 0",
	} {
		refused(t, "1 unserved\n"+line+"\n", 2, api.ErrForm)
		refused(t, line+"\n1 unserved\n", 1, api.ErrForm)
		refused(t, "1 unserved\n"+line+"\nx\n1 unserved\n", 2, api.ErrForm)
	}
}

// P24.1: numbers beyond what is read, just beyond it and far.
func TestParseOfGreatNumbers(t *testing.T) {
	for _, n := range []string{"1099511627777", "9999999999999"} {
		for place := range 5 {
			words := []string{"2", "0", "0", "0", "0"}
			words[place] = n
			refused(t, "1 unserved\n"+strings.Join(words, " ")+"\n", 2, api.ErrRange)
			words[place] = "-" + n
			want := api.ErrRange
			if place < 2 {
				want = api.ErrForm // there is no minus
			}
			refused(t, "1 unserved\n"+strings.Join(words, " ")+"\n", 2, want)
		}
		refused(t, n+" unserved\n", 1, api.ErrRange)
		refused(t, "1 unserved\n"+n+" unserved\n", 2, api.ErrRange)
	}
}

// P24.1: word by word, but of a line how many words there are first, and of two whether the second one is unserved.
func TestParseTellsTheFirst(t *testing.T) {
	const great, wrong = "1099511627777", "x"
	for place := range 5 {
		for behind := place + 1; behind < 5; behind++ {
			for _, c := range []struct {
				first, second string
				want          api.Errno
			}{{great, wrong, api.ErrRange}, {wrong, great, api.ErrForm}} {
				words := []string{"2", "0", "0", "0", "0"}
				words[place], words[behind] = c.first, c.second
				refused(t, "1 unserved\n"+strings.Join(words, " ")+"\n", 2, c.want)
			}
		}
	}
	refused(t, great+" x\n", 1, api.ErrForm)
	refused(t, great+" "+great+"\n", 1, api.ErrForm)
	refused(t, great+"\n", 1, api.ErrForm)
	refused(t, great+" 0 0 0\n", 1, api.ErrForm)
	refused(t, great+" 0 0 0 0 0\n", 1, api.ErrForm)
	refused(t, great+" unserved \n", 1, api.ErrForm)
	refused(t, "x unserved\n"+great+" unserved\n", 1, api.ErrForm)
	refused(t, great+" unserved\nx unserved\n", 1, api.ErrRange)
}

// P24.1: IDs that don't rise, behind all that may be wrong with a line's words.
func TestParseOfIDs(t *testing.T) {
	for _, id := range []string{"7", "6", "0"} {
		for _, rest := range []string{" unserved\n", " 0 0 0 0\n"} {
			refused(t, "7 unserved\n"+id+rest, 2, api.ErrTwice)
			refused(t, "7 1 2 3 4\n"+id+rest, 2, api.ErrTwice)
			refused(t, "1 unserved\n7 1 2 3 4\n"+id+rest, 3, api.ErrTwice)
			refused(t, "1 unserved\n7 1 2 3 4\n"+id+rest+id+rest, 3, api.ErrTwice)
			refused(t, "7 unserved\n"+id+rest+"8 unserved\n", 2, api.ErrTwice)
		}
		refused(t, "7 unserved\n"+id+" 0 0 0 x\n", 2, api.ErrForm)
		refused(t, "7 unserved\n"+id+" 0 0 0 1099511627777\n", 2, api.ErrRange)
		refused(t, "7 unserved\n"+id+" x\n", 2, api.ErrForm)
		refused(t, "7 unserved\n"+id+"\n", 2, api.ErrForm)
	}
	refused(t, "2 unserved\n10 unserved\n9 unserved\n", 3, api.ErrTwice)
	refused(t, "7 unserved\n7 unserved\n"+"x\n", 2, api.ErrTwice)
}

// wanted is what Parse must answer, said by this test's own words.
func wanted(text string) ([]Line, int, api.Errno) {
	rows, e := deci.Lines(text)
	if e != api.OK {
		return nil, 0, e
	}
	var lines []Line
	last := -1
	for i, row := range rows {
		words, e := deci.Words(row)
		if e != api.OK || len(words) != 2 && len(words) != 5 || len(words) == 2 && words[1] != "unserved" {
			return nil, i + 1, api.ErrForm
		}
		var ns []int64
		for j, word := range words {
			if word == "unserved" && j == 1 && len(words) == 2 {
				continue
			}
			n, e := deci.Read(word, 0)
			if j < 2 {
				var whole int
				whole, e = deci.Whole(word)
				n = int64(whole)
			}
			if e != api.OK {
				return nil, i + 1, e
			}
			ns = append(ns, n)
		}
		if int(ns[0]) <= last {
			return nil, i + 1, api.ErrTwice
		}
		last = int(ns[0])
		if len(ns) == 1 {
			lines = append(lines, Line{ID: last})
		} else {
			lines = append(lines, served(last, int(ns[1]), ns[2], ns[3], ns[4]))
		}
	}
	return lines, 0, api.OK
}

// drawnLines is lines that have a text that can be read.
func drawnLines(draws *rand.Rand) []Line {
	var lines []Line
	id := 0
	for range draws.IntN(6) {
		l := Line{ID: id + draws.IntN(3)}
		if draws.IntN(3) > 0 {
			far := int64(api.MaxTime) >> (4 * draws.IntN(11))
			time := func() int64 { return draws.Int64N(2*far+1) - far }
			l = served(l.ID, draws.IntN(64), time(), time(), time())
		}
		id = l.ID + 1
		lines = append(lines, l)
	}
	return lines
}

// P24.1, P24.2: lines that rise are printed and parsed as they are.
func TestLinesAreParsedAsTheyArePrinted(t *testing.T) {
	draws := rand.New(rand.NewPCG(1, 2))
	for range 20000 {
		lines := drawnLines(draws)
		parsed(t, Print(lines), lines...)
	}
}

// P24.1: texts that are turned at random.
func TestParseOfTurnedTexts(t *testing.T) {
	draws := rand.New(rand.NewPCG(3, 4))
	pieces := []string{" ", "\n", "-", "0", "1", "7", "x", "unserved", "1099511627776", "1099511627777", "1 unserved\n", "9 0 0 0 0\n", ".", "\xff", "u"}
	met := map[api.Errno]int{}
	for range 60000 {
		text := Print(drawnLines(draws))
		for range draws.IntN(3) {
			at := draws.IntN(len(text) + 1)
			cut := min(len(text), at+draws.IntN(3))
			text = text[:at] + pieces[draws.IntN(len(pieces))] + text[cut:]
		}
		want, line, wrong := wanted(text)
		lines, at, e := Parse(text)
		if !slices.Equal(lines, want) || at != line || e != wrong {
			t.Fatalf("%q: %+v %d %d, not %+v %d %d", text, lines, at, e, want, line, wrong)
		}
		met[e]++
	}
	for _, e := range []api.Errno{api.OK, api.ErrShort, api.ErrForm, api.ErrRange, api.ErrTwice} {
		if met[e] < 100 {
			t.Errorf("hardly asked: %v", met)
		}
	}
}
