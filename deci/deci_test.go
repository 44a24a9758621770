package deci

import (
	"math"
	"math/big"
	"math/rand/v2"
	"regexp"
	"slices"
	"strconv"
	"strings"
	"testing"
	"unsafe"

	"jitney/api"
)

// forms is what a decimal looks like, scale by scale.
var forms = []*regexp.Regexp{
	regexp.MustCompile(`^-?[0-9]{1,13}$`),
	regexp.MustCompile(`^-?[0-9]{1,13}(\.[0-9])?$`),
	regexp.MustCompile(`^-?[0-9]{1,13}(\.[0-9]{1,2})?$`),
	regexp.MustCompile(`^-?[0-9]{1,13}(\.[0-9]{1,3})?$`),
	regexp.MustCompile(`^-?[0-9]{1,13}(\.[0-9]{1,4})?$`),
	regexp.MustCompile(`^-?[0-9]{1,13}(\.[0-9]{1,5})?$`),
	regexp.MustCompile(`^-?[0-9]{1,13}(\.[0-9]{1,6})?$`),
}

func tens(scale int) *big.Rat {
	return new(big.Rat).SetInt(new(big.Int).Exp(big.NewInt(10), big.NewInt(int64(scale)), nil))
}

// wanted is what Read must answer, worked out with fractions of any size.
func wanted(text string, scale int) (int64, api.Errno) {
	if scale < 0 || scale > 6 {
		return 0, api.ErrArg
	}
	if !forms[scale].MatchString(text) {
		return 0, api.ErrForm
	}
	exact, _ := new(big.Rat).SetString(text)
	exact.Mul(exact, tens(scale))
	if new(big.Rat).Abs(exact).Cmp(new(big.Rat).SetInt64(api.MaxTime)) > 0 {
		return 0, api.ErrRange
	}
	return exact.Num().Int64(), api.OK
}

func checkRead(t *testing.T, text string, scale int) {
	t.Helper()
	want, err := wanted(text, scale)
	if got, e := Read(text, scale); got != want || e != err {
		t.Errorf("Read(%q, %d): %d %d, not %d %d", text, scale, got, e, want, err)
	}
}

// shortTexts is all texts of at most so many of some bytes.
func shortTexts(alphabet string, most int) []string {
	list := []string{""}
	for start := 0; most > 0; most-- {
		end := len(list)
		for _, text := range list[start:end] {
			for _, b := range []byte(alphabet) {
				list = append(list, text+string(rune(b)))
			}
		}
		start = end
	}
	return list
}

func TestRead(t *testing.T) {
	for _, c := range []struct {
		text  string
		scale int
		want  int64
		err   api.Errno
	}{
		{"-1.5", 2, -150, api.OK}, {"1.5", 1, 15, api.OK}, {"1.50", 2, 150, api.OK}, {"7", 3, 7000, api.OK}, {"0.000001", 6, 1, api.OK},
		{"0", 0, 0, api.OK}, {"-0", 0, 0, api.OK}, {"-0.0", 1, 0, api.OK}, {"0000000000012", 0, 12, api.OK}, {"-007.10", 2, -710, api.OK},
		{"1099511627776", 0, 1 << 40, api.OK}, {"-1099511627776", 0, -1 << 40, api.OK},
		{"1099511627777", 0, 0, api.ErrRange}, {"-1099511627777", 0, 0, api.ErrRange},
		{"1099511.627776", 6, 1 << 40, api.OK}, {"1099511.627777", 6, 0, api.ErrRange}, {"-1099511.627777", 6, 0, api.ErrRange},
		{"9999999999999", 0, 0, api.ErrRange}, {"9999999999999.999999", 6, 0, api.ErrRange}, {"-9999999999999.999999", 6, 0, api.ErrRange},
		{"00000000000000", 0, 0, api.ErrForm}, {"12345678901234", 6, 0, api.ErrForm}, {"-12345678901234", 6, 0, api.ErrForm},
		{"1.5", 0, 0, api.ErrForm}, {"1.", 0, 0, api.ErrForm}, {"1.25", 1, 0, api.ErrForm}, {"1.0000000", 6, 0, api.ErrForm},
		{"", 3, 0, api.ErrForm}, {"-", 3, 0, api.ErrForm}, {".", 3, 0, api.ErrForm}, {"-.5", 3, 0, api.ErrForm}, {"1.-5", 3, 0, api.ErrForm},
		{"--1", 3, 0, api.ErrForm}, {"+1", 3, 0, api.ErrForm}, {"1-", 3, 0, api.ErrForm}, {"1.2.3", 6, 0, api.ErrForm}, {"1,5", 3, 0, api.ErrForm},
		{" 1", 3, 0, api.ErrForm}, {"1 ", 3, 0, api.ErrForm}, {"1\n", 3, 0, api.ErrForm}, {"1\x00", 3, 0, api.ErrForm},
		{"1e3", 3, 0, api.ErrForm}, {"0x1", 3, 0, api.ErrForm}, {"1_0", 3, 0, api.ErrForm}, {"٣", 3, 0, api.ErrForm}, {"\xff", 3, 0, api.ErrForm},
	} {
		if got, e := Read(c.text, c.scale); got != c.want || e != c.err {
			t.Errorf("Read(%q, %d): %d %d, not %d %d", c.text, c.scale, got, e, c.want, c.err)
		}
	}
}

func TestReadNamesTheFirstError(t *testing.T) {
	for _, scale := range []int{-1, 7, -6, 100, math.MinInt, math.MaxInt} {
		for _, text := range []string{"1", "x", "9999999999999", ""} {
			if got, e := Read(text, scale); got != 0 || e != api.ErrArg {
				t.Errorf("Read(%q, %d): %d %d", text, scale, got, e)
			}
		}
	}
	for _, text := range []string{"9999999999999x", "9999999999999.", "99999999999999", "9999999999999.9", "-9999999999999-"} {
		if got, e := Read(text, 0); got != 0 || e != api.ErrForm {
			t.Errorf("Read(%q, 0): %d %d", text, got, e)
		}
	}
}

func TestReadOfShortTexts(t *testing.T) {
	for _, text := range shortTexts("-.019 x", 5) {
		for scale := -1; scale <= 7; scale++ {
			checkRead(t, text, scale)
		}
	}
}

func TestReadOfLongTexts(t *testing.T) {
	draws := rand.New(rand.NewPCG(5, 6))
	drawn := func(count int) string {
		text := make([]byte, count)
		for i := range text {
			text[i] = byte('0' + draws.IntN(10))
		}
		return string(text)
	}
	for scale := range 7 {
		for whole := range 16 {
			for part := range 9 {
				// Noughts at the start keep some of the long ones within the bounds.
				for _, noughts := range []int{0, whole / 2, whole} {
					start := strings.Repeat("0", noughts) + drawn(whole-noughts)
					checkRead(t, start, scale)
					checkRead(t, start+"."+drawn(part), scale)
					checkRead(t, "-"+start+"."+drawn(part), scale)
				}
			}
		}
	}
}

func TestReadOfEachByte(t *testing.T) {
	for b := range 256 {
		one := string([]byte{byte(b)})
		for _, text := range []string{one, one + "1", "1" + one, "1" + one + "1", "1.1" + one} {
			for _, scale := range []int{0, 1, 2, 6} {
				checkRead(t, text, scale)
			}
		}
	}
}

func TestReadRoundItsBounds(t *testing.T) {
	for scale := range 7 {
		unit := int64(math.Pow10(scale))
		for n := int64(api.MaxTime - 3); n <= api.MaxTime+3; n++ {
			part := ""
			if scale > 0 {
				digits := strconv.FormatInt(n%unit, 10)
				part = "." + strings.Repeat("0", scale-len(digits)) + digits
			}
			text := strconv.FormatInt(n/unit, 10) + part
			want, err := n, api.OK
			if n > api.MaxTime {
				want, err = 0, api.ErrRange
			}
			if got, e := Read(text, scale); got != want || e != err {
				t.Errorf("Read(%q, %d): %d %d", text, scale, got, e)
			}
			if got, e := Read("-"+text, scale); got != -want || e != err {
				t.Errorf("Read(%q, %d): %d %d", "-"+text, scale, got, e)
			}
		}
	}
}

func TestReadOfAHugeText(t *testing.T) {
	for _, text := range []string{strings.Repeat("0", 1<<22), "1." + strings.Repeat("0", 1<<22), strings.Repeat("-", 1<<22), strings.Repeat(".", 1<<22)} {
		if got, e := Read(text, 6); got != 0 || e != api.ErrForm {
			t.Errorf("%d bytes: %d %d", len(text), got, e)
		}
		if got, e := Whole(text); got != 0 || e != api.ErrForm {
			t.Errorf("%d bytes, Whole: %d %d", len(text), got, e)
		}
	}
}

func TestWrite(t *testing.T) {
	for _, c := range []struct {
		n     int64
		scale int
		want  string
	}{
		{-150, 2, "-1.5"}, {150, 2, "1.5"}, {1500, 2, "15"}, {1505, 2, "15.05"}, {100, 0, "100"}, {-7, 0, "-7"},
		{0, 0, "0"}, {0, 1, "0"}, {0, 6, "0"}, {5, 1, "0.5"}, {-5, 1, "-0.5"}, {5, 6, "0.000005"}, {-50, 6, "-0.00005"}, {-100000, 6, "-0.1"},
		{999999, 6, "0.999999"}, {1000000, 6, "1"}, {1000001, 6, "1.000001"}, {-1000000, 6, "-1"}, {10000000, 6, "10"},
		{120, -1, "120"}, {120, math.MinInt, "120"}, {120, 7, "0.00012"}, {120, math.MaxInt, "0.00012"},
		{1 << 40, 6, "1099511.627776"}, {-1 << 40, 0, "-1099511627776"},
		{math.MaxInt64, 0, "9223372036854775807"}, {math.MaxInt64, 6, "9223372036854.775807"},
		{math.MinInt64, 0, "-9223372036854775808"}, {math.MinInt64, 6, "-9223372036854.775808"}, {math.MinInt64, 1, "-922337203685477580.8"},
	} {
		if got := Write(c.n, c.scale); got != c.want {
			t.Errorf("Write(%d, %d): %s, not %s", c.n, c.scale, got, c.want)
		}
	}
}

// numbers is those round each power of ten and of two, and some from between.
func numbers() []int64 {
	var list []int64
	around := func(middle int64) {
		for d := int64(-2); d <= 2; d++ {
			list = append(list, middle+d, -middle+d)
		}
	}
	for power := int64(1); power <= 1e17; power *= 10 {
		around(power)
		around(power * 9)
	}
	for bits := range 63 {
		around(1 << bits)
	}
	draws := rand.New(rand.NewPCG(7, 8))
	for range 2000 {
		list = append(list, draws.Int64N(2*api.MaxTime+1)-api.MaxTime, int64(draws.Uint64()))
	}
	return append(list, math.MaxInt64, math.MinInt64, math.MinInt64+1)
}

func TestWriteIsExactAndShort(t *testing.T) {
	tight := regexp.MustCompile(`^-?(0|[1-9][0-9]*)(\.[0-9]*[1-9])?$`)
	for _, n := range numbers() {
		for scale := -2; scale <= 9; scale++ {
			text := Write(n, scale)
			exact, ok := new(big.Rat).SetString(text)
			if !ok || !tight.MatchString(text) || n == 0 && text != "0" {
				t.Fatalf("Write(%d, %d): %q", n, scale, text)
			}
			if exact.Mul(exact, tens(min(max(scale, 0), 6))).Cmp(new(big.Rat).SetInt64(n)) != 0 {
				t.Errorf("Write(%d, %d): %s", n, scale, text)
			}
		}
	}
}

func TestWhatIsWrittenIsReadAsIt(t *testing.T) {
	for _, n := range numbers() {
		for scale := range 7 {
			text := Write(n, scale)
			got, e := Read(text, scale)
			if n >= -api.MaxTime && n <= api.MaxTime {
				if got != n || e != api.OK {
					t.Errorf("%d of scale %d is written %s, and read %d %d", n, scale, text, got, e)
				}
				continue
			}
			want := api.ErrRange
			// Far beyond the bounds there are more digits than a decimal has.
			if !forms[scale].MatchString(text) {
				want = api.ErrForm
			}
			if got != 0 || e != want {
				t.Errorf("%d of scale %d is written %s, and read %d %d", n, scale, text, got, e)
			}
		}
	}
}

func TestWhole(t *testing.T) {
	for _, c := range []struct {
		text string
		want int
		err  api.Errno
	}{
		{"0", 0, api.OK}, {"7", 7, api.OK}, {"70", 70, api.OK}, {"100", 100, api.OK}, {"1099511627776", 1 << 40, api.OK},
		{"1099511627777", 0, api.ErrRange}, {"9999999999999", 0, api.ErrRange},
		{"", 0, api.ErrForm}, {"-", 0, api.ErrForm}, {"-0", 0, api.ErrForm}, {"-1", 0, api.ErrForm}, {"-1099511627777", 0, api.ErrForm},
		{"00", 0, api.ErrForm}, {"07", 0, api.ErrForm}, {"0999999999999", 0, api.ErrForm}, {"000", 0, api.ErrForm}, {"0x", 0, api.ErrForm},
		{"1.0", 0, api.ErrForm}, {"0.0", 0, api.ErrForm}, {"1.", 0, api.ErrForm}, {"+1", 0, api.ErrForm}, {" 1", 0, api.ErrForm}, {"1 ", 0, api.ErrForm},
		{"10000000000000", 0, api.ErrForm}, {"99999999999999", 0, api.ErrForm}, {"one", 0, api.ErrForm}, {"1a", 0, api.ErrForm},
	} {
		if got, e := Whole(c.text); got != c.want || e != c.err {
			t.Errorf("Whole(%q): %d %d, not %d %d", c.text, got, e, c.want, c.err)
		}
	}
}

func TestWholeOfShortTexts(t *testing.T) {
	whole := regexp.MustCompile(`^(0|[1-9][0-9]*)$`)
	for _, text := range shortTexts("-.019 x", 5) {
		want, err := 0, api.ErrForm
		if whole.MatchString(text) {
			want, _ = strconv.Atoi(text)
			err = api.OK
		}
		if got, e := Whole(text); got != want || e != err {
			t.Errorf("Whole(%q): %d %d, not %d %d", text, got, e, want, err)
		}
	}
}

func TestWords(t *testing.T) {
	for _, c := range []struct {
		line string
		want []string
	}{
		{"", nil}, {"a", []string{"a"}}, {"a b", []string{"a", "b"}}, {"stop -1 0.5 ~!", []string{"stop", "-1", "0.5", "~!"}},
		{"! !! !", []string{"!", "!!", "!"}}, {strings.Repeat("w ", 5000) + "w", slices.Repeat([]string{"w"}, 5001)},
	} {
		if got, e := Words(c.line); !slices.Equal(got, c.want) || e != api.OK {
			t.Errorf("Words(%q): %q %d", c.line, got, e)
		}
	}
	for _, line := range []string{" ", "  ", " a", "a ", "a  b", "a b ", " a b", "a\tb", "a\n", "\n", "a\rb", "a \x7f", "a\x00", "é", "a é b", "a\u00a0b", "\xff", "a b\x80"} {
		if got, e := Words(line); len(got) != 0 || e != api.ErrForm {
			t.Errorf("Words(%q): %q %d", line, got, e)
		}
	}
}

func TestWordsOfEachByte(t *testing.T) {
	for b := range 256 {
		one := string([]byte{byte(b)})
		for _, line := range []string{one, "a" + one, one + "a", "a " + one, one + " a", "a" + one + "a", "a " + one + " a"} {
			inside := b >= 33 && b <= 126
			blank := b == 32 && line == "a a"
			got, e := Words(line)
			if fine := inside || blank; fine != (e == api.OK) || !fine && (len(got) != 0 || e != api.ErrForm) {
				t.Errorf("Words(%q): %q %d", line, got, e)
			}
			if e == api.OK && strings.Join(got, " ") != line {
				t.Errorf("Words(%q): %q", line, got)
			}
		}
	}
}

func TestWordsOfShortLines(t *testing.T) {
	good := regexp.MustCompile(`^([!~]+( [!~]+)*)?$`)
	for _, line := range shortTexts(" !~\t\x7f", 5) {
		got, e := Words(line)
		if !good.MatchString(line) {
			if len(got) != 0 || e != api.ErrForm {
				t.Errorf("Words(%q): %q %d", line, got, e)
			}
			continue
		}
		if e != api.OK || strings.Join(got, " ") != line || len(got) != len(strings.Fields(line)) {
			t.Errorf("Words(%q): %q %d", line, got, e)
		}
	}
}

func TestLines(t *testing.T) {
	full := strings.Repeat("x", api.MaxText-1) + "\n"
	for _, c := range []struct {
		text string
		want []string
		err  api.Errno
	}{
		{"", nil, api.OK}, {"\n", []string{""}, api.OK}, {"\n\n", []string{"", ""}, api.OK}, {"a\n", []string{"a"}, api.OK},
		{"a b\n\n c\n", []string{"a b", "", " c"}, api.OK}, {"a\r\nb\t\x00\xff\n", []string{"a\r", "b\t\x00\xff"}, api.OK},
		{"a", nil, api.ErrShort}, {"a\nb", nil, api.ErrShort}, {"\n ", nil, api.ErrShort}, {"a\n\r", nil, api.ErrShort},
		{full, []string{full[:len(full)-1]}, api.OK}, {strings.Repeat("\n", api.MaxText), slices.Repeat([]string{""}, api.MaxText), api.OK},
		{full[1:] + "x", nil, api.ErrShort},
		{full + "\n", nil, api.ErrLong}, {full + "x", nil, api.ErrLong}, {strings.Repeat("\n", api.MaxText+1), nil, api.ErrLong},
	} {
		if got, e := Lines(c.text); !slices.Equal(got, c.want) || e != c.err {
			t.Errorf("%d bytes, %.20q: %d lines, %d", len(c.text), c.text, len(got), e)
		}
	}
}

func TestLinesOfShortTexts(t *testing.T) {
	for _, text := range shortTexts("a \n\r", 6) {
		got, e := Lines(text)
		if text != "" && !strings.HasSuffix(text, "\n") {
			if len(got) != 0 || e != api.ErrShort {
				t.Errorf("Lines(%q): %q %d", text, got, e)
			}
			continue
		}
		back := ""
		for _, line := range got {
			back += line + "\n"
		}
		if back != text || e != api.OK || len(got) != strings.Count(text, "\n") {
			t.Errorf("Lines(%q): %q %d", text, got, e)
		}
	}
}

func TestAnswersShareNoMemory(t *testing.T) {
	memory := []byte("one two\nthree\n")
	text := unsafe.String(&memory[0], len(memory))
	words, _ := Words(text[:7])
	lines, _ := Lines(text)
	for i := range memory {
		memory[i] = '#'
	}
	if !slices.Equal(words, []string{"one", "two"}) || !slices.Equal(lines, []string{"one two", "three"}) {
		t.Errorf("what was handed in was written over: %q %q", words, lines)
	}
	line := "a b"
	first, _ := Words(line)
	first[0], first[1] = "x", "y"
	if second, _ := Words(line); !slices.Equal(second, []string{"a", "b"}) {
		t.Errorf("an answer was written over: %q", second)
	}
}
