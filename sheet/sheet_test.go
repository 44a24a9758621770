package sheet

import (
	"math"
	"math/cmplx"
	"math/rand/v2"
	"slices"
	"strconv"
	"strings"
	"testing"

	"jitney/api"
	"jitney/deci"
	"jitney/inst"
	"jitney/spot"
)

func of(seats, wheels int) api.Load {
	return api.Load{Seats: seats, Wheels: wheels}
}

const spotsText = `jitney 2 2 2 spots
car 4 1 50.05
car 0 1000 10995116277.76
stop 0 0 0 0 0 0 9
stop -3 4 1 0 0.5 1 2
stop 16777216 -16777216 1000 1 0.01 0.1 0.1
stop 7 8 -1 0 1 0 9.99
stop 1 -1 -1000 -1 0 3 9
stop 0 2 0 0 0 1 9
ride 5
ride 0
`

func ofSpotsText() api.Instance {
	return api.Instance{
		Cars: []api.Car{{Cap: of(4, 1), Max: 5005}, {Cap: of(0, 1000), Max: api.MaxTime}},
		Stops: []api.Stop{
			{Late: 900},
			{Spot: -3 + 4i, Load: of(1, 0), Service: 50, Early: 100, Late: 200},
			{Spot: api.MaxCoord - 1i*api.MaxCoord, Load: of(1000, 1), Service: 1, Early: 10, Late: 10},
			{Spot: 7 + 8i, Load: of(-1, 0), Service: 100, Late: 999},
			{Spot: 1 - 1i, Load: of(-1000, -1), Early: 300, Late: 900},
			{Spot: 2i, Early: 100, Late: 900},
		},
		Rides: []int64{500, 0},
	}
}

const timesText = `jitney 1 1 1 times
car 1 2 3
stop 0 0 0 0 8.5
stop 1 2 0.7 1 2
stop -1 -2 0.3 3 4
stop 0 0 0 5 5
ride 6.1
row 0 1 2 3
row 4 5.5 6 7
row 8 9 10 11.1
row 12 13 14 109951162777.6
`

func ofTimesText() api.Instance {
	return api.Instance{
		Cars: []api.Car{{Cap: of(1, 2), Max: 30}},
		Stops: []api.Stop{
			{Late: 85},
			{Load: of(1, 2), Service: 7, Early: 10, Late: 20},
			{Load: of(-1, -2), Service: 3, Early: 30, Late: 40},
			{Early: 50, Late: 50},
		},
		Rides:  []int64{61},
		Matrix: [][]int64{{0, 10, 20, 30}, {40, 55, 60, 70}, {80, 90, 100, 111}, {120, 130, 140, api.MaxTime}},
	}
}

// least is the text of no requests.
const least = "jitney 0 1 0 spots\ncar 1 0 9\nstop 0 0 0 0 0 0 9\nstop 0 0 0 0 0 0 9\n"

func ofLeast() api.Instance {
	return api.Instance{Cars: []api.Car{{Cap: of(1, 0), Max: 9}}, Stops: []api.Stop{{Late: 9}, {Late: 9}}}
}

func parsed(t *testing.T, text string, want api.Instance, scale int) {
	t.Helper()
	got, s, line, e := Parse(text)
	if !inst.Same(got, want) || s != scale || line != 0 || e != api.OK {
		t.Errorf("%.200q: %+v %d %d %d", text, got, s, line, e)
	}
}

func refused(t *testing.T, text string, line int, e api.Errno) {
	t.Helper()
	x, scale, at, err := Parse(text)
	if at != line || err != e {
		t.Errorf("%.300q: line %d, %d, not line %d, %d", text, at, err, line, e)
	}
	if !inst.Same(x, api.Instance{}) || scale != 0 {
		t.Errorf("%.300q: beside an error %+v %d", text, x, scale)
	}
}

func TestParse(t *testing.T) {
	parsed(t, spotsText, ofSpotsText(), 2)
	parsed(t, timesText, ofTimesText(), 1)
	parsed(t, least, ofLeast(), 0)
	x := ofLeast()
	x.Matrix = [][]int64{{1, 2}, {3, 4}}
	parsed(t, "jitney 0 1 0 times\ncar 1 0 9\nstop 0 0 0 0 9\nstop 0 0 0 0 9\nrow 1 2\nrow 3 4\n", x, 0)
	// A decimal may be longer than it must.
	parsed(t, "jitney 6 1 0 spots\ncar 0000000000001 -0 0.000009\nstop -0 000 0 0 0.0 -0.000 0.000009\nstop 0 0 0 0 0 0 00.000009\n", ofLeast(), 6)
}

// edit is a text with one of its lines, or nothing, turned.
func edit(text string, line int, turn func(words []string) []string) string {
	lines := strings.Split(strings.TrimSuffix(text, "\n"), "\n")
	lines[line-1] = strings.Join(turn(strings.Split(lines[line-1], " ")), " ")
	return strings.Join(lines, "\n") + "\n"
}

func replaced(text string, line, word int, by string) string {
	return edit(text, line, func(words []string) []string {
		words[word] = by
		return words
	})
}

// kinds is what the words of a line must be: n its name or its form, s SCALE, w Whole, c a coordinate, l a load's part, d a decimal.
func kinds(line []string, placed bool) string {
	switch line[0] {
	case "jitney":
		return "nswwn"
	case "car":
		return "nlld"
	case "stop":
		if placed {
			return "nccllddd"
		}
		return "nllddd"
	}
	return "n" + strings.Repeat("d", len(line)-1)
}

// refusal is why a word isn't what it must be.
func refusal(kind rune, word string, scale int) api.Errno {
	n, e := deci.Read(word, 0)
	switch kind {
	case 's', 'w':
		whole, e := deci.Whole(word)
		if e == api.OK && kind == 's' && whole > 6 {
			return api.ErrRange
		}
		return e
	case 'c', 'l':
		most := map[rune]int64{'c': 1 << 24, 'l': 1000}[kind]
		if e == api.OK && (n < -most || n > most) {
			return api.ErrRange
		}
		return e
	case 'd':
		_, e := deci.Read(word, scale)
		return e
	}
	return api.ErrForm
}

func TestParseOfEachWord(t *testing.T) {
	words := []string{
		"x", "-", ".", "1.", "+1", "1e1", "0x1", "1,5", "~", "00000000000000", "12345678901234", "1.0000000", "--1", "\x7f", "é", "1\t", "\xff",
		"spot", "spots2", "SPOTS", "jitneys", "Car", "stops", "rows", "-1", "-0", "01", "00", "1.5", "-1.5", "1.25", "1.125", "1.0", "7", "8",
		"1001", "-1001", "16777217", "-16777217", "1099511627777", "-1099511627777", "9999999999999", "109951162777.7", "10995116277.77",
	}
	for _, c := range []struct {
		text   string
		scale  int
		placed bool
	}{{spotsText, 2, true}, {timesText, 1, false}, {least, 0, true}} {
		for i, line := range strings.Split(strings.TrimSuffix(c.text, "\n"), "\n") {
			for k, kind := range kinds(strings.Split(line, " "), c.placed) {
				for _, word := range words {
					text := replaced(c.text, i+1, k, word)
					if e := refusal(kind, word, c.scale); e != api.OK {
						refused(t, text, i+1, e)
					} else if _, _, at, e := Parse(text); at == i+1 && (e == api.ErrForm || e == api.ErrRange) {
						t.Errorf("%q: line %d, %d", text, at, e)
					}
				}
				refused(t, replaced(c.text, i+1, k, ""), i+1, api.ErrForm)
			}
		}
	}
}

func TestParseOfAnotherNumberOfWords(t *testing.T) {
	for _, text := range []string{spotsText, timesText, least} {
		lines := strings.Split(strings.TrimSuffix(text, "\n"), "\n")
		for i := range lines {
			at := i + 1
			refused(t, edit(text, at, func(words []string) []string { return words[:len(words)-1] }), at, api.ErrForm)
			refused(t, edit(text, at, func(words []string) []string { return words[1:] }), at, api.ErrForm)
			refused(t, edit(text, at, func(words []string) []string { return words[:1] }), at, api.ErrForm)
			refused(t, edit(text, at, func(words []string) []string { return nil }), at, api.ErrForm)
			refused(t, edit(text, at, func(words []string) []string { return append(words, "0") }), at, api.ErrForm)
			refused(t, edit(text, at, func(words []string) []string { return append(words, "") }), at, api.ErrForm)
			refused(t, edit(text, at, func(words []string) []string { return append([]string{""}, words...) }), at, api.ErrForm)
			refused(t, edit(text, at, func(words []string) []string { return slices.Insert(words, 1, "") }), at, api.ErrForm)
			refused(t, edit(text, at, func(words []string) []string { words[0] += "\t"; return words }), at, api.ErrForm)
			refused(t, edit(text, at, func(words []string) []string { words[len(words)-1] += "\r"; return words }), at, api.ErrForm)
			// The form of a line comes ahead of what its numbers are.
			if at > 1 {
				refused(t, edit(text, at, func(words []string) []string { return append(words[:1], "9999999999999") }), at, shortLine(lines[i]))
			}
		}
	}
	refused(t, strings.Replace(spotsText, "spots", "times", 1), 4, api.ErrForm)
	refused(t, strings.Replace(timesText, "times", "spots", 1), 3, api.ErrForm)
}

// shortLine is the error of a line that is its name and a great number.
func shortLine(line string) api.Errno {
	if strings.HasPrefix(line, "ride") {
		return api.ErrRange
	}
	return api.ErrForm
}

func TestParseTellsTheFirstWordOfALine(t *testing.T) {
	for _, c := range []struct {
		line  int
		words string
		e     api.Errno
	}{
		{1, "jitney 7 x 2 spots", api.ErrRange}, {1, "jitney x 9999999999999 2 spots", api.ErrForm}, {1, "jitney 2 9999999999999 x here", api.ErrRange},
		{1, "jitney 2 x 9999999999999 spots", api.ErrForm}, {1, "jitney 7 2 2 here", api.ErrRange}, {1, "jitney 2 2 9999999999999 here", api.ErrRange},
		{1, "jitney 2 0 2 here", api.ErrForm}, {1, "jitney 2 0 x spots", api.ErrForm}, {1, "jitney 2 65 9999999999999 spots", api.ErrRange},
		{2, "car 1001 x 5", api.ErrRange}, {2, "car x 1001 5", api.ErrForm}, {2, "car 1 -1001 x", api.ErrRange}, {2, "car 1 x 9999999999999", api.ErrForm},
		{4, "stop 16777217 x 0 0 0 0 0", api.ErrRange}, {4, "stop x 16777217 0 0 0 0 0", api.ErrForm}, {4, "stop 0 16777217 x 0 0 0 0", api.ErrRange},
		{4, "stop 0 x 1001 0 0 0 0", api.ErrForm}, {4, "stop 0 0 0 1001 x 0 0", api.ErrRange}, {4, "stop 0 0 0 x 9999999999999 0 0", api.ErrForm},
		{4, "stop 0 0 0 0 9999999999999 x 0", api.ErrRange}, {4, "stop 0 0 0 0 x 9999999999999 0", api.ErrForm}, {4, "stop 0 0 0 0 0 9999999999999 x", api.ErrRange},
		{4, "stop 0 0 0 0 0 x 9999999999999", api.ErrForm},
	} {
		refused(t, edit(spotsText, c.line, func([]string) []string { return []string{c.words} }), c.line, c.e)
	}
	refused(t, replaced(replaced(timesText, 9, 2, "9999999999999"), 9, 3, "x"), 9, api.ErrRange)
	refused(t, replaced(replaced(timesText, 9, 2, "x"), 9, 3, "9999999999999"), 9, api.ErrForm)
}

func TestParseTellsTheFirstLine(t *testing.T) {
	for _, text := range []string{spotsText, timesText} {
		lines := strings.Count(text, "\n")
		for a := 2; a <= lines; a++ {
			for b := a + 1; b <= lines; b++ {
				both := replaced(replaced(text, a, 1, "9999999999999"), b, 1, "x")
				refused(t, both, a, api.ErrRange)
				refused(t, replaced(replaced(text, a, 1, "x"), b, 1, "9999999999999"), a, api.ErrForm)
			}
			// Ahead of what is missing, of what is too much, and of an instance that isn't right.
			wrong := replaced(text, a, 1, "x")
			refused(t, wrong+"more\n", a, api.ErrForm)
			refused(t, strings.Join(strings.SplitAfter(wrong, "\n")[:a], ""), a, api.ErrForm)
			refused(t, strings.Replace(wrong, "\nstop 0 0 0", "\nstop 0 0 1", 1), a, api.ErrForm)
		}
	}
	refused(t, replaced(replaced(spotsText, 1, 2, "0"), 2, 1, "x"), 1, api.ErrArg)
	refused(t, replaced(replaced(spotsText, 1, 2, "65"), 2, 1, "x"), 1, api.ErrMany)
}

func TestParseOfTheHead(t *testing.T) {
	for _, c := range []struct {
		head string
		line int
		e    api.Errno
	}{
		{"jitney 0 0 0 spots", 1, api.ErrArg}, {"jitney 6 0 2048 times", 1, api.ErrArg}, {"jitney 0 0 1099511627776 times", 1, api.ErrArg},
		{"jitney 0 1099511627776 0 spots", 1, api.ErrMany}, {"jitney 0 65 0 spots", 1, api.ErrMany}, {"jitney 0 1 2048 spots", 1, api.ErrMany},
		{"jitney 0 1 1099511627776 times", 1, api.ErrMany}, {"jitney 0 65 2048 times", 1, api.ErrMany},
		{"jitney 0 64 0 spots", 2, api.ErrShort}, {"jitney 6 1 2047 times", 2, api.ErrShort}, {"jitney 7 1 0 spots", 1, api.ErrRange},
		{"jitney 1099511627776 1 0 spots", 1, api.ErrRange}, {"jitney 1099511627777 1 0 spots", 1, api.ErrRange}, {"jitney -1 1 0 spots", 1, api.ErrForm},
		{"jitney 0 -1 0 spots", 1, api.ErrForm}, {"jitney 0 1 -0 spots", 1, api.ErrForm}, {"jitney 0 01 0 spots", 1, api.ErrForm}, {"jitney 0 1 0 ", 1, api.ErrForm},
		{"jitney 0 1 0", 1, api.ErrForm}, {"", 1, api.ErrForm}, {"jitney", 1, api.ErrForm}, {"Jitney 0 1 0 spots", 1, api.ErrForm}, {"jitney 0 1.0 0 spots", 1, api.ErrForm},
	} {
		refused(t, c.head+"\n", c.line, c.e)
	}
	for scale := range 7 {
		parsed(t, replaced(timesZero, 1, 1, strconv.Itoa(scale)), ofTimesZero(), scale)
	}
}

// timesZero has no number but 0, and so is the same of all scales.
const timesZero = "jitney 0 1 0 times\ncar 0 0 0\nstop 0 0 0 0 0\nstop 0 0 0 0 0\nrow 0 0\nrow 0 0\n"

func ofTimesZero() api.Instance {
	return api.Instance{Cars: make([]api.Car, 1), Stops: make([]api.Stop, 2), Matrix: [][]int64{{0, 0}, {0, 0}}}
}

func TestParseOfTheWholeText(t *testing.T) {
	refused(t, "", 0, api.ErrShort)
	refused(t, "\n", 1, api.ErrForm)
	long := strings.Repeat("jitney 0 1 0 spots\n", 1+api.MaxText/19)
	refused(t, long, 0, api.ErrLong)
	refused(t, long[:api.MaxText+1], 0, api.ErrLong)
	refused(t, long[:api.MaxText-api.MaxText%19], 2, api.ErrForm)
	refused(t, strings.Repeat("\n", api.MaxText), 1, api.ErrForm)
	for _, text := range []string{spotsText, timesText, least} {
		lines := strings.SplitAfter(text, "\n")
		lines = lines[:len(lines)-1]
		for k := 1; k < len(lines); k++ {
			refused(t, strings.Join(lines[:k], ""), k+1, api.ErrShort)
		}
		for k := range len(text) {
			if k > 0 && text[k-1] != '\n' {
				refused(t, text[:k], 0, api.ErrShort)
			}
		}
		for _, more := range []string{"\n", "ride 1\n", "row 0 0\n", "x\n", " \n\n", text, "\xff\n"} {
			refused(t, text+more, len(lines)+1, api.ErrMore)
		}
		refused(t, text+"ride 1", 0, api.ErrShort)
		wrong := strings.Replace(text, "\nstop 0 0 0", "\nstop 0 0 1", 1)
		if _, _, line, e := Parse(wrong); line != 0 || e == api.OK {
			t.Errorf("%q: line %d, %d", wrong, line, e)
		}
		refused(t, wrong+"x\n", len(lines)+1, api.ErrMore)
	}
}

func TestParseOfInstancesThatArentRight(t *testing.T) {
	for _, c := range []struct {
		text, old, now string
		e              api.Errno
	}{
		{spotsText, "car 4", "car -4", api.ErrRange}, {spotsText, "50.05", "-50.05", api.ErrRange}, {spotsText, "ride 5", "ride -5", api.ErrRange},
		{spotsText, "0.5 1 2", "-0.5 1 2", api.ErrRange}, {spotsText, "0.5 1 2", "0.5 -1 2", api.ErrRange}, {spotsText, "0.5 1 2", "0.5 1 -2", api.ErrRange},
		{spotsText, "0.5 1 2", "0.5 2.01 2", api.ErrRange}, {spotsText, "0 0 0 0 0 0 9", "0 0 1 0 0 0 9", api.ErrLoad}, {spotsText, "0 0 0 0 0 0 9", "0 0 0 0 1 0 9", api.ErrLoad},
		{spotsText, "4 1 0 0.5", "4 -1 0 0.5", api.ErrLoad}, {spotsText, "8 -1 0", "8 -1 1", api.ErrLoad}, {spotsText, "8 -1 0", "8 1 0", api.ErrLoad},
		{spotsText, "0 2 0 0 0 1 9", "0 2 0 -1 0 1 9", api.ErrLoad}, {timesText, "row 4 5.5", "row 4 -5.5", api.ErrRange}, {timesText, "stop -1 -2", "stop 0 -2", api.ErrLoad},
	} {
		refused(t, strings.Replace(c.text, c.old, c.now, 1), 0, c.e)
	}
}

func TestPrint(t *testing.T) {
	for _, c := range []struct {
		x     api.Instance
		scale int
		want  string
	}{{ofSpotsText(), 2, spotsText}, {ofTimesText(), 1, timesText}, {ofLeast(), 0, least}, {ofTimesZero(), 0, timesZero}, {ofTimesZero(), 6, strings.Replace(timesZero, "jitney 0", "jitney 6", 1)}} {
		if got, e := Print(c.x, c.scale); got != c.want || e != api.OK {
			t.Errorf("%s, %d", got, e)
		}
	}
	x := ofLeast()
	x.Stops[0].Spot = complex(math.Copysign(0, -1), math.Copysign(0, -1))
	x.Matrix = [][]int64{}
	if got, e := Print(x, 0); got != least || e != api.OK {
		t.Errorf("-0: %s, %d", got, e)
	}
	x = ofTimesText()
	x.Stops[0].Spot, x.Stops[1].Spot = cmplx.NaN(), 5
	if got, e := Print(x, 1); got != timesText || e != api.OK {
		t.Errorf("with a Matrix no spot is asked: %s, %d", got, e)
	}
}

func TestPrintRefuses(t *testing.T) {
	for _, c := range []struct {
		turn func(x *api.Instance)
		e    api.Errno
	}{
		{func(x *api.Instance) { x.Cars = nil }, api.ErrArg}, {func(x *api.Instance) { x.Cars = make([]api.Car, 65) }, api.ErrMany},
		{func(x *api.Instance) { x.Rides[0] = -1 }, api.ErrRange}, {func(x *api.Instance) { x.Stops[0].Service = 1 }, api.ErrLoad},
		{func(x *api.Instance) { x.Stops[5].Spot = 0.5 }, api.ErrRange}, {func(x *api.Instance) { x.Matrix = [][]int64{nil} }, api.ErrArg},
	} {
		// An instance that isn't right is told ahead of a scale that is none.
		for _, scale := range []int{math.MinInt, -1, 0, 6, 7, math.MaxInt} {
			x := ofSpotsText()
			c.turn(&x)
			if text, e := Print(x, scale); text != "" || e != c.e {
				t.Errorf("%q %d, not %d", text, e, c.e)
			}
		}
	}
	for _, scale := range []int{math.MinInt, -1, 7, math.MaxInt} {
		for _, x := range []api.Instance{ofSpotsText(), ofTimesText()} {
			if text, e := Print(x, scale); text != "" || e != api.ErrArg {
				t.Errorf("scale %d: %q %d", scale, text, e)
			}
		}
	}
}

// drawn is a right instance that is drawn.
func drawn(draws *rand.Rand, timed bool) api.Instance {
	time := func() int64 {
		return draws.Int64N(api.MaxTime+1) >> draws.IntN(41)
	}
	part := func() int { return draws.IntN(api.MaxSeats+1) >> draws.IntN(11) }
	requests := draws.IntN(5)
	var x api.Instance
	for range 1 + draws.IntN(4) {
		x.Cars = append(x.Cars, api.Car{Cap: of(part(), part()), Max: time()})
	}
	for i := range 2*requests + 2 {
		early, late := time(), time()
		stop := api.Stop{Early: min(early, late), Late: max(early, late)}
		if !timed {
			stop.Spot, _ = spot.At(draws.IntN(2*api.MaxCoord+1)-api.MaxCoord, draws.IntN(2*api.MaxCoord+1)-api.MaxCoord)
		}
		if i > 0 && i <= 2*requests {
			stop.Service, stop.Load = time(), of(part(), part())
		}
		if i > requests && i <= 2*requests {
			on := x.Stops[i-requests].Load
			stop.Load = of(-on.Seats, -on.Wheels)
		}
		x.Stops = append(x.Stops, stop)
	}
	for range requests {
		x.Rides = append(x.Rides, time())
	}
	for range x.Stops {
		if timed {
			row := make([]int64, len(x.Stops))
			for i := range row {
				row[i] = time()
			}
			x.Matrix = append(x.Matrix, row)
		}
	}
	return x
}

func TestWhatIsPrintedIsParsedAsIt(t *testing.T) {
	draws := rand.New(rand.NewPCG(11, 12))
	for i := range 3000 {
		x, scale := drawn(draws, i%2 == 0), draws.IntN(7)
		text, e := Print(x, scale)
		if e != api.OK {
			t.Fatalf("%+v: %d", x, e)
		}
		parsed(t, text, x, scale)
	}
	x := ofTimesText()
	x.Stops[2].Spot = 7
	text, _ := Print(x, 1)
	parsed(t, text, ofTimesText(), 1)
}

func TestTheMostIsPrintedAndParsed(t *testing.T) {
	x := api.Instance{Cars: make([]api.Car, api.MaxCars), Stops: make([]api.Stop, api.MaxStops), Rides: make([]int64, api.MaxStops/2-1)}
	text, e := Print(x, 3)
	if e != api.OK {
		t.Fatal(e)
	}
	parsed(t, text, x, 3)
	// The chapter has no bound for what is printed, but one for what is parsed.
	for range x.Stops {
		x.Matrix = append(x.Matrix, make([]int64, api.MaxStops))
	}
	text, e = Print(x, 3)
	if e != api.OK || len(text) < 2*api.MaxStops*api.MaxStops {
		t.Errorf("%d bytes, %d", len(text), e)
	}
	refused(t, text, 0, api.ErrLong)
}

// wanted is the line and the error of a text, by what the chapter says of its lines.
func wanted(text string) (int, api.Errno) {
	lines, e := deci.Lines(text)
	if e != api.OK {
		return 0, e
	}
	if len(lines) == 0 {
		return 0, api.ErrShort
	}
	if e := lineError(lines[0], "jitney", "nswwn", 0, true); e != api.OK {
		return 1, e
	}
	head := strings.Split(lines[0], " ")
	scale, _ := strconv.Atoi(head[1])
	m, _ := strconv.Atoi(head[2])
	n, _ := strconv.Atoi(head[3])
	switch {
	case m == 0:
		return 1, api.ErrArg
	case m > 64 || 2*n+2 > 4096:
		return 1, api.ErrMany
	}
	names := slices.Repeat([]string{"car"}, m)
	names = append(names, slices.Repeat([]string{"stop"}, 2*n+2)...)
	names = append(names, slices.Repeat([]string{"ride"}, n)...)
	forms := map[string]string{"car": "nlld", "stop": "nccllddd", "ride": "nd", "row": "n" + strings.Repeat("d", 2*n+2)}
	if head[4] == "times" {
		names = append(names, slices.Repeat([]string{"row"}, 2*n+2)...)
		forms["stop"] = "nllddd"
	}
	for i, name := range names {
		if i+1 >= len(lines) {
			return i + 2, api.ErrShort
		}
		if e := lineError(lines[i+1], name, forms[name], scale, false); e != api.OK {
			return i + 2, e
		}
	}
	if len(lines) > len(names)+1 {
		return len(names) + 2, api.ErrMore
	}
	return 0, api.OK
}

func lineError(line, name, form string, scale int, head bool) api.Errno {
	words := strings.Split(line, " ")
	if words[0] != name || len(words) != len(form) || strings.ContainsFunc(line, func(r rune) bool { return r < 32 || r > 126 }) || slices.Contains(words, "") {
		return api.ErrForm
	}
	for k, kind := range form {
		if k == 0 || head && k == 4 && (words[k] == "spots" || words[k] == "times") {
			continue
		}
		if e := refusal(kind, words[k], scale); e != api.OK {
			return e
		}
	}
	return api.OK
}

// turned is a text of which something was turned.
func turned(draws *rand.Rand, text string) string {
	const bytes = "0123456789.- \njsrctx\t\x00\xff"
	at := draws.IntN(len(text))
	one := string(bytes[draws.IntN(len(bytes))])
	switch draws.IntN(5) {
	case 0:
		return text[:at] + one + text[at:]
	case 1:
		return text[:at] + text[at+1:]
	case 2:
		return text[:at] + one + text[at+1:]
	case 3:
		end := at + draws.IntN(len(text)-at+1)
		return text[:at] + text[end:]
	}
	lines := strings.SplitAfter(text, "\n")
	a, b := draws.IntN(len(lines)), draws.IntN(len(lines))
	lines[a], lines[b] = lines[b], lines[a]
	return strings.Join(lines, "")
}

func TestParseOfTurnedTexts(t *testing.T) {
	draws := rand.New(rand.NewPCG(13, 14))
	fine := 0
	for range 60000 {
		text := []string{spotsText, timesText, least}[draws.IntN(3)]
		for range 1 + draws.IntN(3) {
			if text != "" {
				text = turned(draws, text)
			}
		}
		line, e := wanted(text)
		if e != api.OK {
			refused(t, text, line, e)
			continue
		}
		x, scale, line, e := Parse(text)
		if e != api.OK {
			if line != 0 || scale != 0 || !inst.Same(x, api.Instance{}) || e != api.ErrRange && e != api.ErrLoad {
				t.Errorf("%q: %+v %d %d %d", text, x, scale, line, e)
			}
			continue
		}
		fine++
		if inst.Check(x) != api.OK || line != 0 {
			t.Errorf("%q: %+v", text, x)
		}
		again, e := Print(x, scale)
		if e != api.OK {
			t.Errorf("%q: %d", text, e)
		}
		parsed(t, again, x, scale)
	}
	if fine < 1000 {
		t.Errorf("hardly any is fine: %d", fine)
	}
}

func TestParseOfAnyBytes(t *testing.T) {
	draws := rand.New(rand.NewPCG(15, 16))
	for range 20000 {
		text := make([]byte, draws.IntN(40))
		for i := range text {
			text[i] = byte(draws.IntN(256) >> draws.IntN(6))
		}
		line, e := wanted(string(text))
		refused(t, string(text), line, e)
	}
}

func TestListsOfAnAnswerShareNoMemory(t *testing.T) {
	x, _, _, _ := Parse(timesText)
	for i := range x.Matrix {
		for k := range cap(x.Matrix[i]) {
			x.Matrix[i][:cap(x.Matrix[i])][k] = int64(-1 - i)
		}
	}
	for i, row := range x.Matrix {
		for _, time := range row {
			if time != int64(-1-i) {
				t.Errorf("row %d: %v", i, row)
			}
		}
	}
	if !slices.Equal(x.Rides, []int64{61}) {
		t.Error("the rides")
	}
	parsed(t, timesText, ofTimesText(), 1)
}

func TestPrintChangesNothing(t *testing.T) {
	for _, base := range []func() api.Instance{ofSpotsText, ofTimesText} {
		x := base()
		Print(x, 3)
		Print(x, 9)
		if !inst.Same(x, base()) {
			t.Errorf("%+v", x)
		}
	}
}
