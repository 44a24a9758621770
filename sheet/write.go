package sheet

import (
	"strings"

	"jitney/api"
	"jitney/deci"
	"jitney/inst"
	"jitney/spot"
)

// page is a text that grows; its times have a scale.
type page struct {
	strings.Builder
	scale int
}

// write is the text of an instance that is right.
func write(x api.Instance, scale int) string {
	p := page{scale: scale}
	placed := len(x.Matrix) == 0
	p.head(x, placed)
	for _, car := range x.Cars {
		p.WriteString("car")
		p.load(car.Cap)
		p.times(car.Max)
		p.end()
	}
	for _, stop := range x.Stops {
		p.WriteString("stop")
		if placed {
			p.spot(stop.Spot)
		}
		p.load(stop.Load)
		p.times(stop.Service, stop.Early, stop.Late)
		p.end()
	}
	for _, ride := range x.Rides {
		p.WriteString("ride")
		p.times(ride)
		p.end()
	}
	for _, row := range x.Matrix {
		p.WriteString("row")
		p.times(row...)
		p.end()
	}
	return p.String()
}

func (p *page) head(x api.Instance, placed bool) {
	kind := ofTimes
	if placed {
		kind = ofSpots
	}
	p.WriteString("jitney")
	p.wholes(p.scale, len(x.Cars), inst.Count(x))
	p.word(kind)
	p.end()
}

func (p *page) word(word string) {
	p.WriteByte(' ')
	p.WriteString(word)
}

func (p *page) wholes(ns ...int) {
	for _, n := range ns {
		p.word(deci.Write(int64(n), 0))
	}
}

func (p *page) load(l api.Load) {
	p.wholes(l.Seats, l.Wheels)
}

func (p *page) spot(c complex128) {
	x, y := spot.XY(c)
	p.wholes(x, y)
}

func (p *page) times(ts ...int64) {
	for _, t := range ts {
		p.word(deci.Write(t, p.scale))
	}
}

func (p *page) end() {
	p.WriteByte('\n')
}
