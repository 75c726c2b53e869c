package code

import (
	"crossbuck/api"
	"crossbuck/table"
)

const (
	maxPhase = api.Phases - 1
	maxSet   = 1<<api.Phases - 1
	maxRow   = 8
)

// port is where the numbers of a table pass, one after another. A number is from 0 to most, in size bytes. The order of the numbers is worded once for both directions, so that what is read is what was written.
type port interface {
	number(size, most int, n *int)
	float(x *float64, may func(float64) bool)
	flag(x *bool)
}

// pass is items 2 to 10 of P7.1.
func pass(p port, t *api.Table) {
	for i := range t.Phases {
		passPhase(p, &t.Phases[i])
	}
	list(p, api.MaxGroups, &t.Groups, passGroup)
	for i := range t.Conflict {
		sets(p, &t.Conflict[i])
	}
	list(p, api.MaxDetectors, &t.Detectors, passDetector)
	list(p, api.MaxRails, &t.Rails, passRail)
	list(p, api.MaxBuses, &t.Buses, passBus)
	times(p, &t.Extend, &t.Budget, &t.Start, &t.Revert, &t.Least)
	for i := range t.Flash {
		p.number(1, api.FlashYellow, &t.Flash[i])
	}
	ticks(p, &t.Window, &t.Share)
}

func passPhase(p port, x *api.Phase) {
	p.flag(&x.On)
	times(p, &x.Min, &x.Gap, &x.Max, &x.Top, &x.Step, &x.Yellow, &x.Red, &x.Walk, &x.Blinks)
	p.number(1, api.FootRecall, &x.Recall)
	p.flag(&x.Lock)
	p.flag(&x.Rest)
}

func passGroup(p port, rows *[2][]int) {
	for i := range rows {
		list(p, maxRow, &rows[i], passPlace)
	}
}

func passPlace(p port, n *int) { p.number(1, maxPhase, n) }

func passDetector(p port, d *api.Detector) {
	passPlace(p, &d.Phase)
	p.float(&d.On, mayLevel)
	p.float(&d.Off, mayLevel)
	p.float(&d.Delay, maySeconds)
	p.float(&d.Extend, maySeconds)
	times(p, &d.MaxOn, &d.MaxOff)
}

func passRail(p port, r *api.Rail) {
	sets(p, &r.Bars, &r.Clear, &r.Dwell, &r.Exit)
	times(p, &r.Delay, &r.Green, &r.Foot, &r.Hold, &r.Stay, &r.Most)
	ticks(p, &r.Limit)
}

func passBus(p port, b *api.Bus) {
	sets(p, &b.Set)
	times(p, &b.Lock)
}

func sets(p port, l ...*int)  { numbers(p, 1, maxSet, l) }
func times(p port, l ...*int) { numbers(p, 2, api.MaxTime, l) }
func ticks(p port, l ...*int) { numbers(p, 4, api.MaxTick, l) }

func numbers(p port, size, most int, l []*int) {
	for _, n := range l {
		p.number(size, most, n)
	}
}

// list passes the number of elements and then each of them. The list that is written has that number already; the one that is read comes to have it.
func list[T any](p port, most int, l *[]T, each func(port, *T)) {
	n := len(*l)
	p.number(1, most, &n)
	if n != len(*l) {
		*l = make([]T, n)
	}
	for i := range *l {
		each(p, &(*l)[i])
	}
}

// mayLevel and maySeconds ask May about a table that has nothing else to be refused, so that the ranges of floats stand in one place only.
func mayLevel(x float64) bool { return mayDetector(api.Detector{On: x, Off: 1}) }

func maySeconds(x float64) bool { return mayDetector(api.Detector{On: 1, Off: 1, Delay: x}) }

func mayDetector(d api.Detector) bool {
	return table.May(api.Table{Detectors: []api.Detector{d}})
}
