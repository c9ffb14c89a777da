package granary_test

import (
	"math"
	"math/rand/v2"
	"slices"
	"strings"
	"testing"

	"granary/api"
	"granary/granary"
)

// stepsOfSave: create, append, sync, rename, sync the names.
const stepsOfSave = 5

func newDisk(t *testing.T, room int) *granary.Store {
	t.Helper()
	s, e := granary.Disk(room)
	if s == nil || e != api.OK {
		t.Fatalf("P7: Disk(%d) = %v, %d, want a disk, OK", room, s, e)
	}
	return s
}

func wantSave(t *testing.T, s *granary.Store, d *granary.Dataset, want api.Errno) {
	t.Helper()
	if e := s.Save(d); e != want {
		t.Errorf("P7: Save() = %d, want %d", e, want)
	}
}

func wantFail(t *testing.T, s *granary.Store, steps, keep int, want api.Errno) {
	t.Helper()
	if e := s.Fail(steps, keep); e != want {
		t.Errorf("P8: Fail(%d, %d) = %d, want %d", steps, keep, e, want)
	}
}

func wantStart(t *testing.T, s *granary.Store, want api.Errno) {
	t.Helper()
	if e := s.Start(); e != want {
		t.Errorf("P8: Start() = %d, want %d", e, want)
	}
}

func wantLoad(t *testing.T, s *granary.Store, want *granary.Dataset) {
	t.Helper()
	d, e := s.Load()
	if d == nil || e != api.OK {
		t.Errorf("P8: Load() = %v, %d, want a dataset, OK", d, e)
		return
	}
	if d.Bytes() != want.Bytes() {
		t.Errorf("P8: Load() told %q, want %q", d.Bytes(), want.Bytes())
	}
}

func wantNoLoad(t *testing.T, s *granary.Store, want api.Errno) {
	t.Helper()
	if d, e := s.Load(); d != nil || e != want {
		t.Errorf("P8: Load() = %v, %d, want nil, %d", d, e, want)
	}
}

// wantDown asks of all calls on a disk, but Start, that they are refused.
func wantDown(t *testing.T, s *granary.Store, d *granary.Dataset) {
	t.Helper()
	wantSave(t, s, d, api.ErrDown)
	wantNoLoad(t, s, api.ErrDown)
	for _, steps := range []int{0, 1, 5, math.MaxInt} {
		wantFail(t, s, steps, 0, api.ErrDown)
		wantFail(t, s, steps, steps, api.ErrDown)
		wantFail(t, s, steps, -1, api.ErrArg)
	}
	wantFail(t, s, -1, 0, api.ErrArg)
}

// datasets makes three whose bytes are not equally many.
func datasets(t *testing.T) (short, middle, long *granary.Dataset) {
	t.Helper()
	short = read(t, plain(2, numbers(0)), "")
	middle = read(t, richConfig(), rich)
	long = read(t, richConfig(), strings.Repeat(rich, 20))
	if a, b, c := len(short.Bytes()), len(middle.Bytes()), len(long.Bytes()); a >= b || b >= c {
		t.Fatalf("the datasets have %d, %d and %d bytes", a, b, c)
	}
	return short, middle, long
}

func TestDisk(t *testing.T) {
	for _, room := range []int{math.MinInt, -10000, -1, 10001, 20000, math.MaxInt} {
		if s, e := granary.Disk(room); s != nil || e != api.ErrArg {
			t.Errorf("P7: Disk(%d) = %v, %d, want nil, ErrArg", room, s, e)
		}
	}
	for _, room := range []int{0, 1, 5000, 9999, 10000} {
		s := newDisk(t, room)
		wantStart(t, s, api.ErrArg)
		wantNoLoad(t, s, api.ErrNone)
	}
}

func TestSaveAndLoad(t *testing.T) {
	short, middle, long := datasets(t)
	s := newDisk(t, api.MaxRoom)
	for _, d := range []*granary.Dataset{middle, short, long, long, middle} {
		wantSave(t, s, d, api.OK)
		wantLoad(t, s, d)
		wantLoad(t, s, d)
		wantStart(t, s, api.ErrArg)
	}
	loaded, e := s.Load()
	if loaded == nil || e != api.OK {
		t.Fatalf("P8: Load() = %v, %d", loaded, e)
	}
	sameDataset(t, loaded, middle, 3)
	wantSave(t, s, long, api.OK)
	wantSave(t, s, loaded, api.OK)
	wantLoad(t, s, middle)
}

func TestRoom(t *testing.T) {
	short, middle, long := datasets(t)
	for _, d := range []*granary.Dataset{short, middle, long} {
		n := len(d.Bytes())
		s := newDisk(t, n)
		wantSave(t, s, d, api.OK)
		wantSave(t, s, d, api.ErrRoom)
		wantLoad(t, s, d)
		for _, room := range []int{0, 1, n - 1} {
			s = newDisk(t, room)
			wantSave(t, s, d, api.ErrRoom)
			wantNoLoad(t, s, api.ErrNone)
			wantStart(t, s, api.ErrArg)
		}
	}
}

// TestRoomBesideAnOldFile has as much room as both need, or one byte less.
func TestRoomBesideAnOldFile(t *testing.T) {
	short, middle, long := datasets(t)
	for _, old := range []*granary.Dataset{short, middle, long} {
		for _, d := range []*granary.Dataset{short, middle, long} {
			room := len(old.Bytes()) + len(d.Bytes())
			s := newDisk(t, room)
			wantSave(t, s, old, api.OK)
			wantSave(t, s, d, api.OK)
			wantLoad(t, s, d)
			s = newDisk(t, room-1)
			wantSave(t, s, old, api.OK)
			wantSave(t, s, d, api.ErrRoom)
			wantLoad(t, s, old)
			wantSave(t, s, d, api.ErrRoom)
			wantFail(t, s, 0, 0, api.OK)
			wantStart(t, s, api.OK)
			wantLoad(t, s, old)
		}
	}
}

// TestNoRoomLeavesRoom: `new` stays empty, so that a shorter one fits.
func TestNoRoomLeavesRoom(t *testing.T) {
	short, middle, long := datasets(t)
	s := newDisk(t, len(middle.Bytes())+len(short.Bytes()))
	wantSave(t, s, middle, api.OK)
	wantSave(t, s, long, api.ErrRoom)
	wantLoad(t, s, middle)
	wantSave(t, s, short, api.OK)
	wantLoad(t, s, short)
	wantSave(t, s, middle, api.OK)
	wantLoad(t, s, middle)
}

// TestPowerLeavesRoom: a file without a name that is synced takes no room.
func TestPowerLeavesRoom(t *testing.T) {
	_, middle, long := datasets(t)
	for steps := 1; steps < stepsOfSave; steps++ {
		s := newDisk(t, len(middle.Bytes())+len(long.Bytes()))
		wantSave(t, s, middle, api.OK)
		wantFail(t, s, steps, math.MaxInt, api.OK)
		wantSave(t, s, long, api.ErrPower)
		wantStart(t, s, api.OK)
		wantLoad(t, s, middle)
		wantSave(t, s, long, api.OK)
		wantLoad(t, s, long)
	}
}

func TestPowerFailsAtEachStep(t *testing.T) {
	short, middle, long := datasets(t)
	for _, keep := range []int{0, 1, 10, math.MaxInt} {
		for steps := 1; steps < stepsOfSave; steps++ {
			s := newDisk(t, api.MaxRoom)
			wantFail(t, s, steps, keep, api.OK)
			wantNoLoad(t, s, api.ErrNone)
			wantStart(t, s, api.ErrArg)
			wantSave(t, s, middle, api.ErrPower)
			wantDown(t, s, short)
			wantStart(t, s, api.OK)
			wantNoLoad(t, s, api.ErrNone)
			wantSave(t, s, middle, api.OK)
			wantFail(t, s, steps, keep, api.OK)
			wantLoad(t, s, middle)
			wantSave(t, s, long, api.ErrPower)
			wantDown(t, s, short)
			wantStart(t, s, api.OK)
			wantStart(t, s, api.ErrArg)
			wantLoad(t, s, middle)
			wantSave(t, s, long, api.OK)
			wantLoad(t, s, long)
		}
	}
}

func TestPowerFailsAtOnce(t *testing.T) {
	short, middle, _ := datasets(t)
	for _, keep := range []int{0, 1, math.MaxInt} {
		s := newDisk(t, api.MaxRoom)
		wantFail(t, s, 0, keep, api.OK)
		wantDown(t, s, short)
		wantStart(t, s, api.OK)
		wantNoLoad(t, s, api.ErrNone)
		wantSave(t, s, middle, api.OK)
		wantFail(t, s, 0, keep, api.OK)
		wantDown(t, s, short)
		wantStart(t, s, api.OK)
		wantStart(t, s, api.ErrArg)
		wantLoad(t, s, middle)
		wantSave(t, s, short, api.OK)
		wantLoad(t, s, short)
	}
}

// TestStepsGoOn: what is left of the steps is left for the next Save; other
// calls take none.
func TestStepsGoOn(t *testing.T) {
	short, middle, long := datasets(t)
	for steps := stepsOfSave; steps < 4*stepsOfSave; steps++ {
		s := newDisk(t, api.MaxRoom)
		wantFail(t, s, steps, 0, api.OK)
		for left := steps; left >= stepsOfSave; left -= stepsOfSave {
			wantSave(t, s, middle, api.OK)
			wantLoad(t, s, middle)
			wantStart(t, s, api.ErrArg)
			wantFail(t, s, -1, 0, api.ErrArg)
		}
		wantSave(t, s, long, api.ErrPower)
		wantDown(t, s, long)
		wantStart(t, s, api.OK)
		wantLoad(t, s, middle)
		for range 5 {
			wantSave(t, s, short, api.OK)
		}
	}
	s := newDisk(t, api.MaxRoom)
	wantFail(t, s, math.MaxInt, 0, api.OK)
	for range 100 {
		wantSave(t, s, short, api.OK)
	}
}

// TestNoRoomTakesTwoSteps: the second one is taken, and no further one. In place
// of a step that power fails at there is no lack of room.
func TestNoRoomTakesTwoSteps(t *testing.T) {
	short, middle, long := datasets(t)
	room := len(middle.Bytes()) + len(short.Bytes())
	for steps := 1; steps <= 2+2+stepsOfSave; steps++ {
		s := newDisk(t, room)
		wantSave(t, s, middle, api.OK)
		wantFail(t, s, steps, 0, api.OK)
		left := steps
		for range 2 {
			if left < 2 {
				break
			}
			wantSave(t, s, long, api.ErrRoom)
			wantLoad(t, s, middle)
			left -= 2
		}
		if left < 2 {
			wantSave(t, s, long, api.ErrPower)
			wantDown(t, s, short)
			continue
		}
		if left < stepsOfSave {
			wantSave(t, s, short, api.ErrPower)
			wantDown(t, s, short)
			continue
		}
		wantSave(t, s, short, api.OK)
		wantSave(t, s, short, api.ErrPower)
	}
}

func TestFailIsReplaced(t *testing.T) {
	short, middle, _ := datasets(t)
	s := newDisk(t, api.MaxRoom)
	wantFail(t, s, 1, 0, api.OK)
	wantFail(t, s, stepsOfSave+1, 0, api.OK)
	wantSave(t, s, short, api.OK)
	wantSave(t, s, middle, api.ErrPower)
	wantStart(t, s, api.OK)
	wantLoad(t, s, short)

	s = newDisk(t, api.MaxRoom)
	wantFail(t, s, 100, 0, api.OK)
	wantFail(t, s, 2, 0, api.OK)
	wantSave(t, s, short, api.ErrPower)
	wantStart(t, s, api.OK)
	for range 50 {
		wantSave(t, s, short, api.OK)
	}

	s = newDisk(t, api.MaxRoom)
	wantFail(t, s, 2, 0, api.OK)
	wantFail(t, s, 0, 0, api.OK)
	wantStart(t, s, api.OK)
	wantSave(t, s, short, api.OK)
	wantSave(t, s, middle, api.OK)
	wantLoad(t, s, middle)
}

func TestFailThatIsRefused(t *testing.T) {
	short, middle, _ := datasets(t)
	wrong := [][2]int{{-1, 0}, {0, -1}, {-1, -1}, {math.MinInt, 0}, {0, math.MinInt}, {5, -1}, {-1, 5}, {math.MaxInt, -1}, {-1, math.MaxInt}}
	for _, w := range wrong {
		s := newDisk(t, api.MaxRoom)
		wantSave(t, s, short, api.OK)
		wantFail(t, s, w[0], w[1], api.ErrArg)
		wantSave(t, s, middle, api.OK)
		wantLoad(t, s, middle)
		wantFail(t, s, 1, 0, api.OK)
		wantFail(t, s, w[0], w[1], api.ErrArg)
		wantLoad(t, s, middle)
		wantSave(t, s, short, api.ErrPower)
		wantFail(t, s, w[0], w[1], api.ErrArg)
		wantStart(t, s, api.OK)
		wantLoad(t, s, middle)
	}
}

func TestDisksDoNotTouchOneAnother(t *testing.T) {
	short, middle, long := datasets(t)
	bytes := middle.Bytes()
	a, b, c := newDisk(t, api.MaxRoom), newDisk(t, api.MaxRoom), newDisk(t, len(short.Bytes()))
	wantSave(t, a, short, api.OK)
	wantNoLoad(t, b, api.ErrNone)
	wantFail(t, a, 1, 0, api.OK)
	wantSave(t, b, middle, api.OK)
	wantSave(t, c, long, api.ErrRoom)
	wantSave(t, a, long, api.ErrPower)
	wantLoad(t, b, middle)
	wantSave(t, c, short, api.OK)
	wantFail(t, b, 0, 0, api.OK)
	wantStart(t, a, api.OK)
	wantDown(t, b, short)
	wantLoad(t, c, short)
	wantLoad(t, a, short)
	wantSave(t, a, middle, api.OK)
	wantStart(t, b, api.OK)
	wantLoad(t, b, middle)
	if middle.Bytes() != bytes {
		t.Errorf("P1: a dataset that was saved has changed")
	}
	sameDataset(t, middle, read(t, richConfig(), rich), 3)
}

// TestLoadsShareNothing writes into the lists of one dataset that Load gave.
func TestLoadsShareNothing(t *testing.T) {
	d := read(t, richConfig(), rich)
	s := newDisk(t, api.MaxRoom)
	wantSave(t, s, d, api.OK)
	first, _ := s.Load()
	second, _ := s.Load()
	for _, x := range []*granary.Dataset{first, d} {
		for _, list := range x.Bundles() {
			fill(list, -77)
		}
		for f := range 3 {
			bounds, dictionary, _ := x.Bounds(f)
			fill(bounds, -77)
			fill(dictionary, "scribble")
		}
	}
	want := read(t, richConfig(), rich)
	third, _ := s.Load()
	for _, x := range []*granary.Dataset{first, second, third, d} {
		sameDataset(t, x, want, 3)
	}
}

// literalDisk is what the document says of a disk, with only what a caller sees:
// what Load tells once the names are synced.
type literalDisk struct {
	room, left int // left: steps ahead of the failure; below 0: none is to come
	down       bool
	cache      *granary.Dataset
}

func (l *literalDisk) size() int {
	if l.cache == nil {
		return 0
	}
	return len(l.cache.Bytes())
}

func (l *literalDisk) save(d *granary.Dataset) api.Errno {
	if l.down {
		return api.ErrDown
	}
	for step := 1; step <= stepsOfSave; step++ {
		if l.left == 0 {
			l.down, l.left = true, -1
			return api.ErrPower
		}
		l.left = max(l.left-1, -1)
		if step == 2 && l.size()+len(d.Bytes()) > l.room {
			return api.ErrRoom
		}
	}
	l.cache = d
	return api.OK
}

func (l *literalDisk) fail(steps, keep int) api.Errno {
	switch {
	case steps < 0 || keep < 0:
		return api.ErrArg
	case l.down:
		return api.ErrDown
	case steps == 0:
		l.down, l.left = true, -1
	default:
		l.left = steps
	}
	return api.OK
}

func (l *literalDisk) start() api.Errno {
	if !l.down {
		return api.ErrArg
	}
	l.down = false
	return api.OK
}

// promise is what P12 says, whatever has been done to the disk: which bytes Load
// may tell, or that it may tell of none.
type promise struct {
	may  []string // those of the last Save that answered OK, and of all behind it
	none bool
}

func (p *promise) saved(d *granary.Dataset, e api.Errno) {
	if e == api.OK {
		p.may, p.none = nil, false
	}
	if e != api.ErrDown {
		p.may = append(p.may, d.Bytes())
	}
}

func (p *promise) hold(t *testing.T, d *granary.Dataset, e api.Errno) {
	t.Helper()
	switch {
	case e == api.ErrNone && p.none, e == api.ErrDown:
	case e != api.OK || !slices.Contains(p.may, d.Bytes()):
		t.Fatalf("P12: Load() = %v, %d", d, e)
	}
}

func TestWhateverFails(t *testing.T) {
	r := rand.New(rand.NewPCG(7, 8))
	short, middle, long := datasets(t)
	all := []*granary.Dataset{short, middle, long, read(t, plain(2, numbers(1)), "1,1\n"), read(t, plain(2, words(1)), "1,a\n1,b\n")}
	for range 2000 {
		n := len(middle.Bytes())
		room := []int{api.MaxRoom, n, n + len(short.Bytes()), r.IntN(2 * len(long.Bytes()))}[r.IntN(4)]
		s, l, p := newDisk(t, room), &literalDisk{room: room, left: -1}, &promise{none: true}
		for range r.IntN(40) {
			tryCall(t, r, s, l, p, all[r.IntN(len(all))])
		}
	}
}

// tryCall makes some call, and holds it against the document's words.
func tryCall(t *testing.T, r *rand.Rand, s *granary.Store, l *literalDisk, p *promise, d *granary.Dataset) {
	t.Helper()
	switch r.IntN(5) {
	case 0:
		steps, keep := r.IntN(14)-1, r.IntN(50)-1
		if got, want := s.Fail(steps, keep), l.fail(steps, keep); got != want {
			t.Fatalf("P8: Fail(%d, %d) = %d, want %d", steps, keep, got, want)
		}
	case 1:
		if got, want := s.Start(), l.start(); got != want {
			t.Fatalf("P8: Start() = %d, want %d", got, want)
		}
	default:
		got, want := s.Save(d), l.save(d)
		if got != want {
			t.Fatalf("P7: Save() = %d, want %d", got, want)
		}
		p.saved(d, got)
	}
	loaded, e := s.Load()
	p.hold(t, loaded, e)
	switch {
	case l.down:
		wantNoLoad(t, s, api.ErrDown)
	case l.cache == nil:
		wantNoLoad(t, s, api.ErrNone)
	default:
		wantLoad(t, s, l.cache)
	}
}
