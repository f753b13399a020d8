package memory

import (
	"iter"
	"slices"
	"testing"

	"tithe/api"
)

func filled(t *testing.T) *Memory {
	t.Helper()
	m := New(api.Config{Heaps: 2, Frames: 9, Slack: 1})
	for _, c := range []struct{ worker, size, want int }{{0, 5, 0}, {0, 8, 8}, {1, 30, 64}, {1, 17, 96}, {1, 32, 128}, {0, 16, 192}, {1, 64, 256}, {0, 65, 320}} {
		if a, found := m.Take(c.worker, c.size); !found || a != c.want {
			t.Fatalf("Take(%d, %d) = %d, %t, want %d", c.worker, c.size, a, found, c.want)
		}
	}
	return m
}

func tells[T comparable](t *testing.T, name string, told iter.Seq[T], want ...T) {
	t.Helper()
	if got := slices.Collect(told); !slices.Equal(got, want) {
		t.Errorf("%s told %v, want %v", name, got, want)
	}
	for one := range told {
		if len(want) == 0 || one != want[0] {
			t.Errorf("%s, left early, told %v", name, one)
		}
		break
	}
}

func TestIteratorsTellFromTheLowestOn(t *testing.T) {
	m := filled(t)
	tells(t, "freeFrames", m.freeFrames(), 7, 8)
	tells(t, "superblocks of heap 2, class 2", m.superblocks(2, 2), 1, 2)
	tells(t, "those with room", m.superblocksWithRoom(2, 2), 2)
	tells(t, "superblocks of heap 0", m.superblocks(ofAll, 0))
	tells(t, "free slots of frame 0", m.frames[0].freeSlots(), 2, 3, 4, 5, 6, 7)
	tells(t, "free slots of a full frame", m.frames[1].freeSlots())
	tells(t, "blocks", m.blocks(), block{0, 5}, block{8, 8}, block{64, 30}, block{96, 17}, block{128, 32}, block{192, 16}, block{256, 64}, block{320, 65})
}

func TestLiveTellsACopyOfTheBlocks(t *testing.T) {
	m := filled(t)
	var got []block
	for address, size := range m.Live() {
		got = append(got, block{address, size})
		m.Free(address)
	}
	if want := slices.Collect(filled(t).blocks()); !slices.Equal(got, want) {
		t.Errorf("Live told %v, want %v", got, want)
	}
	for address := range m.Live() {
		t.Errorf("Live told %d, which was freed", address)
	}
}

func TestFreeRunsTellWhereSoManyFramesAreFree(t *testing.T) {
	m := filled(t)
	m.Free(256)
	tells(t, "runs of 1", m.freeRuns(1), 4, 7, 8)
	tells(t, "runs of 2", m.freeRuns(2), 7)
	tells(t, "runs of 3", m.freeRuns(3))
	m.Free(320)
	tells(t, "runs of 3 of 5", m.freeRuns(3), 4, 5, 6)
	tells(t, "runs of more than all", m.freeRuns(10))
}

func TestFramesForRoundsUp(t *testing.T) {
	for size, want := range map[int]int{33: 1, 64: 1, 65: 2, 128: 2, 129: 3, 192: 3, 193: 4, 256: 4} {
		if got := framesFor(size); got != want {
			t.Errorf("framesFor(%d) = %d, want %d", size, got, want)
		}
	}
}

func TestStatsTellsHeldAndUsed(t *testing.T) {
	m := filled(t)
	for _, c := range []struct{ heap, class, held, used int }{{1, 0, 64, 16}, {1, 1, 64, 16}, {2, 2, 128, 96}, {2, 0, 0, 0}, {0, 0, 0, 0}} {
		if s := m.Stats(c.heap, c.class); s != (api.Stats{Held: c.held, Used: c.used}) {
			t.Errorf("Stats(%d, %d) = %+v, want %d, %d", c.heap, c.class, s, c.held, c.used)
		}
	}
}

func TestClassOfIsTheLeastThatIsEnough(t *testing.T) {
	for size, want := range map[int]int{1: 0, 8: 0, 9: 1, 16: 1, 17: 2, 32: 2} {
		if got := classOf(size); got != want {
			t.Errorf("classOf(%d) = %d, want %d", size, got, want)
		}
	}
}

func TestGivesUpByPanic(t *testing.T) {
	m := filled(t)
	for name, act := range map[string]func(){
		"Free, within a slot":        func() { m.Free(4) },
		"Free, within a large block": func() { m.Free(384) },
		"Store, behind a slot":       func() { m.Store(5, 1) },
		"Store, behind a large one":  func() { m.Store(385, 1) },
		"Load":                       func() { m.Load(5) },
	} {
		func() {
			defer func() {
				if r := recover(); r != errNoBlock {
					t.Errorf("%s gave up by %v, want %v", name, r, errNoBlock)
				}
			}()
			act()
		}()
	}
}
