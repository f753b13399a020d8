package memory

import (
	"iter"
	"slices"
	"testing"

	"tithe/api"
)

func filled(t *testing.T) *Memory {
	t.Helper()
	m := New(api.Config{Heaps: 2, Frames: 5, Slack: 1})
	for _, c := range []struct{ worker, size, want int }{{0, 5, 0}, {0, 8, 8}, {1, 30, 64}, {1, 17, 96}, {1, 32, 128}, {0, 16, 192}} {
		if a, found := m.TakeSlot(c.worker, c.size); !found || a != c.want {
			t.Fatalf("TakeSlot(%d, %d) = %d, %t, want %d", c.worker, c.size, a, found, c.want)
		}
	}
	return m
}

func tells[T comparable](t *testing.T, name string, told iter.Seq[T], want ...T) {
	t.Helper()
	if got := slices.Collect(told); !slices.Equal(got, want) {
		t.Errorf("%s told %v, want %v", name, got, want)
	}
	for one := range told {
		if len(want) == 0 || one != want[0] {
			t.Errorf("%s, left early, told %v", name, one)
		}
		break
	}
}

func TestIteratorsTellFromTheLowestOn(t *testing.T) {
	m := filled(t)
	tells(t, "freeFrames", m.freeFrames(), 4)
	tells(t, "superblocks of heap 2, class 2", m.superblocks(2, 2), 1, 2)
	tells(t, "those with room", m.superblocksWithRoom(2, 2), 2)
	tells(t, "superblocks of heap 0", m.superblocks(ofAll, 0))
	tells(t, "free slots of frame 0", m.frames[0].freeSlots(), 2, 3, 4, 5, 6, 7)
	tells(t, "free slots of a full frame", m.frames[1].freeSlots())
	tells(t, "blocks", m.blocks(), block{0, 5}, block{8, 8}, block{64, 30}, block{96, 17}, block{128, 32}, block{192, 16})
}

func TestHeldAndUsed(t *testing.T) {
	m := filled(t)
	for _, c := range []struct{ heap, class, held, used int }{{1, 0, 64, 16}, {1, 1, 64, 16}, {2, 2, 128, 96}, {2, 0, 0, 0}, {0, 0, 0, 0}} {
		if held, used := m.held(c.heap, c.class), m.used(c.heap, c.class); held != c.held || used != c.used {
			t.Errorf("heap %d, class %d: held %d, used %d, want %d, %d", c.heap, c.class, held, used, c.held, c.used)
		}
	}
}

func TestClassOfIsTheLeastThatIsEnough(t *testing.T) {
	for size, want := range map[int]int{1: 0, 8: 0, 9: 1, 16: 1, 17: 2, 32: 2} {
		if got := classOf(size); got != want {
			t.Errorf("classOf(%d) = %d, want %d", size, got, want)
		}
	}
}

func TestGivesUpByPanic(t *testing.T) {
	m := filled(t)
	for name, act := range map[string]func(){
		"FreeSlot": func() { m.FreeSlot(4) },
		"Store":    func() { m.Store(5, 1) },
		"Load":     func() { m.Load(5) },
	} {
		func() {
			defer func() {
				if r := recover(); r != errNoBlock {
					t.Errorf("%s gave up by %v, want %v", name, r, errNoBlock)
				}
			}()
			act()
		}()
	}
}
