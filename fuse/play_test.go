package fuse

import (
	"math"
	"math/rand"
	"slices"
	"testing"
)

// played is a script in the chapter's words.
func played(most int, script []int) (string, []int) {
	most = min(max(most, 0), 4096)
	letters, counts, caught := "", []int{}, 0
	for _, n := range script {
		whole := caught <= most
		switch {
		case n == 6:
			caught = 0
			letters += "-"
		case n < 0 || n > 7:
			letters += "-"
		case n == 5 || !whole:
			letters += "n"
		case n == 0:
			letters += "y"
		case n == 7:
			caught++
			letters += "y"
		default:
			caught++
			letters += "n"
		}
		counts = append(counts, caught)
	}
	return letters, counts
}

func play(t *testing.T, most int, script []int) {
	t.Helper()
	letters, counts := Play(most, script)
	wanted, numbers := played(most, script)
	if letters != wanted || !slices.Equal(counts, numbers) {
		t.Fatal(most, script, letters, counts, wanted, numbers)
	}
}

func TestPlayExamplesP171(t *testing.T) {
	for _, row := range []struct {
		most    int
		script  []int
		letters string
		counts  []int
	}{
		{1, []int{0, 1, 2, 1, 0, 6, 0}, "ynnnn-y", []int{0, 1, 2, 2, 2, 0, 0}},
		{1, []int{0, 1, 2, 1, 0, 6, 0, 5, 9, 7}, "ynnnn-yn-y", []int{0, 1, 2, 2, 2, 0, 0, 0, 0, 1}},
		{9, []int{0, 1, 2, 3, 4, 5, 6, 7, 8, -1}, "ynnnnn-y--", []int{0, 1, 2, 3, 4, 4, 0, 1, 1, 1}},
		{0, []int{7, 7, 6, 7}, "yn-y", []int{1, 1, 0, 1}},
		{-3, []int{4, 0}, "nn", []int{1, 1}},
		{0, []int{}, "", nil},
		{0, nil, "", nil},
	} {
		letters, counts := Play(row.most, row.script)
		if letters != row.letters || !slices.Equal(counts, row.counts) {
			t.Error(row, letters, counts)
		}
	}
}

func TestAllSmallScriptsP171P172(t *testing.T) {
	numbers := []int{-1, 0, 1, 2, 3, 4, 5, 6, 7, 8}
	const length = 4
	scripts := 1
	for range length {
		scripts *= len(numbers)
	}
	script := make([]int, length)
	for most := -1; most <= 3; most++ {
		for s := range scripts {
			for i, left := 0, s; i < length; i++ {
				script[i] = numbers[left%len(numbers)]
				left /= len(numbers)
			}
			play(t, most, script)
		}
	}
}

func TestOddNumbersP171(t *testing.T) {
	script := []int{1}
	for _, n := range []int{math.MinInt, math.MinInt + 6, -1 << 32, -256, -8, -6, -1, 8, 9, 255, 256, 257, 262, 1 << 32, 1<<32 + 1, 1<<32 + 6, math.MaxInt} {
		script = append(script, n, 7)
	}
	for most := -1; most < 20; most++ {
		play(t, most, script)
	}
}

func TestRandomScriptsP171P172(t *testing.T) {
	r := rand.New(rand.NewSource(1))
	for range 500 {
		script := make([]int, r.Intn(400))
		for i := range script {
			script[i] = r.Intn(10) - 1
			if script[i] == mend && r.Intn(4) > 0 {
				script[i] = 1
			}
		}
		play(t, r.Intn(40)-2, script)
	}
}

func TestPlayMostP171P172(t *testing.T) {
	script := slices.Repeat([]int{1, 7, 0}, 2100)
	for _, most := range mosts {
		play(t, most.given, script)
	}
}

// What each number's work panics with.
func TestWhatIsPlayedP171(t *testing.T) {
	for number, last := range []string{"", "a", "error errno 2", "error runtime error: index out of range [0] with length 0", "other", "", "", "a"} {
		f := New(1)
		f.step(number)
		if f.Last() != last {
			t.Error(number, f.Last())
		}
	}
}

// A script is left as it is, its spare room too, and answers share no memory.
func TestPlayMemoryR3(t *testing.T) {
	room := []int{1, 2, 7, 77, 78}
	script := room[:3]
	letters, counts := Play(1, script)
	if !slices.Equal(room, []int{1, 2, 7, 77, 78}) {
		t.Fatal(room)
	}
	for i := range counts[:cap(counts)] {
		counts[:cap(counts)][i] = -1
	}
	script[0] = 0
	if letters != "nnn" || !slices.Equal(room, []int{0, 2, 7, 77, 78}) {
		t.Error(letters, room)
	}
	script[0] = 1
	if _, again := Play(1, script); !slices.Equal(again, []int{1, 2, 2}) {
		t.Error(again)
	}
}

// A play has a fuse of its own.
func TestPlaysApartR2(t *testing.T) {
	for range 3 {
		if letters, _ := Play(0, []int{0, 1, 0}); letters != "ynn" {
			t.Error(letters)
		}
	}
}
