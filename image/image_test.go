package image_test

import (
	"math"
	"slices"
	"testing"

	"woodgrain/api"
	"woodgrain/image"
)

// fixed are the mappers that have one length.
var fixed = []struct {
	tag    string
	length int
	shape  image.Shape
	first  []int
}{
	{"2K", 2048, image.Shape{Banks: 1, Size: 2048, Windows: 2}, []int{0, 0}},
	{"4K", 4096, image.Shape{Banks: 1, Size: 4096, Windows: 1}, []int{0}},
	{"F8", 8192, image.Shape{Banks: 2, Size: 4096, Windows: 1}, []int{1}},
	{"F8SC", 8192, image.Shape{Banks: 2, Size: 4096, Windows: 1, Extra: true}, []int{1}},
	{"F6", 16384, image.Shape{Banks: 4, Size: 4096, Windows: 1}, []int{3}},
	{"F6SC", 16384, image.Shape{Banks: 4, Size: 4096, Windows: 1, Extra: true}, []int{3}},
	{"F4", 32768, image.Shape{Banks: 8, Size: 4096, Windows: 1}, []int{7}},
	{"F4SC", 32768, image.Shape{Banks: 8, Size: 4096, Windows: 1, Extra: true}, []int{7}},
	{"E0", 8192, image.Shape{Banks: 8, Size: 1024, Windows: 4}, []int{4, 5, 6, 7}},
	{"FE", 8192, image.Shape{Banks: 2, Size: 4096, Windows: 1}, []int{0}},
}

// lengths are all that a mapper might have, those right beside them, and ones
// far off.
func lengths() []int {
	l := []int{math.MinInt, math.MinInt + 2048, -8192, -4096, -2048, -1, math.MaxInt, math.MaxInt - 2047}
	for n := 0; n <= api.MaxImage+4096; n += 1024 {
		l = append(l, n-1, n, n+1)
	}
	return l
}

func TestTags(t *testing.T) {
	want := []string{"2K", "3F", "4K", "E0", "F4", "F4SC", "F6", "F6SC", "F8", "F8SC", "FE"}
	tags := image.Tags()
	if !slices.Equal(tags, want) || !slices.IsSorted(tags) {
		t.Errorf("P4.1: Tags: %v", tags)
	}
	tags[0] = "x"
	if !slices.Equal(image.Tags(), want) {
		t.Error("R4: Tags are not told anew")
	}
}

func TestFitOneLength(t *testing.T) {
	for _, m := range fixed {
		for _, length := range lengths() {
			shape, e := image.Fit(m.tag, length)
			if length == m.length {
				if shape != m.shape || e != api.OK {
					t.Errorf("P4.1: Fit(%s, %d): %v, %d", m.tag, length, shape, e)
				}
			} else if shape != (image.Shape{}) || e != api.ErrSize {
				t.Errorf("P4.1: Fit(%s, %d): %v, %d", m.tag, length, shape, e)
			}
		}
	}
}

func TestFitManyLengths(t *testing.T) {
	for _, length := range lengths() {
		shape, e := image.Fit("3F", length)
		if length >= 2048 && length <= 1<<19 && length%2048 == 0 {
			if shape != (image.Shape{Banks: length / 2048, Size: 2048, Windows: 2}) || e != api.OK {
				t.Errorf("P4.1: Fit(3F, %d): %v, %d", length, shape, e)
			}
		} else if shape != (image.Shape{}) || e != api.ErrSize {
			t.Errorf("P4.1: Fit(3F, %d): %v, %d", length, shape, e)
		}
	}
}

func TestFitNoTag(t *testing.T) {
	for _, tag := range []string{"", " ", "f8", "F8 ", " F8", "F8S", "F8SCX", "f8sc", "e0", "3f", "4k", "8K", "2KSC", "E0SC", "FESC", "F", "\x00", "F8\x00", "\xff"} {
		for _, length := range []int{2048, 4096, 8192, 16384, 32768, 0, -1} {
			if shape, e := image.Fit(tag, length); shape != (image.Shape{}) || e != api.ErrTag {
				t.Errorf("P4.1: Fit(%q, %d): %v, %d", tag, length, shape, e)
			}
			if len(image.First(tag, length)) != 0 {
				t.Errorf("P4.2: First(%q, %d) tells banks", tag, length)
			}
		}
	}
}

func TestFirst(t *testing.T) {
	for _, m := range fixed {
		for _, length := range lengths() {
			first := image.First(m.tag, length)
			if length == m.length && !slices.Equal(first, m.first) || length != m.length && len(first) != 0 {
				t.Errorf("P4.2: First(%s, %d): %v", m.tag, length, first)
			}
		}
	}
	for length, last := range map[int]int{2048: 0, 4096: 1, 6144: 2, 1 << 18: 127, 1 << 19: 255} {
		if first := image.First("3F", length); !slices.Equal(first, []int{0, last}) {
			t.Errorf("P4.2: First(3F, %d): %v", length, first)
		}
	}
	for _, length := range []int{0, -2048, 1024, 2047, 2049, 3072, 1<<19 - 1, 1<<19 + 1, 1<<19 + 2048} {
		if first := image.First("3F", length); len(first) != 0 {
			t.Errorf("P4.2: First(3F, %d): %v", length, first)
		}
	}
}

func TestFirstIsNew(t *testing.T) {
	image.First("E0", 8192)[0] = 0
	if first := image.First("E0", 8192); !slices.Equal(first, []int{4, 5, 6, 7}) {
		t.Errorf("R4: First is not told anew: %v", first)
	}
}

func TestShapesAreWhole(t *testing.T) {
	for _, tag := range image.Tags() {
		fits := 0
		for _, length := range lengths() {
			shape, e := image.Fit(tag, length)
			if e != api.OK {
				continue
			}
			fits++
			if shape.Banks*shape.Size != length || shape.Size*shape.Windows != 4096 {
				t.Errorf("P4.3: %s of %d: %v", tag, length, shape)
			}
			for _, bank := range image.First(tag, length) {
				if bank < 0 || bank >= shape.Banks {
					t.Errorf("P4.2: %s of %d shows bank %d", tag, length, bank)
				}
			}
			if len(image.First(tag, length)) != shape.Windows {
				t.Errorf("P4.2: %s of %d shows not each window's bank", tag, length)
			}
		}
		if fits == 0 {
			t.Errorf("P4.1: %s has no length", tag)
		}
	}
}
