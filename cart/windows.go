package cart

import (
	"woodgrain/api"
	"woodgrain/image"
)

const mostWindows = 4

// windows are what a cartridge shows of its image.
type windows struct {
	bytes string // the image never changes, so copies may share it
	shape image.Shape
	shown [mostWindows]int // the banks
}

// open is the windows of an image, as at power-on.
func open(tag string, bytes []byte) (windows, api.Errno) {
	shape, e := image.Fit(tag, len(bytes))
	if e != api.OK {
		return windows{}, e
	}
	w := windows{bytes: string(bytes), shape: shape}
	copy(w.shown[:], image.First(tag, len(bytes)))
	return w, api.OK
}

// place is where in the image the byte of an offset stands.
func (w *windows) place(offset int) int {
	window := offset / w.shape.Size
	return w.shown[window]*w.shape.Size + offset%w.shape.Size
}

func (w *windows) byteAt(place int) uint8 { return w.bytes[place] }

func (w *windows) show(window, bank int) { w.shown[window] = bank }

func (w *windows) banks() []int {
	l := make([]int, w.shape.Windows)
	copy(l, w.shown[:])
	return l
}

// canShow: may the windows show these banks? Where there are several windows
// no mapper changes the last one.
func (w *windows) canShow(banks []int) bool {
	last := w.shape.Banks - 1
	for window, bank := range banks {
		if _, there := numberIn(bank, 0, w.shape.Banks); !there {
			return false
		}
		if window > 0 && window == w.shape.Windows-1 && bank != last {
			return false
		}
	}
	return true
}
