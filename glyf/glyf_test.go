package glyf

import (
	"bytes"
	"math"
	"math/rand/v2"
	"slices"
	"testing"

	"punchcut/api"
)

func outline(contours ...[]api.Vertex) api.Outline { return api.Outline{Contours: contours} }

func on(x, y int) api.Vertex { return api.Vertex{X: x, Y: y, On: true} }

func off(x, y int) api.Vertex { return api.Vertex{X: x, Y: y} }

// line are n points, one unit beside each other: all of them with the flag 1.
func line(n int) []api.Vertex {
	contour := make([]api.Vertex, n)
	for k := range contour {
		contour[k] = on(k, 0)
	}
	return contour
}

// lines are contours with those numbers of points.
func lines(counts ...int) api.Outline {
	var o api.Outline
	for _, n := range counts {
		o.Contours = append(o.Contours, line(n))
	}
	return o
}

// join puts bytes behind each other.
func join(parts ...[]byte) []byte { return slices.Concat(parts...) }

func zeros(n int) []byte { return make([]byte, n) }

func clone(o api.Outline) api.Outline {
	c := api.Outline{}
	for _, contour := range o.Contours {
		c.Contours = append(c.Contours, slices.Clone(contour))
	}
	return c
}

// P4.1: Check.

func TestCheckTakesWhatMayBe(t *testing.T) {
	for k, o := range []api.Outline{
		{},
		{Contours: [][]api.Vertex{}},
		lines(1),
		lines(64),
		lines(1, 1, 1, 1, 1, 1, 1, 1),
		lines(8, 8, 8, 8, 8, 8, 8, 8),
		lines(1, 63),
		lines(57, 1, 1, 1, 1, 1, 1, 1),
		outline([]api.Vertex{off(0, 0)}),
		outline([]api.Vertex{on(255, 255), off(-255, -255), on(-255, 255), off(255, -255)}),
	} {
		if errno := Check(o); errno != 0 {
			t.Errorf("%d: Check(%v) = %d, want 0", k, o, int(errno))
		}
	}
}

func TestCheckRefuses(t *testing.T) {
	one := []api.Vertex{on(1, 2)}
	beyond := []api.Vertex{on(0, 0), on(256, 0)}
	for k, x := range []struct {
		o    api.Outline
		want api.Errno
	}{
		// The number of contours comes before everything else.
		{lines(1, 1, 1, 1, 1, 1, 1, 1, 1), api.ErrLimit},
		{lines(0, 0, 0, 0, 0, 0, 0, 0, 0), api.ErrLimit},
		{outline(beyond, one, one, one, one, one, one, one, one), api.ErrLimit},
		{outline(nil, one, one, one, one, one, one, one, one), api.ErrLimit},
		{api.Outline{Contours: make([][]api.Vertex, 1000)}, api.ErrLimit},
		{lines(65), api.ErrLimit},
		{lines(100000), api.ErrLimit},
		{lines(64, 1), api.ErrLimit},
		{lines(32, 33), api.ErrLimit},
		{lines(58, 1, 1, 1, 1, 1, 1, 1), api.ErrLimit},
		{outline(nil), api.ErrForm},
		{outline([]api.Vertex{}), api.ErrForm},
		{lines(0, 1), api.ErrForm},
		{lines(1, 0), api.ErrForm},
		{lines(64, 0), api.ErrForm},
		{lines(0, 0, 0, 0, 0, 0, 0, 0), api.ErrForm},
		{outline(beyond), api.ErrArgument},
		{outline(one, beyond), api.ErrArgument},
		// An earlier contour's error comes before a later one's.
		{outline(beyond, nil), api.ErrArgument},
		{outline(nil, beyond), api.ErrForm},
		{outline(beyond, line(63)), api.ErrArgument},
		{outline(nil, line(65)), api.ErrForm},
		{outline(line(65), nil), api.ErrLimit},
		{outline(line(64), nil, line(1)), api.ErrForm},
		{outline(line(64), line(1), nil), api.ErrLimit},
		// Within one contour too many points come before their coordinates.
		{outline(append(line(63), beyond...)), api.ErrLimit},
		{outline(line(63), beyond), api.ErrLimit},
		{outline(append(line(62), beyond...)), api.ErrArgument},
		{outline(line(62), beyond), api.ErrArgument},
	} {
		if errno := Check(x.o); errno != x.want {
			t.Errorf("%d: Check = %d, want %d", k, int(errno), int(x.want))
		}
	}
}

func TestCheckCoordinates(t *testing.T) {
	for _, n := range []int{-255, -254, -129, -1, 0, 1, 128, 254, 255} {
		for _, v := range []api.Vertex{on(n, 0), on(0, n), off(n, n), off(n, -n)} {
			if errno := Check(outline([]api.Vertex{on(0, 0), v})); errno != 0 {
				t.Errorf("Check of %v = %d, want 0", v, int(errno))
			}
		}
	}
	for _, n := range []int{-256, 256, -257, 257, -511, 511, 1 << 16, 1 << 32, 1<<32 + 1, math.MaxInt, math.MinInt, math.MinInt + 1} {
		for _, v := range []api.Vertex{on(n, 0), on(0, n), off(n, n), off(n, 255), off(-255, n)} {
			for _, contour := range [][]api.Vertex{{v}, {v, on(0, 0)}, {on(0, 0), v}, {on(0, 0), v, on(0, 0)}} {
				if errno := Check(outline(contour)); errno != api.ErrArgument {
					t.Errorf("Check of %v = %d, want %d", contour, int(errno), int(api.ErrArgument))
				}
			}
		}
	}
}

// P4.2: Encode.

func TestEncodeExamples(t *testing.T) {
	for k, x := range []struct {
		o    api.Outline
		want []byte
	}{
		// The chapter's example.
		{outline([]api.Vertex{on(5, 7)}), []byte{1, 1, 1, 5, 7}},
		{api.Outline{}, []byte{0}},
		{api.Outline{Contours: [][]api.Vertex{}}, []byte{0}},
		{outline([]api.Vertex{off(5, 7)}), []byte{1, 1, 0, 5, 7}},
		{outline([]api.Vertex{off(-5, -7)}), []byte{1, 1, 0, 0xfb, 0xf9}},
		{outline([]api.Vertex{on(200, -200)}), []byte{1, 1, 7, 0, 200, 0xff, 0x38}},
		// The steps go on over the end of a contour.
		{outline([]api.Vertex{on(1, 2), off(4, 4)}, []api.Vertex{on(3, 9)}), []byte{2, 2, 1, 1, 0, 1, 1, 2, 3, 2, 0xff, 5}},
		{outline([]api.Vertex{on(100, 0)}, []api.Vertex{on(-100, 1)}), []byte{2, 1, 1, 1, 3, 100, 0, 0xff, 0x38, 1}},
		{
			outline([]api.Vertex{on(255, -255), off(-255, 255)}),
			[]byte{1, 2, 7, 6, 0, 0xff, 0xff, 0x01, 0xfe, 0x02, 0x01, 0xfe},
		},
	} {
		if got, errno := Encode(x.o); !bytes.Equal(got, x.want) || errno != 0 {
			t.Errorf("%d: Encode(%v) = %v, %d, want %v, 0", k, x.o, got, int(errno), x.want)
		}
	}
}

func TestEncodeStepsAtTheBounds(t *testing.T) {
	for _, x := range []struct {
		step int
		wide bool
		want []byte
	}{
		{0, false, []byte{0}},
		{1, false, []byte{1}},
		{-1, false, []byte{0xff}},
		{126, false, []byte{126}},
		{127, false, []byte{127}},
		{128, true, []byte{0, 128}},
		{129, true, []byte{0, 129}},
		{-127, false, []byte{0x81}},
		{-128, false, []byte{0x80}},
		{-129, true, []byte{0xff, 0x7f}},
		{-130, true, []byte{0xff, 0x7e}},
		{255, true, []byte{0, 255}},
		{256, true, []byte{1, 0}},
		{-255, true, []byte{0xff, 0x01}},
		{-256, true, []byte{0xff, 0x00}},
		{-257, true, []byte{0xfe, 0xff}},
		{510, true, []byte{0x01, 0xfe}},
		{-510, true, []byte{0xfe, 0x02}},
	} {
		// From a to b is the step, with both within their bounds.
		a := -x.step / 2
		b := a + x.step
		first := []byte{byte(a)}
		high := byte(0)
		if a < -128 || a > 127 {
			high, first = 2, []byte{byte(a >> 8), byte(a)}
		}
		flagX, flagY := byte(0), byte(0)
		if x.wide {
			flagX, flagY = 2, 4
		}
		for _, y := range []struct {
			o    api.Outline
			want []byte
		}{
			{outline([]api.Vertex{on(a, 0), off(b, 0)}), join([]byte{1, 2, 1 | high, flagX}, first, []byte{0}, x.want, []byte{0})},
			{outline([]api.Vertex{on(0, a), off(0, b)}), join([]byte{1, 2, 1 | high*2, flagY}, []byte{0}, first, []byte{0}, x.want)},
			{outline([]api.Vertex{on(a, 0)}, []api.Vertex{off(b, 0)}), join([]byte{2, 1, 1, 1 | high, flagX}, first, []byte{0}, x.want, []byte{0})},
			{outline([]api.Vertex{on(0, a)}, []api.Vertex{off(0, b)}), join([]byte{2, 1, 1, 1 | high*2, flagY}, []byte{0}, first, []byte{0}, x.want)},
			{outline([]api.Vertex{off(a, a), on(b, b)}), join([]byte{1, 2, high * 3, 1 | flagX | flagY}, first, first, x.want, x.want)},
		} {
			if got, errno := Encode(y.o); !bytes.Equal(got, y.want) || errno != 0 {
				t.Errorf("Encode(%v) = %v, %d, want %v, 0", y.o, got, int(errno), y.want)
			}
			if got, errno := Parse(y.want); !Same(got, y.o) || errno != 0 {
				t.Errorf("Parse(%v) = %v, %d, want %v, 0", y.want, got, int(errno), y.o)
			}
		}
	}
}

// The first step is the one from 0, 0, which is one byte only up to its bounds.
func TestEncodeFirstStep(t *testing.T) {
	for _, x := range []struct {
		v    api.Vertex
		want []byte
	}{
		{on(127, -128), []byte{1, 1, 1, 127, 128}},
		{on(-128, 127), []byte{1, 1, 1, 128, 127}},
		{on(128, 127), []byte{1, 1, 3, 0, 128, 127}},
		{on(127, 128), []byte{1, 1, 5, 127, 0, 128}},
		{off(-129, 0), []byte{1, 1, 2, 0xff, 0x7f, 0}},
		{off(0, -129), []byte{1, 1, 4, 0, 0xff, 0x7f}},
		{off(-255, 255), []byte{1, 1, 6, 0xff, 0x01, 0, 0xff}},
	} {
		if got, errno := Encode(outline([]api.Vertex{x.v})); !bytes.Equal(got, x.want) || errno != 0 {
			t.Errorf("Encode of %v = %v, %d, want %v, 0", x.v, got, int(errno), x.want)
		}
	}
}

// withFlags is an outline of points at 0, 0 that have the flags 0 and 1 in that order, contour by contour.
func withFlags(contours ...[]byte) api.Outline {
	var o api.Outline
	for _, flags := range contours {
		var contour []api.Vertex
		for _, flag := range flags {
			contour = append(contour, api.Vertex{On: flag == 1})
		}
		o.Contours = append(o.Contours, contour)
	}
	return o
}

func TestEncodeRuns(t *testing.T) {
	for _, x := range []struct {
		o           api.Outline
		head, flags []byte
		points      int
	}{
		{withFlags([]byte{1, 1}), []byte{1, 2}, []byte{1, 1}, 2},
		{withFlags([]byte{1, 1, 1}), []byte{1, 3}, []byte{9, 2}, 3},
		{withFlags([]byte{0, 0, 0}), []byte{1, 3}, []byte{8, 2}, 3},
		{withFlags([]byte{0, 0, 0, 0}), []byte{1, 4}, []byte{8, 3}, 4},
		{withFlags([]byte{1, 0, 1, 0}), []byte{1, 4}, []byte{1, 0, 1, 0}, 4},
		{withFlags([]byte{1, 1, 0, 0, 1, 1}), []byte{1, 6}, []byte{1, 1, 0, 0, 1, 1}, 6},
		{withFlags([]byte{1, 1, 1, 0, 0, 0, 0, 1, 1}), []byte{1, 9}, []byte{9, 2, 8, 3, 1, 1}, 9},
		{withFlags([]byte{0, 1, 1, 1, 0}), []byte{1, 5}, []byte{0, 9, 2, 0}, 5},
		{withFlags([]byte{1, 1, 1, 0, 1, 1, 1}), []byte{1, 7}, []byte{9, 2, 0, 9, 2}, 7},
		// The end of a contour does not end a sequence.
		{withFlags([]byte{1}, []byte{1}), []byte{2, 1, 1}, []byte{1, 1}, 2},
		{withFlags([]byte{1}, []byte{1}, []byte{1}), []byte{3, 1, 1, 1}, []byte{9, 2}, 3},
		{withFlags([]byte{1, 1}, []byte{1}), []byte{2, 2, 1}, []byte{9, 2}, 3},
		{withFlags([]byte{0, 1, 1}, []byte{1, 1, 0}), []byte{2, 3, 3}, []byte{0, 9, 3, 0}, 6},
		{withFlags([]byte{1, 1, 1}, []byte{1, 1, 1}), []byte{2, 3, 3}, []byte{9, 5}, 6},
		{withFlags([]byte{1, 1, 1}, []byte{0, 0, 0}), []byte{2, 3, 3}, []byte{9, 2, 8, 2}, 6},
		{withFlags(bytes.Repeat([]byte{1}, 64)), []byte{1, 64}, []byte{9, 63}, 64},
		{withFlags(zeros(63), []byte{1}), []byte{2, 63, 1}, []byte{8, 62, 1}, 64},
		{withFlags(zeros(8), zeros(8), zeros(8), zeros(8), zeros(8), zeros(8), zeros(8), zeros(8)), []byte{8, 8, 8, 8, 8, 8, 8, 8, 8}, []byte{8, 63}, 64},
	} {
		want := join(x.head, x.flags, zeros(2*x.points))
		if got, errno := Encode(x.o); !bytes.Equal(got, want) || errno != 0 {
			t.Errorf("Encode(%v) = %v, %d, want %v, 0", x.o, got, int(errno), want)
		}
	}
}

// The bits of the step's lengths count for whether flags are the same.
func TestEncodeRunsOfWideSteps(t *testing.T) {
	o := outline([]api.Vertex{on(200, 0), on(0, 0), on(200, 0), on(200, 200), on(200, 0), on(0, 200), on(200, 0), on(0, 200)})
	want := []byte{1, 8, 11, 2, 5, 5, 15, 2, 0, 200, 0, 0xff, 0x38, 0, 0, 200, 0, 0, 0, 200, 0, 0xff, 0x38, 0xff, 0x38, 0, 200, 0, 200, 0xff, 0x38, 0xff, 0x38, 0, 200}
	if got, errno := Encode(o); !bytes.Equal(got, want) || errno != 0 {
		t.Errorf("Encode(%v) = %v, %d, want %v, 0", o, got, int(errno), want)
	}
}

func TestEncodeRefuses(t *testing.T) {
	for k, x := range []struct {
		o    api.Outline
		want api.Errno
	}{
		{lines(1, 1, 1, 1, 1, 1, 1, 1, 1), api.ErrLimit},
		{lines(65), api.ErrLimit},
		{lines(1000), api.ErrLimit},
		{lines(1, 0), api.ErrForm},
		{outline(nil), api.ErrForm},
		{outline([]api.Vertex{on(256, 0)}), api.ErrArgument},
		{outline([]api.Vertex{on(0, 0), off(0, -256)}), api.ErrArgument},
		{outline([]api.Vertex{on(math.MinInt, math.MaxInt)}), api.ErrArgument},
		{outline([]api.Vertex{on(256, 0)}, nil), api.ErrArgument},
	} {
		if got, errno := Encode(x.o); len(got) != 0 || errno != x.want {
			t.Errorf("%d: Encode = %v, %d, want nothing, %d", k, got, int(errno), int(x.want))
		}
	}
}

// P4.3: Parse.

func TestParseTakesWhatMayBe(t *testing.T) {
	for _, x := range []struct {
		b    []byte
		want api.Outline
	}{
		{[]byte{1, 1, 1, 5, 7}, outline([]api.Vertex{on(5, 7)})},
		{[]byte{0}, api.Outline{}},
		{[]byte{1, 1, 0, 0xfb, 0x80}, outline([]api.Vertex{off(-5, -128)})},
		{[]byte{2, 1, 1, 1, 3, 100, 0, 0xff, 0x38, 1}, outline([]api.Vertex{on(100, 0)}, []api.Vertex{on(-100, 1)})},
		// A step of two bytes where one would do.
		{[]byte{1, 1, 3, 0, 5, 7}, outline([]api.Vertex{on(5, 7)})},
		{[]byte{1, 1, 5, 5, 0, 7}, outline([]api.Vertex{on(5, 7)})},
		{[]byte{1, 1, 6, 0, 0, 0xff, 0xff}, outline([]api.Vertex{off(0, -1)})},
		{[]byte{1, 1, 7, 0xff, 0x80, 0, 0x7f}, outline([]api.Vertex{on(-128, 127)})},
		// A count of repetitions, also 0, for a sequence that is shorter than three, or not the whole of it.
		{[]byte{1, 1, 9, 0, 5, 7}, outline([]api.Vertex{on(5, 7)})},
		{[]byte{1, 1, 8, 0, 5, 7}, outline([]api.Vertex{off(5, 7)})},
		{[]byte{1, 1, 15, 0, 0, 5, 0, 7}, outline([]api.Vertex{on(5, 7)})},
		{[]byte{1, 2, 9, 1, 5, 7, 1, 1}, outline([]api.Vertex{on(5, 7), on(6, 8)})},
		{[]byte{1, 3, 1, 1, 1, 5, 7, 1, 1, 1, 1}, outline([]api.Vertex{on(5, 7), on(6, 8), on(7, 9)})},
		{[]byte{1, 4, 9, 1, 9, 1, 0, 0, 0, 0, 0, 0, 0, 0}, withFlags([]byte{1, 1, 1, 1})},
		{[]byte{1, 3, 8, 0, 9, 0, 8, 0, 0, 0, 0, 0, 0, 0}, withFlags([]byte{0, 1, 0})},
		{[]byte{2, 1, 2, 9, 2, 1, 1, 1, 1, 1, 1}, outline([]api.Vertex{on(1, 1)}, []api.Vertex{on(2, 2), on(3, 3)})},
		// One repeated up to the last point.
		{[]byte{1, 3, 0, 9, 1, 0, 0, 0, 0, 0, 0}, withFlags([]byte{0, 1, 1})},
		{join([]byte{1, 64, 9, 63}, zeros(128)), withFlags(bytes.Repeat([]byte{1}, 64))},
		// One step may be greater than a coordinate, if the sum is not.
		{[]byte{1, 2, 3, 3, 0, 255, 0, 0xfe, 0x02, 0}, outline([]api.Vertex{on(255, 0), on(-255, 0)})},
	} {
		if got, errno := Parse(x.b); !Same(got, x.want) || errno != 0 {
			t.Errorf("Parse(%v) = %v, %d, want %v, 0", x.b, got, int(errno), x.want)
		}
	}
}

func TestParseRefuses(t *testing.T) {
	const short, form, limit, argument = api.ErrShort, api.ErrForm, api.ErrLimit, api.ErrArgument
	for _, x := range []struct {
		b    []byte
		want api.Errno
	}{
		// 1: numbers of points that are missing come before their sum and the number of contours.
		{nil, short},
		{[]byte{}, short},
		{[]byte{1}, short},
		{[]byte{2, 1}, short},
		{[]byte{2, 65}, short},
		{[]byte{9, 1, 1, 1, 1, 1, 1, 1, 1}, short},
		{[]byte{255}, short},
		{join([]byte{255}, zeros(254)), short},
		// 2.
		{[]byte{9, 1, 1, 1, 1, 1, 1, 1, 1, 1}, limit},
		{[]byte{9, 0, 0, 0, 0, 0, 0, 0, 0, 0}, limit},
		{join([]byte{255}, zeros(255)), limit},
		{join([]byte{255}, bytes.Repeat([]byte{255}, 255)), limit},
		{[]byte{1, 65}, limit},
		{[]byte{1, 255}, limit},
		{[]byte{2, 64, 1}, limit},
		{[]byte{2, 0, 65}, limit},
		{[]byte{2, 128, 128}, limit},
		{[]byte{8, 9, 8, 8, 8, 8, 8, 8, 8}, limit},
		{[]byte{1, 65, 16}, limit},
		// 3: a flag or its count is missing.
		{[]byte{1, 1}, short},
		{[]byte{1, 64}, short},
		{[]byte{1, 2, 1}, short},
		{[]byte{1, 1, 9}, short},
		{[]byte{1, 3, 9, 1}, short},
		{[]byte{1, 3, 0, 0, 8}, short},
		{[]byte{1, 1, 24}, short},
		{[]byte{1, 1, 255}, short},
		{[]byte{1, 2, 1, 25}, short},
		// 3: a flag above 15, with a count and without one.
		{[]byte{1, 1, 16}, form},
		{[]byte{1, 1, 17}, form},
		{[]byte{1, 1, 23}, form},
		{[]byte{1, 1, 32}, form},
		{[]byte{1, 1, 128}, form},
		{[]byte{1, 1, 24, 0}, form},
		{[]byte{1, 1, 255, 0}, form},
		{[]byte{1, 1, 31, 9}, form},
		{[]byte{1, 1, 16, 0, 0}, form},
		{[]byte{1, 1, 25, 0, 0, 0}, form},
		{[]byte{1, 3, 16, 9}, form},
		{[]byte{1, 2, 1, 16}, form},
		// 3: a flag that is repeated beyond the last point.
		{[]byte{1, 1, 9, 1}, form},
		{[]byte{1, 1, 9, 1, 0, 0, 0, 0}, form},
		{[]byte{1, 3, 9, 3}, form},
		{[]byte{1, 3, 0, 9, 2}, form},
		{[]byte{2, 2, 2, 8, 4}, form},
		{[]byte{1, 64, 9, 64}, form},
		{[]byte{1, 64, 9, 255}, form},
		{[]byte{1, 64, 9, 0, 9, 255}, form},
		// 4.
		{[]byte{1, 1, 1}, short},
		{[]byte{1, 1, 1, 5}, short},
		{[]byte{1, 1, 3, 0, 5}, short},
		{[]byte{1, 1, 5, 5, 0}, short},
		{[]byte{1, 1, 9, 0, 5}, short},
		{[]byte{2, 0, 1, 1, 5}, short},
		{[]byte{1, 1, 3, 1, 0}, short},
		// 5: before the error of Check.
		{[]byte{0, 0}, form},
		{[]byte{1, 1, 1, 5, 7, 0}, form},
		{[]byte{1, 1, 3, 1, 0, 0, 0}, form},
		{[]byte{1, 0, 0}, form},
		// 6.
		{[]byte{1, 0}, form},
		{[]byte{2, 0, 1, 1, 5, 7}, form},
		{[]byte{2, 1, 0, 1, 5, 7}, form},
		{[]byte{8, 0, 0, 0, 0, 0, 0, 0, 0}, form},
		{[]byte{1, 1, 3, 1, 0, 0}, argument},
		{[]byte{1, 1, 5, 0, 0xff, 0}, argument},
		{[]byte{1, 1, 2, 0x7f, 0xff, 0}, argument},
		{[]byte{1, 1, 4, 0, 0x80, 0}, argument},
		{[]byte{1, 3, 9, 2, 127, 0, 127, 0, 127, 0}, argument},
		{[]byte{1, 2, 3, 1, 0, 255, 0, 1, 0}, argument},
		{[]byte{2, 1, 1, 5, 1, 0, 0xff, 0x01, 0, 0xff}, argument},
		{[]byte{2, 1, 0, 3, 1, 0, 0}, argument},
		{[]byte{2, 0, 1, 3, 1, 0, 0}, form},
		{[]byte{2, 1, 1, 3, 3, 1, 0, 0, 0xff, 0, 0}, argument},
	} {
		if got, errno := Parse(x.b); got.Contours != nil || errno != x.want {
			t.Errorf("Parse(%v) = %v, %d, want nothing, %d", x.b, got, int(errno), int(x.want))
		}
	}
}

// wantParse is P4.3, point by point, by the places of the bytes.
func wantParse(b []byte) (api.Outline, api.Errno) {
	if len(b) == 0 || len(b) < 1+int(b[0]) {
		return api.Outline{}, api.ErrShort
	}
	at := 1 + int(b[0])
	counts := b[1:at]
	points := 0
	for _, count := range counts {
		points += int(count)
	}
	if points > 64 || len(counts) > 8 {
		return api.Outline{}, api.ErrLimit
	}
	var flags []int
	for len(flags) < points {
		if at >= len(b) || b[at]/8%2 == 1 && at+1 >= len(b) {
			return api.Outline{}, api.ErrShort
		}
		flag, times := int(b[at]), 1
		at++
		if flag/8%2 == 1 {
			times = 1 + int(b[at])
			at++
		}
		if flag > 15 || len(flags)+times > points {
			return api.Outline{}, api.ErrForm
		}
		for range times {
			flags = append(flags, flag)
		}
	}
	steps := make([]int, 0, 2*points)
	for k := range 2 * points {
		size := 1 + flags[k/2]>>(1+k%2)&1
		if at+size > len(b) {
			return api.Outline{}, api.ErrShort
		}
		n := int(b[at])
		if size == 2 {
			n = n*256 + int(b[at+1])
		}
		if limit := 1 << (8 * size); n >= limit/2 {
			n -= limit
		}
		steps, at = append(steps, n), at+size
	}
	if at < len(b) {
		return api.Outline{}, api.ErrForm
	}
	o := wantOutline(counts, flags, steps)
	if errno := wantCheck(o); errno != 0 {
		return api.Outline{}, errno
	}
	return o, 0
}

func wantOutline(counts []byte, flags, steps []int) api.Outline {
	var o api.Outline
	k, x, y := 0, 0, 0
	for _, count := range counts {
		var contour []api.Vertex
		for range count {
			x, y = x+steps[2*k], y+steps[2*k+1]
			contour = append(contour, api.Vertex{X: x, Y: y, On: flags[k]%2 == 1})
			k++
		}
		o.Contours = append(o.Contours, contour)
	}
	return o
}

// wantCheck is P4.1, word for word.
func wantCheck(o api.Outline) api.Errno {
	if len(o.Contours) > 8 {
		return api.ErrLimit
	}
	for k, contour := range o.Contours {
		if len(slices.Concat(o.Contours[:k+1]...)) > 64 {
			return api.ErrLimit
		}
		if len(contour) == 0 {
			return api.ErrForm
		}
		for _, v := range contour {
			if v.X < -255 || v.X > 255 || v.Y < -255 || v.Y > 255 {
				return api.ErrArgument
			}
		}
	}
	return 0
}

// checkParse holds what Parse answers against P4.3, and what it decodes against T2.
func checkParse(t *testing.T, b []byte) {
	t.Helper()
	before := slices.Clone(b)
	got, errno := Parse(b)
	want, wantErrno := wantParse(b)
	if !Same(got, want) || errno != wantErrno {
		t.Fatalf("Parse(%v) = %v, %d, want %v, %d", b, got, int(errno), want, int(wantErrno))
	}
	if !bytes.Equal(b, before) {
		t.Fatalf("Parse(%v) has changed its bytes to %v", before, b)
	}
	if errno != 0 {
		return
	}
	again, errno := Encode(got)
	if errno != 0 {
		t.Fatalf("Encode(%v) = %v, %d, from %v", got, again, int(errno), b)
	}
	if o, errno := Parse(again); !Same(o, got) || errno != 0 {
		t.Fatalf("Parse(%v) = %v, %d, want %v, 0", again, o, int(errno), got)
	}
}

// All bytes up to a length, and all endings of that length behind some beginnings.
func TestParseAllShortBytes(t *testing.T) {
	checkParse(t, nil)
	for _, head := range [][]byte{
		{}, {0}, {1}, {2}, {8}, {9}, {1, 0}, {1, 1}, {1, 2}, {1, 3}, {1, 64}, {1, 65}, {2, 1}, {2, 0, 1}, {2, 1, 1}, {3, 1, 0, 1},
		{1, 1, 0}, {1, 1, 1}, {1, 1, 3}, {1, 1, 5}, {1, 1, 9}, {1, 1, 24}, {1, 2, 9}, {1, 2, 9, 0}, {1, 2, 9, 1, 0, 0},
		{1, 1, 7, 0, 255}, {1, 1, 7, 255, 1}, {1, 3, 9, 2, 0, 0, 0, 0},
	} {
		for n := range 1 << 16 {
			if n < 256 {
				checkParse(t, join(head, []byte{byte(n)}))
			}
			checkParse(t, join(head, []byte{byte(n >> 8), byte(n)}))
		}
	}
}

// Every beginning of an outline's bytes is too short, and none of them is anything else.
func TestParseCutBytes(t *testing.T) {
	for _, o := range []api.Outline{
		outline([]api.Vertex{on(5, 7)}),
		outline([]api.Vertex{on(200, -200)}),
		outline([]api.Vertex{on(0, 0), on(10, 0), on(10, 200)}, []api.Vertex{off(-50, 3)}),
		withFlags([]byte{1, 1, 1, 0, 0, 0}, []byte{0, 1}),
		lines(8, 8, 8, 8, 8, 8, 8, 8),
		lines(64),
	} {
		b, errno := Encode(o)
		if errno != 0 {
			t.Fatalf("Encode(%v): %d", o, int(errno))
		}
		for k := range b {
			if got, errno := Parse(b[:k]); got.Contours != nil || errno != api.ErrShort {
				t.Errorf("Parse(%v) = %v, %d, want nothing, %d", b[:k], got, int(errno), int(api.ErrShort))
			}
		}
		for _, more := range []byte{0, 1, 255} {
			if got, errno := Parse(join(b, []byte{more})); got.Contours != nil || errno != api.ErrForm {
				t.Errorf("Parse of %v and %d = %v, %d, want nothing, %d", b, more, got, int(errno), int(api.ErrForm))
			}
		}
	}
}

// anyBytes are bytes that are an outline's up to a place that may be anywhere.
func anyBytes(r *rand.Rand) []byte {
	b := []byte{byte(r.IntN(10))}
	points := 0
	for range b[0] {
		n := r.IntN(r.IntN(12) + 1)
		points += n
		b = append(b, byte(n))
	}
	for have := 0; have < points; {
		flag := byte(r.IntN(16))
		if r.IntN(60) == 0 {
			flag = byte(r.IntN(256))
		}
		b = append(b, flag)
		if have++; flag&8 != 0 {
			times := r.IntN(points - have + 1)
			if r.IntN(60) == 0 {
				times = r.IntN(256)
			}
			b = append(b, byte(times))
			have += times
		}
	}
	for range r.IntN(4*points + 2) {
		b = append(b, byte(r.IntN(3)*(r.IntN(256)/100)))
	}
	return b
}

// fitSteps cuts or fills the bytes behind the flags, so that they are as many as the steps need.
func fitSteps(b []byte) []byte {
	for range 300 {
		switch _, errno := wantParse(b); errno {
		case api.ErrShort:
			b = append(b, 0)
		case api.ErrForm:
			b = b[:len(b)-1]
		default:
			return b
		}
		if len(b) == 0 {
			return b
		}
	}
	return b
}

func TestParseAnyBytes(t *testing.T) {
	r := rand.New(rand.NewPCG(4, 3))
	decoded := 0
	for range 20000 {
		b := anyBytes(r)
		checkParse(t, b)
		b = fitSteps(b)
		checkParse(t, b)
		if _, errno := Parse(b); errno == 0 {
			decoded++
		}
		if len(b) > 0 {
			b[r.IntN(len(b))] = byte(r.IntN(256))
			checkParse(t, b)
		}
		noise := make([]byte, r.IntN(300))
		for k := range noise {
			noise[k] = byte(r.Uint32())
		}
		checkParse(t, noise)
	}
	// Otherwise the bytes above would hold Parse to its errors alone.
	if decoded < 500 {
		t.Errorf("only %d of them are outlines", decoded)
	}
}

func FuzzParse(f *testing.F) {
	f.Add([]byte{})
	f.Add([]byte{1, 1, 1, 5, 7})
	f.Add([]byte{2, 3, 1, 1, 1, 5, 4, 0, 0, 10, 0, 0, 0, 200, 196, 255, 59})
	f.Fuzz(checkParse)
}

// What Parse answers has memory of its own, of which no contour has another's (W6).
func TestParseAnswersNewMemory(t *testing.T) {
	b := []byte{2, 2, 1, 9, 2, 1, 2, 3, 4, 5, 6}
	o, errno := Parse(b)
	want := outline([]api.Vertex{on(1, 2), on(4, 6)}, []api.Vertex{on(9, 12)})
	if !Same(o, want) || errno != 0 {
		t.Fatalf("Parse(%v) = %v, %d, want %v, 0", b, o, int(errno), want)
	}
	clear(b)
	_ = append(o.Contours[0], on(77, 77))
	if !Same(o, want) {
		t.Errorf("the outline has become %v", o)
	}
}

// P4.2 and P4.3 together: any outlines.

// anyCoord is a coordinate that is near a bound, or near 0, or anywhere; of a wild one the bounds may be broken.
func anyCoord(r *rand.Rand, wild bool) int {
	if wild && r.IntN(40) == 0 {
		return []int{-256, 256, 1 << 40, math.MaxInt, math.MinInt}[r.IntN(5)]
	}
	switch r.IntN(3) {
	case 0:
		return r.IntN(5) - 2
	case 1:
		return []int{-255, -129, -128, -127, 126, 127, 128, 255}[r.IntN(8)]
	}
	return r.IntN(511) - 255
}

func anyOutline(r *rand.Rand, wild bool) api.Outline {
	var o api.Outline
	contours, least := r.IntN(9), 1
	if wild {
		contours, least = r.IntN(11), r.IntN(2)
	}
	for range contours {
		contour := make([]api.Vertex, least+r.IntN(8))
		if wild {
			contour = make([]api.Vertex, least+r.IntN(20))
		}
		same := r.IntN(2) == 0
		for k := range contour {
			contour[k] = api.Vertex{X: anyCoord(r, wild), Y: anyCoord(r, wild), On: r.IntN(2) == 0}
			if same && k > 0 {
				contour[k] = contour[0]
			}
		}
		o.Contours = append(o.Contours, contour)
	}
	return o
}

// wantEncode is P4.2, word for word: flags first, then the sequences of them, then the steps.
func wantEncode(o api.Outline) []byte {
	b := []byte{byte(len(o.Contours))}
	var flags, steps []byte
	x, y := 0, 0
	for _, contour := range o.Contours {
		b = append(b, byte(len(contour)))
		for _, v := range contour {
			flag := byte(0)
			if v.On {
				flag = 1
			}
			for k, n := range []int{v.X - x, v.Y - y} {
				if n < -128 || n > 127 {
					flag += 2 << k
					steps = append(steps, byte((n+65536)/256))
				}
				steps = append(steps, byte((n+65536)%256))
			}
			x, y = v.X, v.Y
			flags = append(flags, flag)
		}
	}
	for k, flag := range flags {
		if k > 0 && flags[k-1] == flag {
			continue
		}
		end := k
		for end < len(flags) && flags[end] == flag {
			end++
		}
		switch n := end - k; {
		case n >= 3:
			b = append(b, flag+8, byte(n-1))
		default:
			b = append(b, flags[k:end]...)
		}
	}
	return append(b, steps...)
}

func TestEncodeAnyOutlines(t *testing.T) {
	r := rand.New(rand.NewPCG(1, 9))
	for range 20000 {
		o := anyOutline(r, false)
		before := clone(o)
		want := wantEncode(o)
		b, errno := Encode(o)
		if !bytes.Equal(b, want) || errno != 0 {
			t.Fatalf("Encode(%v) = %v, %d, want %v, 0", o, b, int(errno), want)
		}
		if !Same(o, before) {
			t.Fatalf("Encode(%v) has changed its outline to %v", before, o)
		}
		if got, errno := Parse(b); !Same(got, o) || errno != 0 {
			t.Fatalf("Parse(%v) = %v, %d, want %v, 0", b, got, int(errno), o)
		}
	}
}

func TestCheckAnyOutlines(t *testing.T) {
	r := rand.New(rand.NewPCG(8, 64))
	seen := map[api.Errno]int{}
	for range 20000 {
		o := anyOutline(r, true)
		errno, want := Check(o), wantCheck(o)
		if errno != want {
			t.Fatalf("Check(%v) = %d, want %d", o, int(errno), int(want))
		}
		seen[errno]++
		b, got := Encode(o)
		if got != want || want != 0 && len(b) != 0 {
			t.Fatalf("Encode(%v) = %v, %d, want the error %d", o, b, int(got), int(want))
		}
	}
	for _, errno := range []api.Errno{0, api.ErrLimit, api.ErrForm, api.ErrArgument} {
		if seen[errno] < 100 {
			t.Errorf("only %d of them have the error %d", seen[errno], int(errno))
		}
	}
}

// P4.4: Same.

func TestSame(t *testing.T) {
	one := outline([]api.Vertex{on(1, 2), off(3, 4)}, []api.Vertex{on(5, 6)})
	for _, x := range []struct {
		a, b api.Outline
		want bool
	}{
		{one, one, true},
		{one, clone(one), true},
		{api.Outline{}, api.Outline{}, true},
		{api.Outline{}, api.Outline{Contours: [][]api.Vertex{}}, true},
		{outline(nil), outline([]api.Vertex{}), true},
		{api.Outline{}, outline(nil), false},
		{outline(nil), outline(nil, nil), false},
		{api.Outline{}, one, false},
		// One of the numbers is another one, or whether a point is on the curve.
		{one, outline([]api.Vertex{on(0, 2), off(3, 4)}, []api.Vertex{on(5, 6)}), false},
		{one, outline([]api.Vertex{on(1, 2), off(3, 5)}, []api.Vertex{on(5, 6)}), false},
		{one, outline([]api.Vertex{on(1, 2), on(3, 4)}, []api.Vertex{on(5, 6)}), false},
		{one, outline([]api.Vertex{on(1, 2), off(3, 4)}, []api.Vertex{off(5, 6)}), false},
		{one, outline([]api.Vertex{on(1, 2), off(3, 4)}, []api.Vertex{on(6, 5)}), false},
		// The same points in other contours, or in another order.
		{one, outline([]api.Vertex{on(1, 2), off(3, 4), on(5, 6)}), false},
		{one, outline([]api.Vertex{on(1, 2)}, []api.Vertex{off(3, 4), on(5, 6)}), false},
		{one, outline([]api.Vertex{on(5, 6)}, []api.Vertex{on(1, 2), off(3, 4)}), false},
		{one, outline([]api.Vertex{off(3, 4), on(1, 2)}, []api.Vertex{on(5, 6)}), false},
		// One of them is a beginning of the other one.
		{one, outline([]api.Vertex{on(1, 2), off(3, 4)}), false},
		{one, outline([]api.Vertex{on(1, 2), off(3, 4)}, nil), false},
		{one, outline([]api.Vertex{on(1, 2), off(3, 4)}, []api.Vertex{on(5, 6)}, nil), false},
		{one, outline([]api.Vertex{on(1, 2), off(3, 4)}, []api.Vertex{on(5, 6), on(5, 6)}), false},
		{one, outline([]api.Vertex{on(1, 2)}, []api.Vertex{on(5, 6)}), false},
		// Outlines that Check refuses.
		{lines(100), lines(100), true},
		{lines(100), lines(101), false},
		{outline([]api.Vertex{on(math.MaxInt, math.MinInt)}), outline([]api.Vertex{on(math.MaxInt, math.MinInt)}), true},
		{outline([]api.Vertex{on(math.MaxInt, 0)}), outline([]api.Vertex{on(-1, 0)}), false},
		{outline([]api.Vertex{on(1<<32, 0)}), outline([]api.Vertex{on(0, 0)}), false},
		{lines(0, 0, 0, 0, 0, 0, 0, 0, 0), lines(0, 0, 0, 0, 0, 0, 0, 0, 0), true},
	} {
		if got := Same(x.a, x.b); got != x.want {
			t.Errorf("Same(%v, %v) = %t, want %t", x.a, x.b, got, x.want)
		}
		if got := Same(x.b, x.a); got != x.want {
			t.Errorf("Same(%v, %v) = %t, want %t", x.b, x.a, got, x.want)
		}
	}
}
