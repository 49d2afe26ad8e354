package tests

import (
	"strings"
	"testing"

	"loop.example/s01647/impl"
)

func TestSniffWrongTexts(t *testing.T) {
	for _, bus := range wrongTexts() {
		if got := impl.Sniff(bus); len(got) != 0 {
			t.Errorf("Sniff(%q) = %v", bus, got)
		}
		if got := impl.Sniff(zeroImage + "111" + bus); len(got) != 0 {
			t.Errorf("Sniff(an image and %q) = %v", bus, got)
		}
	}
}

// A text of MaxTicks letters is heard to its end; of one more nothing is.
func TestSniffLength(t *testing.T) {
	bus := ones(impl.MaxTicks-len(zeroImage)) + zeroImage
	expectSlots(t, "the longest", bus, impl.MaxTicks-len(zeroImage))
	expectSlots(t, "one more", bus+"1")
	expectSlots(t, "one more ahead", "1"+bus)
	expectSlots(t, "the longest, all 1", ones(impl.MaxTicks))
	expectSlots(t, "the longest, all 0", zeros(impl.MaxTicks))
	full := strings.Repeat(zeroImage+"111", 200)[:impl.MaxTicks]
	if got := impl.Sniff(full); len(got) != 113 {
		t.Errorf("%d slots", len(got))
	}
	expectSlots(t, "nothing", "")
}

func TestSniffSlots(t *testing.T) {
	for _, f := range edgeFrames() {
		for _, ack := range []string{"0", "1"} {
			image := withAck(impl.Encode(f), ack)
			got := impl.Sniff("11" + image)
			if len(got) != 1 || !sameSlots(got[0], impl.Slot{At: 2, Len: len(image), F: f}) {
				t.Errorf("Sniff(%q) = %+v", image, got)
			}
		}
	}
}

// The listening ends with the text: inside a frame without a slot, inside a gap with one.
func TestSniffTextEnds(t *testing.T) {
	for n := range zeroImage {
		expectSlots(t, "cut off", "1"+zeroImage[:n])
	}
	for gap := range 4 {
		expectSlots(t, "in the gap", "1"+zeroImage+ones(gap), 1)
	}
	expectSlots(t, "free at the end", zeroImage+"1110", 0)
}

// A 0 at each place of the gap; then eleven levels, and one less.
func TestSniffGap(t *testing.T) {
	length := len(zeroImage)
	for at := range 3 {
		broken := zeroImage + ones(at) + "0"
		expectSlots(t, "broken, then eleven", broken+ones(11)+zeroImage, 0, length+at+12)
		expectSlots(t, "broken, then ten", broken+ones(10)+zeroImage+ones(4)+zeroImage, 0, length+at+11+length+4)
		expectSlots(t, "broken, then twenty", broken+ones(20)+zeroImage, 0, length+at+21)
		expectSlots(t, "broken, ten and eleven", broken+ones(10)+"0"+ones(11)+zeroImage, 0, length+at+23)
		expectSlots(t, "broken, then the end", broken, 0)
		expectSlots(t, "broken, ten and the end", broken+ones(10), 0)
		expectSlots(t, "broken, eleven and the end", broken+ones(11), 0)
	}
	expectSlots(t, "three levels", zeroImage+"111"+zeroImage, 0, length+3)
	expectSlots(t, "two levels", zeroImage+"11"+zeroImage+"1111"+zeroImage, 0, 2*length+6)
}

// The bit that makes it lost is not among the eleven, though it may be a 1.
func TestSniffLost(t *testing.T) {
	stuffed := impl.Encode(impl.Frame{Id: 0x7ff, Rtr: true})
	long := "0" + ones(6) // the sixth 1 is a stuff fault
	expectSlots(t, "a stuff fault of ones, then ten", long+ones(10)+zeroImage+ones(4)+zeroImage, len(long)+10+len(zeroImage)+4)
	expectSlots(t, "a stuff fault of ones, then eleven", long+ones(11)+zeroImage, len(long)+11)
	expectSlots(t, "a stuff fault of zeros", zeros(6)+ones(11)+zeroImage, 17)
	expectSlots(t, "a stuff fault of zeros, long", zeros(20)+ones(11)+zeroImage, 31)
	expectSlots(t, "over", zeroImage[:len(zeroImage)-1]+"0"+ones(11)+zeroImage, len(zeroImage)+11)
	expectSlots(t, "over, then ten", zeroImage[:len(zeroImage)-1]+"0"+ones(10)+stuffed)

	wrongSum := turned(zeroImage, 39)
	if impl.Judge(wrongSum[:43]).Code != impl.VerdictCrc {
		t.Fatal("a wrong sum")
	}
	// Behind FieldAckDel seven ones of the image are still to come.
	expectSlots(t, "a wrong sum, then ten", wrongSum+"111"+zeroImage)
	expectSlots(t, "a wrong sum, then eleven", wrongSum+"1111"+zeroImage, len(wrongSum)+4)
	form := turned(zeroImage, 40)
	expectSlots(t, "a wrong delimiter, then eleven", form+"11"+zeroImage, len(form)+2)
	expectSlots(t, "a wrong delimiter, then ten", form[:len(form)-1]+"1"+"1"+zeroImage)
}

// Any text at all: noise, images with some bits turned, and pieces of them.
func TestSniffByTheDice(t *testing.T) {
	d := dice(71)
	heard := 0
	for range 1500 {
		bus := ""
		for range 1 + d.roll(12) {
			switch d.roll(6) {
			case 0:
				bus += d.runs(d.roll(40))
			case 1:
				bus += ones(d.one(2, 3, 10, 11, 12))
			case 2:
				image := impl.Encode(d.anyFrame())
				bus += turned(image, d.roll(len(image))) + "111"
			case 3:
				image := impl.Encode(d.anyFrame())
				bus += image[:d.roll(len(image))]
			default:
				bus += withAck(impl.Encode(d.anyFrame()), d.text(1)) + ones(d.one(3, 3, 3, 2, 14))
			}
		}
		got, want := impl.Sniff(bus), slowSniff(bus)
		if len(got) != len(want) {
			t.Fatalf("Sniff(%q) = %+v, want %+v", bus, got, want)
		}
		var regions []region
		for i := range got {
			if !sameSlots(got[i], want[i]) {
				t.Fatalf("Sniff(%q) = %+v, want %+v", bus, got, want)
			}
			regions = append(regions, regionOf(got[i].F.Data))
		}
		expectApart(t, "slots", append(regions, regionOf(got))...)
		heard += len(got)
	}
	if heard < 1500 {
		t.Errorf("only %d frames were heard", heard)
	}
}
