package stitch_test

import (
	"slices"
	"strings"
	"testing"
	"unicode/utf8"

	"stitch/api"
	"stitch/stitch"
)

// fullLine is as long as a line may be, and sixteen of it are just MaxText bytes: all limits at once.
const fullLine = "abcdefghijωω\n"

func TestP3LinesOfTexts(t *testing.T) {
	for _, c := range []struct {
		text string
		want []string
	}{
		{"", nil},
		{"a", []string{"a"}},
		{"\n", []string{"\n"}},
		{"a\n", []string{"a\n"}},
		{"a\nb", []string{"a\n", "b"}},
		{"\n\n", []string{"\n", "\n"}},
		{"\na", []string{"\n", "a"}},
		{"a\n\nb\n", []string{"a\n", "\n", "b\n"}},
		{" \n ", []string{" \n", " "}},
		{"a\n\x00", []string{"a\n", "\x00"}},
		{"a\r\nb\rc", []string{"a\r\n", "b\rc"}},
		{"a\u2028b\u0085c\vd\fe", []string{"a\u2028b\u0085c\vd\fe"}},
	} {
		linesAre(t, c.text, c.want)
	}
}

func TestP3LineLength(t *testing.T) {
	for _, r := range []string{"x", " ", "\t", "\r", "\x00", "ω", "€", "𝄞", "\xff", "\x80", "\xce", "\ufffd"} {
		twelve, thirteen := strings.Repeat(r, 12), strings.Repeat(r, 13)
		linesAre(t, twelve, []string{twelve})
		linesAre(t, twelve+"\n", []string{twelve + "\n"})
		linesAre(t, twelve+"\n"+twelve, []string{twelve + "\n", twelve})
		linesAre(t, "\n"+twelve+"\n\n", []string{"\n", twelve + "\n", "\n"})
		linesRefused(t, thirteen)
		linesRefused(t, thirteen+"\n")
		linesRefused(t, "a\n"+thirteen)
		linesRefused(t, thirteen+"\na")
		linesRefused(t, "a\n"+thirteen+"\na\n")
	}
}

// Each byte that is part of no rune is one rune, also if several look like one.
func TestP3BytesOfNoRune(t *testing.T) {
	for _, bytes := range []string{"\xff\xfe", "\xe2\x82", "\xce\xce", "\xed\xa0\x80", "\xc0\x8a", "\xf0\x9d\x84", "\xf4\x90\x80\x80"} {
		twelve := strings.Repeat(bytes, 12/len(bytes))
		linesAre(t, twelve, []string{twelve})
		linesAre(t, twelve+"\n"+twelve+"\n", []string{twelve + "\n", twelve + "\n"})
		linesRefused(t, twelve+"a")
		linesRefused(t, twelve+"\xff\n")
	}
	linesAre(t, "\xce\n\xb1", []string{"\xce\n", "\xb1"})
	linesAre(t, "\xff", []string{"\xff"})
}

func TestP3NumberOfLines(t *testing.T) {
	linesAre(t, strings.Repeat("\n", 16), slices.Repeat([]string{"\n"}, 16))
	linesAre(t, strings.Repeat("a\n", 15)+"b", append(slices.Repeat([]string{"a\n"}, 15), "b"))
	linesRefused(t, strings.Repeat("\n", 17))
	linesRefused(t, strings.Repeat("a\n", 16)+"b")
}

func TestP3Bytes(t *testing.T) {
	full := strings.Repeat(fullLine, 16)
	if len(full) != 240 {
		t.Fatalf("the full text has %d bytes", len(full))
	}
	linesAre(t, full, slices.Repeat([]string{fullLine}, 16))
	linesRefused(t, strings.Replace(full, "a", "ω", 1))
	linesRefused(t, strings.Repeat("€€€€€\n", 15)+"x")
	wide := strings.Repeat("𝄞", 12) + "\n"
	linesAre(t, strings.Repeat(wide, 4), slices.Repeat([]string{wide}, 4))
	linesRefused(t, strings.Repeat(wide, 5))
}

func TestP3AllShortTexts(t *testing.T) {
	everyText([]string{"a", "\n", "ω", "\xff", "\xcf"}, 6, func(text string) {
		want := slices.DeleteFunc(strings.SplitAfter(text, "\n"), func(s string) bool { return s == "" })
		linesAre(t, text, want)
	})
}

// Around all limits at once: what may be and what may not is worked out anew, with the library's means.
func TestP3AroundTheLimits(t *testing.T) {
	for lines := 14; lines <= 18; lines++ {
		for runes := 10; runes <= 14; runes++ {
			for wide := 0; wide <= 4; wide++ {
				for _, end := range []string{"", "z", "zzzzzzzzzzzz", "zzzzzzzzzzzzz"} {
					line := strings.Repeat("€", wide) + strings.Repeat("a", runes-wide) + "\n"
					text := strings.Repeat(line, lines) + end
					if mayBe(text) {
						linesAre(t, text, slices.DeleteFunc(strings.SplitAfter(text, "\n"), func(s string) bool { return s == "" }))
					} else {
						linesRefused(t, text)
					}
				}
			}
		}
	}
}

func mayBe(text string) bool {
	lines := strings.Split(text, "\n")
	if lines[len(lines)-1] == "" {
		lines = lines[:len(lines)-1]
	}
	for _, line := range lines {
		if utf8.RuneCountInString(line) > 12 {
			return false
		}
	}
	return len(text) <= 240 && len(lines) <= 16
}

// everyText goes through all texts of at most most pieces.
func everyText(pieces []string, most int, each func(string)) {
	each("")
	if most == 0 {
		return
	}
	for _, piece := range pieces {
		everyText(pieces, most-1, func(rest string) { each(piece + rest) })
	}
}

func linesAre(t *testing.T, text string, want []string) {
	t.Helper()
	if got, err := stitch.Lines(text); !slices.Equal(got, want) || err != api.OK {
		t.Errorf("P3: Lines(%q) = %q, %d, want %q", text, got, err, want)
	}
}

func linesRefused(t *testing.T, text string) {
	t.Helper()
	if got, err := stitch.Lines(text); len(got) != 0 || err != api.ErrText {
		t.Errorf("P3: Lines(%.300q) = %q, %d, want ErrText", text, got, err)
	}
}
