package stitch_test

import (
	"regexp"
	"slices"
	"strings"
	"testing"
	"unicode/utf8"

	"stitch/api"
	"stitch/stitch"
)

// commands are all kinds of commands, each with one space between its words.
func commands() []string {
	return []string{
		"record 00ff", "record 00ff a", "record 00ff a b a", "record abcd αω ς eighteig αααααααα", "record 9999 z",
		"record 0000 record", "unrecord 0001", "obliterate abcd", "show 9999", "swap ffff",
		"pull 0", "pull 1", "pull 2", "pull 0 00ff", "pull 1 00ff", "pull 2 0123",
		"revert", "new", "log", "order",
	}
}

func TestP4Commands(t *testing.T) {
	for _, command := range commands() {
		want := strings.Split(command, " ")
		wordsAre(t, command, want)
		wordsAre(t, " "+command, want)
		wordsAre(t, command+" ", want)
		wordsAre(t, "   "+strings.ReplaceAll(command, " ", "  ")+"  ", want)
	}
	wordsAre(t, "  record 00ff  a ", []string{"record", "00ff", "a"})
}

func TestP4NumberOfRunes(t *testing.T) {
	for _, command := range commands() {
		want := strings.Split(command, " ")
		room := strings.Repeat(" ", 120-utf8.RuneCountInString(command))
		wordsAre(t, room+command, want)
		wordsAre(t, command+room, want)
		wordsAre(t, strings.Replace(command, " ", " "+room, 1), want)
		wordsRefused(t, room+" "+command)
		wordsRefused(t, command+" "+room)
	}
	// With the space behind it 120 runes, but far more bytes.
	names := slices.Repeat([]string{"ωωωωωωωω"}, 12)
	long := "record 00ff " + strings.Join(names, " ")
	wordsAre(t, long+" ", append([]string{"record", "00ff"}, names...))
	wordsRefused(t, long+"  ")
	wordsRefused(t, strings.Repeat(" ", 120))
	wordsRefused(t, "record 00ff "+strings.Repeat("\xff", 108))
}

func TestP4NoCommands(t *testing.T) {
	for _, command := range []string{
		"", " ", "    ", "lo", "logs", "Log", "LOG", "log log", "log 1", "new a", "order 0001", "revert a", "revert 0",
		"a", "0001", "record", "record a", "record a 0001", "record 00F0", "record 00FF", "record 123", "record 12345",
		"record 000g", "record 00/0", "record 00:0", "record 00`0", "record 00ω", "record ωω", "record 00\xff0", "record ０000",
		"record 00ff A", "record 00ff a1", "record 00ff a-b", "record 00ff 0001", "record 00ff ninelette", "record 00ff ωωωωωωωωω",
		"record 00ff a A", "record 00ff A a", "record 00ff ά", "record 00ff \u03b0", "record 00ff \u03ca", "record 00ff Α", "record 00ff `",
		"record 00ff {", "record 00ff a\xff", "record 00ff \xce", "record 00ff \ufffd", "record00ff", "recor d 00ff",
		"unrecord", "unrecord a", "unrecord 0001 a", "unrecord 0001 0002", "obliterate", "obliterate 0001 0002", "show", "show 00ff a",
		"swap", "swap 0001 0002", "swap 001", "pull", "pull 3", "pull -1", "pull 01", "pull 00", "pull 0001", "pull 0001 0", "pull /",
		"pull a", "pull ω", "pull ٠", "pull 0 0", "pull 0 12345", "pull 0 1234 a", "pull 0 1234 1234", "pull 3 0001", "pull 0 a",
		"\tlog", "log\t", "log\n", "\nlog", "log\r", "log\x00", "record\t0001", "record\n0001", "record 0001\ta", "order\u00a0", "\u2003order",
		"log\xff", "\xfflog", "\xff",
	} {
		wordsRefused(t, command)
	}
}

// The commands once more, as one pattern, held against all short rows of words.
func TestP4AllRowsOfWords(t *testing.T) {
	id, name := "[0-9a-f]{4}", "[a-z\u03b1-\u03c9]{1,8}"
	pattern := regexp.MustCompile("^(record " + id + "( " + name + ")*|(unrecord|obliterate|show|swap) " + id + "|pull [012]( " + id + ")?|revert|new|log|order)$")
	pieces := []string{
		" record", " unrecord", " obliterate", " show", " swap", " pull", " revert", " new", " log", " order",
		" 0", " 1", " 2", " 3", " 00ff", " abcd", " 00fg", " a", " eighteig", " ninelette", " ωωωωωωωω", " ωωωωωωωωω", " A", " \xff", "\n",
	}
	everyText(pieces, 3, func(text string) {
		command := strings.TrimPrefix(text, " ")
		if pattern.MatchString(command) {
			wordsAre(t, text, strings.Split(command, " "))
		} else {
			wordsRefused(t, text)
		}
	})
}

func wordsAre(t *testing.T, command string, want []string) {
	t.Helper()
	if got, err := stitch.Words(command); !slices.Equal(got, want) || err != api.OK {
		t.Errorf("P4: Words(%q) = %q, %d, want %q", command, got, err, want)
	}
}

func wordsRefused(t *testing.T, command string) {
	t.Helper()
	if got, err := stitch.Words(command); len(got) != 0 || err != api.ErrCommand {
		t.Errorf("P4: Words(%.300q) = %q, %d, want ErrCommand", command, got, err)
	}
}
