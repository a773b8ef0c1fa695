package parse

import "stitch/api"

// Words cuts a command into its words; false, if it is no command.
func Words(command string) ([]string, bool) {
	if hasOver(command, api.MaxCommand) {
		return nil, false
	}
	words := split(command)
	if !isCommand(words) {
		return nil, false
	}
	return words, true
}

// split parts at the space alone; the library's own ways of parting would take tabs and newlines too.
func split(command string) []string {
	var words []string
	start := 0
	for i, r := range command {
		if r == ' ' {
			words = appendWord(words, command[start:i])
			start = i + 1
		}
	}
	return appendWord(words, command[start:])
}

// appendWord leaves out the empty word, which stands between two spaces that follow each other.
func appendWord(words []string, word string) []string {
	if word == "" {
		return words
	}
	return append(words, word)
}

func isCommand(words []string) bool {
	if len(words) == 0 {
		return false
	}
	rest := words[1:]
	switch words[0] {
	case "record":
		return len(rest) >= 1 && isId(rest[0]) && areNames(rest[1:])
	case "unrecord", "obliterate", "show", "swap":
		return len(rest) == 1 && isId(rest[0])
	case "pull":
		return isPull(rest)
	case "revert", "new", "log", "order":
		return len(rest) == 0
	}
	return false
}

func isPull(rest []string) bool {
	switch len(rest) {
	case 1:
		return isRepo(rest[0])
	case 2:
		return isRepo(rest[0]) && isId(rest[1])
	}
	return false
}

func isRepo(word string) bool {
	return word == "0" || word == "1" || word == "2"
}
