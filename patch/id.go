package patch

// Id is the id of a patch. No patch has the zero Id: it stands where there is none.
type Id [4]byte

// IdOf makes an id of a word that is one.
func IdOf(word string) Id {
	var id Id
	copy(id[:], word)
	return id
}

func (id Id) String() string {
	return string(id[:])
}
