package lab

import "drayman/api"

// bad is what reading a line panics with that has no right form.
type bad struct{}

// kind is what an argument may be.
type kind int

const (
	number kind = iota
	signed
	hex
)

// argument is a number, modulo 2^64, or bytes.
type argument struct {
	n uint64
	b []byte
}

// parsed returns the arguments, which have to be just of these kinds.
func parsed(words []string, kinds ...kind) []argument {
	if len(words) != len(kinds) {
		panic(bad{})
	}
	l := make([]argument, len(words))
	for i, word := range words {
		switch kinds[i] {
		case number:
			l[i].n = numberOf(word)
		case signed:
			l[i].n = signedOf(word)
		case hex:
			l[i].b = bytesOf(word)
		}
	}
	return l
}

// crash returns the arguments of a crash, which end with any number of digits.
func crash(words []string) (uint8, api.Loss) {
	if len(words) < 2 {
		panic(bad{})
	}
	a := parsed(words[:2], number, number)
	loss := api.Loss{Torn: int(a[1].n) - 1}
	for _, word := range words[2:] {
		if word != "0" && word != "1" {
			panic(bad{})
		}
		loss.Keep = append(loss.Keep, word == "1")
	}
	return uint8(a[0].n), loss
}

// mostDigits is how many digits a number has, so that any is below 2^64.
const mostDigits = 19

func numberOf(word string) uint64 {
	if word == "" || len(word) > mostDigits || word[0] == '0' && word != "0" {
		panic(bad{})
	}
	n := uint64(0)
	for i := range len(word) {
		if word[i] < '0' || word[i] > '9' {
			panic(bad{})
		}
		n = 10*n + uint64(word[i]-'0')
	}
	return n
}

func signedOf(word string) uint64 {
	if word == "" || word[0] != '-' {
		return numberOf(word)
	}
	n := numberOf(word[1:])
	if n == 0 {
		panic(bad{})
	}
	return -n
}

const hexDigits = "0123456789abcdef"

func bytesOf(word string) []byte {
	if word == "-" {
		return nil
	}
	if word == "" || len(word)%2 != 0 {
		panic(bad{})
	}
	b := make([]byte, len(word)/2)
	for i := range b {
		b[i] = nibble(word[2*i])<<4 | nibble(word[2*i+1])
	}
	return b
}

func nibble(c byte) byte {
	switch {
	case c >= '0' && c <= '9':
		return c - '0'
	case c >= 'a' && c <= 'f':
		return c - 'a' + 10
	}
	panic(bad{})
}

func hexOf(b []byte) string {
	out := make([]byte, 0, 2*len(b))
	for _, x := range b {
		out = append(out, hexDigits[x>>4], hexDigits[x&15])
	}
	return string(out)
}
