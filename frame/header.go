package frame

import "turnstile/api"

// widest is how many bytes the longest header has.
const widest = 4

// right tells whether there is such a kind of header, and a message may have so many bytes.
func right(header, most int) bool {
	return width(header) > 0 && most >= 1 && most <= api.MaxSize
}

// width is how many bytes a header has; 0: there is no such kind.
func width(header int) int {
	switch header {
	case api.HeadTwo, api.HeadBCD, api.HeadWhole:
		return 2
	case api.HeadFour:
		return 4
	}
	return 0
}

// told is how many bytes a message has by its header; or what is wrong with that.
func told(header, most int, head []byte) (int, api.Errno) {
	n, ok := number(header, head)
	switch {
	case !ok:
		return 0, api.ErrHeader
	case n > most:
		return 0, api.ErrLong
	}
	return n, api.OK
}

// number is how many bytes follow a header; false: it tells of no number.
func number(header int, head []byte) (int, bool) {
	two := int(head[0])<<8 | int(head[1])
	switch header {
	case api.HeadFour:
		return decimal(head[0]-'0', head[1]-'0', head[2]-'0', head[3]-'0')
	case api.HeadBCD:
		return decimal(head[0]>>4, head[0]&15, head[1]>>4, head[1]&15)
	case api.HeadWhole:
		return two - 2, two >= 2
	}
	return two, true
}

// decimal is the number that digits make, the highest first; false: one of them is above 9.
func decimal(digits ...byte) (int, bool) {
	n := 0
	for _, d := range digits {
		if d > 9 {
			return 0, false
		}
		n = n*10 + int(d)
	}
	return n, true
}

// written is the header of a message of so many bytes.
func written(header, n int) string {
	switch header {
	case api.HeadFour:
		return string([]byte{'0' + digit(n, 1000), '0' + digit(n, 100), '0' + digit(n, 10), '0' + digit(n, 1)})
	case api.HeadBCD:
		return string([]byte{digit(n, 1000)<<4 | digit(n, 100), digit(n, 10)<<4 | digit(n, 1)})
	case api.HeadWhole:
		n += 2
	}
	return string([]byte{byte(n >> 8), byte(n)})
}

// digit is the digit of a number at a power of ten.
func digit(n, power int) byte { return byte(n / power % 10) }
