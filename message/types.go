package message

// Where the digits of a type stand, and how many it has.
const (
	versionAt = iota
	classAt
	functionAt
	originAt
	typeDigits
)

// rightFunction tells whether messages of a class have a function.
func rightFunction(class, function byte) bool {
	switch class {
	case '1', '2':
		return '0' <= function && function <= '3'
	case '4':
		return function == '2' || function == '3'
	case '5', '8':
		return function == '0' || function == '1'
	}
	return false
}

// rightOrigin tells whether messages of a function have an origin: an answer is not sent again.
func rightOrigin(function, origin byte) bool {
	return origin == '0' || origin == '1' && isAsking(function)
}

func isAsking(function byte) bool { return function == '0' || function == '2' }

func digitAt(mti string, place int) int {
	if !Right(mti) {
		return 0
	}
	return int(mti[place] - '0')
}

// asks tells whether messages of a type are answered.
func asks(mti string) bool { return Right(mti) && isAsking(mti[functionAt]) }

// isOfCards tells whether it is the type of a message that asks for something of a card, tells of it, or answers that.
func isOfCards(mti string) bool {
	class := Class(mti)
	return class == 1 || class == 2
}
