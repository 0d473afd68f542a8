package core_test

import (
	"fmt"
	"testing"
)

// TestAdvice: it is told to the group's first link, ready or not, and answered at once.
func TestAdvice(t *testing.T) {
	p := played(t, config(), openShop, openVault, `
		in shop 0121 2=4111111111111111 4=000000001250 7=1115115958 11=000010 32=99 37=reference012 38=abcdef 39=00 41=terminal 52=$0102030405060708
		> shop 0130 2=4111111111111111 4=000000001250 7=1115115958 11=000010 32=99 37=reference012 39=00 41=terminal
		= bank queue 0120:2
		= shop counts 0 0 0 1 0 0 1 0 0 0 1250 0
		in shop 0220 11=000011 35=5555555555554444=30122011234
		> vault 1220 7=1115120000 11=000003 32=7 35=5555555555554444=30122011234 37=631912000003
		> shop 0230 11=000011 39=00
		= shop counts 0 0 0 2 0 0 2 0 0 0 1250 0`)
	p.queued("bank", 0, "0120 2=4111111111111111 4=000000001250 7=1115120000 11=000002 32=7 37=631912000002 38=abcdef 39=00 41=terminal 52=$0102030405060708")
}

// TestAdviceTwice: one with the key of one that was taken is answered with 00, and told once; its key is not that of a request, or of another link.
func TestAdviceTwice(t *testing.T) {
	played(t, config(), openShop, openTill, openBank, `
		in shop 0220 2=4111111111111111 4=000000001250 7=1115115958 11=000010
		> bank 0220 2=4111111111111111 4=000000001250 7=1115120000 11=000002 32=7 37=631912000002
		> shop 0230 2=4111111111111111 4=000000001250 7=1115115958 11=000010 39=00
		in shop 0221 2=4111111111111111 4=000000001250 7=1115115958 11=000010
		> shop 0230 2=4111111111111111 4=000000001250 7=1115115958 11=000010 39=00
		in shop 0220 2=1 7=1115115958 11=000010
		> shop 0230 2=1 7=1115115958 11=000010 39=00
		= bank queue 0220:2
		= shop counts 0 0 0 3 0 0 3 0 0 0 2500 0
		in shop 0120 2=4111111111111111 4=000000001250 7=1115115958 11=000010
		> shop 0130 2=4111111111111111 4=000000001250 7=1115115958 11=000010 39=00
		= bank queue 0220:2 0120:3
		in till 0220 2=4111111111111111 4=000000001250 7=1115115958 11=000010
		> till 0230 2=4111111111111111 4=000000001250 7=1115115958 11=000010 39=96
		in shop 0220 2=4111111111111111 4=000000001250 7=1115115958 11=000010 41=terminal
		> shop 0230 2=4111111111111111 4=000000001250 7=1115115958 11=000010 39=96 41=terminal
		in shop 0200 2=4111111111111111 4=000000001250 7=1115115958 11=000010
		> bank 0200 2=4111111111111111 4=000000001250 7=1115120000 11=000006 32=7 37=631912000006`)
}

// TestAdviceRefused: 15 ahead of 96; what is refused is not remembered, and its number is free.
func TestAdviceRefused(t *testing.T) {
	c := config()
	c.Numbers, c.Queue = 2, 1
	played(t, c, openShop, openBank, `
		in shop 0220 2=6011111111111117 11=000010
		> shop 0230 2=6011111111111117 11=000010 39=15
		in shop 0220 11=000010
		> shop 0230 11=000010 39=15
		in shop 0220 2=4111111111111112 11=000010
		> bank 0220 2=4111111111111112 7=1115120000 11=000002 32=7 37=631912000002
		> shop 0230 2=4111111111111112 11=000010 39=00
		in shop 0220 2=4111111111111111 11=000011
		> shop 0230 2=4111111111111111 11=000011 39=96
		in shop 0220 2=4111111111111111 11=000011
		> shop 0230 2=4111111111111111 11=000011 39=96
		= shop counts 0 0 0 5 0 0 1 0 0 0 0 0
		in shop 0200 2=4111111111111111 4=000000001250 11=000012
		> bank 0200 2=4111111111111111 4=000000001250 7=1115120000 11=000001 32=7 37=631912000001
		in bank 0230 11=000002
		in shop 0220 2=4111111111111111 11=000011
		> bank 0220 2=4111111111111111 7=1115120000 11=000002 32=7 37=631912000002
		> shop 0230 2=4111111111111111 11=000011 39=00
		in shop 0220 2=6011111111111117 11=000013
		> shop 0230 2=6011111111111117 11=000013 39=15
		in shop 0220 2=5555555555554444 11=000013
		> shop 0230 2=5555555555554444 11=000013 39=96
		= vault queue`)
}

// TestOldKeys: as many are remembered as Pending says, of advices and reversals together.
func TestOldKeys(t *testing.T) {
	c := config()
	c.Pending, c.Queue = 2, 100
	told := func(n int) string {
		return fmt.Sprintf("\nin shop 0220 2=5555555555554444 11=%06d\n> shop 0230 2=5555555555554444 11=%06d 39=00", n, n)
	}
	p := played(t, c, openShop, openBank, told(1), told(2), told(1), told(2), `
		= vault queue 0220:2 0220:3`, told(3), told(2), told(3), `
		= vault queue 0220:2 0220:3 0220:4`, told(1), `
		= vault queue 0220:2 0220:3 0220:4 0220:5`, told(1), told(3), told(2), `
		= vault queue 0220:2 0220:3 0220:4 0220:5 0220:6`)
	p.plays(asksOf(10, 7) + answersOf(7, "00") + `
		in shop 0420 11=000020 90=` + originalOf(10) + `
		> bank 0420 2=4111111111111111 4=000000001250 7=1115120000 11=000008 32=7 37=631912000007 90=020000000711151200000000000000700000000000
		> shop 0430 11=000020 39=00 90=` + originalOf(10) + `
		` + told(2) + `
		= vault queue 0220:2 0220:3 0220:4 0220:5 0220:6
		` + told(1) + `
		= vault queue 0220:2 0220:3 0220:4 0220:5 0220:6 0220:9
		in shop 0420 11=000020 90=` + originalOf(10) + `
		> shop 0430 11=000020 39=00 90=` + originalOf(10) + told(2) + `
		= vault queue 0220:2 0220:3 0220:4 0220:5 0220:6 0220:9 0220:10
		in shop 0420 11=000020 90=` + originalOf(10) + `
		> shop 0430 11=000020 39=25 90=` + originalOf(10))
}

// asksOf is a request of shop with a field 11, which goes to bank with a number.
func asksOf(n, number int) string {
	return fmt.Sprintf(`
		in shop 0200 2=4111111111111111 4=000000001250 7=1115115958 11=%06d
		> bank 0200 2=4111111111111111 4=000000001250 7=1115120000 11=%06d 32=7 37=631912%06d`, n, number, number)
}

// answersOf is bank's answer, which goes to shop as that to the field 11 that is three more than the number.
func answersOf(number int, code string) string {
	return fmt.Sprintf(`
		in bank 0210 11=%06d 39=%s
		> shop 0210 7=1115115958 11=%06d 39=%s`, number, code, number+3, code)
}

// originalOf is what a reversal says of a request of shop.
func originalOf(n int) string { return fmt.Sprintf("0200%06d11151159580000000000000000000000", n) }

// backs is a reversal of shop with a field 11, of a request of shop that went with a number, and what goes to bank.
func backs(n, of, number, went int) string {
	return fmt.Sprintf(`
		in shop 0420 11=%06d 90=%s
		> bank 0420 2=4111111111111111 4=000000001250 7=1115120000 11=%06d 32=7 37=631912%06d 90=0200%06d11151200000000000000700000000000
		> shop 0430 11=%06d 39=00 90=%s`, n, originalOf(of), number, went, went, n, originalOf(of))
}

// backed is a reversal of shop that is answered alone.
func backed(n int, original, code string) string {
	return fmt.Sprintf(`
		in shop 0420 11=%06d 90=%s
		> shop 0430 11=%06d 39=%s 90=%s`, n, original, n, code, original)
}

// TestReversal: it takes back what was done, once, and waits as long as it must.
func TestReversal(t *testing.T) {
	played(t, config(), openShop, openBank, `
		in shop 0420 11=000020
		> shop 0430 11=000020 39=12`, backed(20, originalOf(5), "25"), asksOf(5, 2), backed(20, originalOf(5), "21"), answersOf(2, "00"),
		backs(20, 5, 3, 2), backed(20, originalOf(5), "00"), backed(20, originalOf(6), "00"), backed(21, originalOf(5), "25"), `
		in shop 0421 11=000020
		> shop 0430 11=000020 39=00
		in shop 0421 11=000022
		> shop 0430 11=000022 39=12
		= bank queue 0420:3
		= shop counts 1 1 0 0 0 0 1 4 0 0 1250 0`)
}

// TestReversalCounted: by its own amount and kind.
func TestReversalCounted(t *testing.T) {
	played(t, config(), openShop, openBank, asksOf(5, 2), answersOf(2, "00"), `
		in shop 0420 3=200000 4=000000000007 11=000020 90=`+originalOf(5)+`
		> bank 0420 2=4111111111111111 4=000000001250 7=1115120000 11=000003 32=7 37=631912000002 90=020000000211151200000000000000700000000000
		> shop 0430 3=200000 4=000000000007 11=000020 39=00 90=`+originalOf(5)+`
		in shop 0420 3=000000 4=000000000007 11=000021 90=`+originalOf(5)+`
		> shop 0430 3=000000 4=000000000007 11=000021 39=25 90=`+originalOf(5)+`
		= shop counts 1 1 0 0 0 1 1 0 0 7 1250 0`)
}

// TestWhatIsMeant: the link, the class, the fields 11 and 7; nothing else is looked at.
func TestWhatIsMeant(t *testing.T) {
	for _, original := range []string{
		"010000000511151159580000000000000000000000", "030000000511151159580000000000000000000000", "220000000511151159580000000000000000000000",
		"020500000511151159580000000000000000000000", "042000000511151159580000000000000000000000", "080000000511151159580000000000000000000000", "000000000511151159580000000000000000000000",
		"020000000411151159580000000000000000000000", "020000000511151159590000000000000000000000", "020000000501151159580000000000000000000000",
	} {
		played(t, config(), openShop, openBank, asksOf(5, 2), backed(20, original, "25"), answersOf(2, "00"), backed(20, original, "25"), backs(20, 5, 3, 2))
	}
	for _, original := range []string{
		"020100000511151159589999999999999999999999", "120000000511151159580000000000000000000000", "022100000511151159580000000000000000000000", "121000000511151159580000000000000000000000",
	} {
		played(t, config(), openShop, openBank, asksOf(5, 2), backed(20, original, "21"), answersOf(2, "00"), `
			in shop 0420 11=000020 90=`+original+`
			> bank 0420 2=4111111111111111 4=000000001250 7=1115120000 11=000003 32=7 37=631912000002 90=020000000211151200000000000000700000000000
			> shop 0430 11=000020 39=00 90=`+original)
	}
	played(t, config(), openShop, openTill, openBank, asksOf(5, 2), `
		in till 0420 11=000020 90=`+originalOf(5)+`
		> till 0430 11=000020 39=25 90=`+originalOf(5), answersOf(2, "00"), `
		in till 0420 11=000020 90=`+originalOf(5)+`
		> till 0430 11=000020 39=25 90=`+originalOf(5))
}

// TestTerminalsDoNotMatter: of two requests that differ by their terminals alone one that waits is told, and then the oldest one that was done.
func TestTerminalsDoNotMatter(t *testing.T) {
	one, two := "7=1115115958 11=000005 41=terminal", "7=1115115958 11=000005"
	ask := func(fields string, number int) string {
		return fmt.Sprintf(`
			in shop 0200 2=4111111111111111 4=00000000000%d %s
			> bank 0200 2=4111111111111111 4=00000000000%d 7=1115120000 11=%06d 32=7 37=631912%06d%s`, number, fields, number, number, number, fields[22:])
	}
	back := func(n, number, went int, terminal string) string {
		return fmt.Sprintf(`
			in shop 0420 11=%06d 90=%s
			> bank 0420 2=4111111111111111 4=00000000000%d 7=1115120000 11=%06d 32=7 37=631912%06d%s 90=0200%06d11151200000000000000700000000000
			> shop 0430 11=%06d 39=00 90=%s
			in bank 0430 11=%06d`, n, originalOf(5), went, number, went, terminal, went, n, originalOf(5), number)
	}
	played(t, config(), openShop, openBank, ask(one, 2), ask(two, 3), backed(20, originalOf(5), "21"), `
		in bank 0210 11=000003 39=00
		> shop 0210 7=1115115958 11=000005 39=00`, backed(20, originalOf(5), "21"), `
		in bank 0210 11=000002 39=00
		> shop 0210 7=1115115958 11=000005 39=00`, back(20, 4, 3, ""), back(21, 5, 2, " 41=terminal"), backed(22, originalOf(5), "25"))
	played(t, config(), openShop, openBank, ask(one, 2), ask(two, 3), `
		in bank 0210 11=000003 39=00
		> shop 0210 7=1115115958 11=000005 39=00
		tick 5
		> shop 0210 2=4111111111111111 4=000000000002 7=1115115958 11=000005 39=68 41=terminal
		> bank 0420 2=4111111111111111 4=000000000002 7=1115120005 11=000004 32=7 37=631912000002 41=terminal 90=020000000211151200000000000000700000000000
		in bank 0430 11=000004
		in shop 0420 11=000020 90=`+originalOf(5)+`
		> bank 0420 2=4111111111111111 4=000000000003 7=1115120005 11=000005 32=7 37=631912000003 90=020000000311151200000000000000700000000000
		> shop 0430 11=000020 39=00 90=`+originalOf(5))
}

// TestNotDone: what was declined, or timed out, or answered late.
func TestNotDone(t *testing.T) {
	played(t, config(), openShop, openBank, asksOf(5, 2), answersOf(2, "91"), backed(20, originalOf(5), "25"), asksOf(6, 3), `
		in bank 0210 11=000003
		> shop 0210 7=1115115958 11=000006`, backed(20, originalOf(6), "25"), asksOf(7, 4), `
		tick 5
		> shop 0210 2=4111111111111111 4=000000001250 7=1115115958 11=000007 39=68
		> bank 0420 2=4111111111111111 4=000000001250 7=1115120005 11=000005 32=7 37=631912000004 90=020000000411151200000000000000700000000000`,
		backed(20, originalOf(7), "25"), `
		in bank 0210 11=000004 39=00`, backed(20, originalOf(7), "25"))
}

// TestDoneAgain: the same request, done twice, is taken back twice.
func TestDoneAgain(t *testing.T) {
	c := config()
	c.Queue = 9
	played(t, c, openShop, openBank, asksOf(5, 2), answersOf(2, "00"), `
		in shop 0200 2=4111111111111111 4=000000000001 7=1115115958 11=000005
		> bank 0200 2=4111111111111111 4=000000000001 7=1115120000 11=000003 32=7 37=631912000003
		in bank 0210 11=000003 39=00
		> shop 0210 7=1115115958 11=000005 39=00`,
		backs(20, 5, 4, 2), backed(20, originalOf(5), "00"), `
		= bank queue 0420:4
		in bank 0430 11=000004
		in shop 0420 11=000021 90=`+originalOf(5)+`
		> bank 0420 2=4111111111111111 4=000000000001 7=1115120000 11=000005 32=7 37=631912000003 90=020000000311151200000000000000700000000000
		> shop 0430 11=000021 39=00 90=`+originalOf(5), backed(22, originalOf(5), "25"))
}

// TestOldDone: as many are remembered as Pending says, the newest ones.
func TestOldDone(t *testing.T) {
	c := config()
	c.Pending, c.Queue = 2, 9
	played(t, c, openShop, openBank, asksOf(5, 2), answersOf(2, "00"), asksOf(6, 3), answersOf(3, "00"), asksOf(7, 4), answersOf(4, "00"),
		backed(20, originalOf(5), "25"), backs(20, 7, 5, 4), asksOf(9, 6), answersOf(6, "00"), backed(21, originalOf(7), "25"), `
		in bank 0430 11=000005`, backs(21, 6, 7, 3), `
		in bank 0430 11=000007`, backs(22, 9, 8, 6))
}

// TestCantTakeBack: 96; the request stays done, and the reversal is not remembered.
func TestCantTakeBack(t *testing.T) {
	c := config()
	c.Queue, c.Numbers = 1, 4
	played(t, c, openShop, openBank, asksOf(5, 2), answersOf(2, "00"), asksOf(6, 3), answersOf(3, "00"), backs(20, 5, 4, 2),
		backed(21, originalOf(6), "96"), backed(21, originalOf(6), "96"), `
		in bank 0430 11=000004`, backs(21, 6, 3, 3), backed(21, originalOf(6), "00"))
	c.Numbers = 2
	played(t, c, openShop, openBank, asksOf(5, 2), answersOf(2, "00"), asksOf(7, 1), asksOf(8, 2),
		backed(20, originalOf(5), "96"), `
		in bank 0210 11=000001 39=91
		> shop 0210 7=1115115958 11=000007 39=91`, backs(20, 5, 1, 2))
}

// TestReversalOfStandIn: of the advice, over the link for which it was laid down; the approval counts no more.
func TestReversalOfStandIn(t *testing.T) {
	c := config()
	c.Queue = 9
	original := "020000001011151159580000000000000000000000"
	p := played(t, c, openShop, `
		tick 2
		in shop 0200 2=5555555555554444 3=000000 4=000000000100 7=1115115958 11=000010 41=terminal
		> shop 0210 2=5555555555554444 3=000000 4=000000000100 7=1115115958 11=000010 38=000001 39=00 41=terminal
		in shop 0200 2=5555555555554444 4=000000000001 7=1115115958 11=000011
		> shop 0210 2=5555555555554444 4=000000000001 7=1115115958 11=000011 39=91
		tick 1
		in shop 0420 11=000020 90=`+original+`
		> shop 0430 11=000020 39=00 90=`+original+`
		= vault queue 0220:1 0420:3
		= bank queue
		in shop 0200 2=5555555555554444 4=000000000100 7=1115115958 11=000011
		> shop 0210 2=5555555555554444 4=000000000100 7=1115115958 11=000011 38=000004 39=00
		in shop 0420 11=000021 90=`+original+`
		> shop 0430 11=000021 39=25 90=`+original)
	p.queued("vault", 1, "0420 2=5555555555554444 3=000000 4=000000000100 7=1115120003 11=000003 32=7 37=631912000001 38=000001 41=terminal 90=022000000111151200020000000000700000000000")
}

// TestReversalOfStandInRefused: the approval still counts.
func TestReversalOfStandInRefused(t *testing.T) {
	c := config()
	c.Queue = 1
	original := "020000001011151159580000000000000000000000"
	played(t, c, openShop, `
		in shop 0200 2=5555555555554444 4=000000000100 7=1115115958 11=000010
		> shop 0210 2=5555555555554444 4=000000000100 7=1115115958 11=000010 38=000001 39=00`,
		backed(20, original, "96"), `
		up vault
		> vault 1800 7=1115120000 11=000003 70=001
		in vault 1810 39=00 70=001
		> vault 1220 2=5555555555554444 4=000000000100 7=1115120000 11=000001 32=7 37=631912000001 38=000001 39=00
		in vault 1230 11=000001
		down vault
		in shop 0200 2=5555555555554444 4=000000000000 7=1115115958 11=000011
		> shop 0210 2=5555555555554444 4=000000000000 7=1115115958 11=000011 39=91`,
		backed(20, original, "00"), `
		= vault queue 0420:5
		up vault
		> vault 1800 7=1115120000 11=000006 70=001
		in vault 1810 39=00 70=001
		> vault 1420 2=5555555555554444 4=000000000100 7=1115120000 11=000005 32=7 37=631912000001 38=000001 90=022000000111151200000000000000700000000000
		in vault 1430 11=000005
		down vault
		in shop 0200 2=5555555555554444 4=000000000100 7=1115115958 11=000011
		> shop 0210 2=5555555555554444 4=000000000100 7=1115115958 11=000011 38=000007 39=00`)
}

// TestReversalIsNoApprovals: one of a request that was asked leaves the stand-in book as it is.
func TestReversalIsNoApprovals(t *testing.T) {
	played(t, config(), openShop, `
		in shop 0200 2=5555555555554444 4=000000000100 7=1115115958 11=000010
		> shop 0210 2=5555555555554444 4=000000000100 7=1115115958 11=000010 38=000001 39=00
		up vault
		> vault 1800 7=1115120000 11=000002 70=001
		in vault 1810 39=00 70=001
		> vault 1220 2=5555555555554444 4=000000000100 7=1115120000 11=000001 32=7 37=631912000001 38=000001 39=00
		in vault 1230 11=000001
		in shop 0200 2=5555555555554444 4=000000000100 7=1115115958 11=000011
		> vault 1200 2=5555555555554444 4=000000000100 7=1115120000 11=000003 32=7 37=631912000003
		in vault 1210 11=000003 39=00
		> shop 0210 7=1115115958 11=000011 39=00
		in shop 0420 11=000020 90=020000001111151159580000000000000000000000
		> vault 1420 2=5555555555554444 4=000000000100 7=1115120000 11=000004 32=7 37=631912000003 90=020000000311151200000000000000700000000000
		> shop 0430 11=000020 39=00 90=020000001111151159580000000000000000000000
		down vault
		in shop 0200 2=5555555555554444 4=000000000100 7=1115115958 11=000012
		> shop 0210 2=5555555555554444 4=000000000100 7=1115115958 11=000012 39=91`)
}

// TestSettle: 00, if it agrees; then it is counted anew; else 95. The totals are told as they were.
func TestSettle(t *testing.T) {
	none := "74=0000000000 75=0000000000 76=0000000000 77=0000000000 86=0000000000000000 87=0000000000000000 88=0000000000000000 89=0000000000000000"
	one := "74=0000000000 75=0000000000 76=0000000001 77=0000000000 86=0000000000000000 87=0000000000000000 88=0000000000001250 89=0000000000000000"
	played(t, config(), openShop, openTill, openBank, `
		in shop 0500 7=1115115958 11=000010 41=terminal
		> shop 0510 7=1115115958 11=000010 39=00 41=terminal 66=1 `+none, asksOf(5, 2), answersOf(2, "00"), `
		in shop 0501 11=000011 66=9 76=0000000002
		> shop 0510 11=000011 39=95 66=2 `+one+`
		in shop 0500 11=000011 86=0000000000000000 88=0000000000001251
		> shop 0510 11=000011 39=95 66=2 `+one+`
		= shop counts 1 1 0 0 0 0 1 0 0 0 1250 0
		in till 0500 11=000011 76=0000000000
		> till 0510 11=000011 39=00 66=1 `+none+`
		in shop 0500 11=000011 76=0000000001 88=0000000000001250
		> shop 0510 11=000011 39=00 66=1 `+one+`
		= shop counts 0 0 0 0 0 0 0 0 0 0 0 0
		in shop 0500 11=000011 76=0000000001
		> shop 0510 11=000011 39=95 66=2 `+none+`
		in shop 0500 `+none+`
		> shop 0510 39=00 66=1 `+none)
}
