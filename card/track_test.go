package card_test

import (
	"math/rand"
	"regexp"
	"strings"
	"testing"

	"turnstile/api"
	"turnstile/card"
)

// aTrack is the chapter's words as a pattern; the bound of all is asked beside it.
var aTrack = regexp.MustCompile(`\A([0-9]{1,19})=([0-9]{2}(?:0[1-9]|1[0-2])|=)([0-9]{3}|=)([0-9]*)\z`)

// wanted is what ReadTrack must answer: a plain second reading of the chapter.
func wanted(s string) (api.Track, api.Errno, int) {
	if len(s) > 37 {
		return api.Track{}, api.ErrTrack, 37
	}
	if p := aTrack.FindStringSubmatch(s); p != nil {
		return api.Track{PAN: p[1], Expiry: strings.TrimPrefix(p[2], "="), Service: strings.TrimPrefix(p[3], "="), Rest: p[4]}, api.OK, 0
	}
	at := 0
	for at < len(s) && goesOn(s[:at+1]) {
		at++
	}
	return api.Track{}, api.ErrTrack, at
}

// goesOn tells whether something can be put behind a text that makes it a track.
func goesOn(s string) bool {
	for _, behind := range []string{"", "0", "00", "=", "1=", "01=", "001=", "==", "===", "1==="} {
		if aTrack.MatchString(s + behind) {
			return true
		}
	}
	return false
}

func checkRead(t *testing.T, s string) {
	t.Helper()
	want, e, at := wanted(s)
	if got, gotE, gotAt := card.ReadTrack(s); got != want || gotE != e || gotAt != at {
		t.Errorf("C4: ReadTrack(%q) = %q, %d, %d, want %q, %d, %d", s, got, gotE, gotAt, want, e, at)
	}
}

// rightTracks have each part in each form, and go up to the bound.
func rightTracks() map[string]api.Track {
	ten := "0123456789"
	return map[string]api.Track{
		"4111111111111111=30122011234":   {PAN: "4111111111111111", Expiry: "3012", Service: "201", Rest: "1234"},
		"41===":                          {PAN: "41"},
		"0===":                           {PAN: "0"},
		"1==201":                         {PAN: "1", Service: "201"},
		"1==2019":                        {PAN: "1", Service: "201", Rest: "9"},
		"1==3012":                        {PAN: "1", Service: "301", Rest: "2"},
		"1===201":                        {PAN: "1", Rest: "201"},
		"1=0001=9":                       {PAN: "1", Expiry: "0001", Rest: "9"},
		"1=3009201":                      {PAN: "1", Expiry: "3009", Service: "201"},
		"1=9910=":                        {PAN: "1", Expiry: "9910"},
		"1=3011999201":                   {PAN: "1", Expiry: "3011", Service: "999", Rest: "201"},
		ten + ten[1:] + "=3012201" + ten: {PAN: ten + ten[1:], Expiry: "3012", Service: "201", Rest: ten},
		ten + ten[1:] + "===12345" + ten: {PAN: ten + ten[1:], Rest: "12345" + ten},
		"1===000" + ten + ten + ten:      {PAN: "1", Rest: "000" + ten + ten + ten},
		"1=3012=" + ten + ten + ten:      {PAN: "1", Expiry: "3012", Rest: ten + ten + ten},
		"1==2010" + ten + ten + ten:      {PAN: "1", Service: "201", Rest: "0" + ten + ten + ten},
	}
}

func TestReadTrackOfTracks(t *testing.T) {
	for s, want := range rightTracks() {
		if x, e, at := card.ReadTrack(s); x != want || e != api.OK || at != 0 {
			t.Errorf("C4: ReadTrack(%q) = %q, %d, %d, want %q", s, x, e, at, want)
		}
	}
}

func TestReadTrackPlaces(t *testing.T) {
	long := strings.Repeat("1", 33)
	for s, want := range map[string]int{
		"41=3013201": 6, "41=3022201": 5, "=3012201": 0, "41=3012": 7, "41": 2, "41=3012201=": 10,
		"": 0, "=": 0, "x": 0, "4x": 1, "4": 1, "41=": 3, "41==": 4, "41=3": 4, "41=30": 5, "41=301": 6, "41=30122": 8, "41=301220": 9,
		"1234567890123456789": 19, "12345678901234567890": 19, "12345678901234567890=": 19, "1234567890123456789x": 19, "1234567890123456789=": 20,
		"41=x": 3, "41=3=": 4, "41=30=": 5, "41=301=": 6, "41=300=": 6, "41=3000201": 6, "41=3001x": 7, "41=3=12": 4,
		"41=30122=": 8, "41=301220=": 9, "41==2=": 5, "41==x": 4, "41===x": 5, "41====": 5, "41===1=": 6,
		"1===" + long[1:] + "x": 36, "1===" + long[1:] + "=": 36, strings.Repeat("1", 37): 19, strings.Repeat("=", 37): 0,
		"1===" + long + "1": 37, "1===" + long + "x": 37, "x===" + long + "1": 37, strings.Repeat("=", 38): 37, strings.Repeat("x", 5000): 37,
	} {
		if x, e, at := card.ReadTrack(s); x != (api.Track{}) || e != api.ErrTrack || at != want {
			t.Errorf("C4: ReadTrack(%q) = %q, %d, %d, want ErrTrack at %d", s, x, e, at, want)
		}
	}
}

// TestReadTrackCutOff: tracks that end after each of their bytes, and such as go on too far.
func TestReadTrackCutOff(t *testing.T) {
	for s := range rightTracks() {
		for n := range s {
			checkRead(t, s[:n])
		}
		for n := range 40 {
			checkRead(t, s+strings.Repeat("0", n))
			checkRead(t, s+strings.Repeat("0", n)+"=")
		}
	}
}

// TestReadTrackBytes: each byte at each place, in the place of another and ahead of it.
func TestReadTrackBytes(t *testing.T) {
	for s := range rightTracks() {
		for place := range s {
			for c := range 256 {
				b := string([]byte{byte(c)})
				checkRead(t, s[:place]+b+s[place+1:])
				checkRead(t, s[:place]+b+s[place:])
			}
			checkRead(t, s[:place]+s[place+1:])
		}
	}
}

// TestReadTrackOfShortTexts: all of up to six bytes behind a PAN, of few bytes.
func TestReadTrackOfShortTexts(t *testing.T) {
	texts := []string{""}
	for from := 0; from < len(texts); from++ {
		s := texts[from]
		checkRead(t, s)
		checkRead(t, "41="+s)
		if len(s) < 6 {
			for _, c := range []string{"0", "1", "2", "3", "="} {
				texts = append(texts, s+c)
			}
		}
	}
}

// randomTrack is mostly a track, or nearly one.
func randomTrack(r *rand.Rand) string {
	var b strings.Builder
	b.WriteString(randomDigits(r, 1+r.Intn(20)) + "=")
	b.WriteString([]string{"=", "=", randomDigits(r, 2) + "07", randomDigits(r, 2) + "12", randomDigits(r, 4)}[r.Intn(5)])
	b.WriteString([]string{"=", randomDigits(r, 3)}[r.Intn(2)])
	b.WriteString(randomDigits(r, r.Intn(36)))
	s := []byte(b.String())
	if r.Intn(4) == 0 {
		s[r.Intn(len(s))] = byte(r.Intn(256))
	}
	if r.Intn(4) == 0 {
		s[r.Intn(len(s))] = '='
	}
	return string(s)
}

func TestReadTrackOfManyTexts(t *testing.T) {
	r := rand.New(rand.NewSource(5))
	for range 40000 {
		checkRead(t, randomTrack(r))
	}
}

func TestWriteTrackOfTracks(t *testing.T) {
	for want, x := range rightTracks() {
		if s, e := card.WriteTrack(x); s != want || e != api.OK {
			t.Errorf("C5: WriteTrack(%q) = %q, %d, want %q", x, s, e, want)
		}
	}
}

// TestWriteTrackOfNone: among them parts that, one behind the other, are a track that says another thing.
func TestWriteTrackOfNone(t *testing.T) {
	for _, x := range []api.Track{
		{}, {Expiry: "3012", Service: "201"}, {PAN: "12345678901234567890"}, {PAN: "4a"}, {PAN: "="},
		{PAN: "1", Expiry: "13"}, {PAN: "1", Expiry: "3013"}, {PAN: "1", Expiry: "30122"}, {PAN: "1", Service: "20"}, {PAN: "1", Service: "2011"}, {PAN: "1", Rest: "="},
		{PAN: "1", Expiry: "="}, {PAN: "1", Service: "="}, {PAN: "1", Expiry: "=", Service: "="},
		{PAN: "1=3012", Expiry: "201"}, {PAN: "1=", Rest: "1"}, {PAN: "1=", Service: "1"}, {PAN: "1==", Expiry: "201"}, {PAN: "1===", Rest: "9"},
		{PAN: "1", Expiry: "3012201"}, {PAN: "1", Expiry: "3012201", Service: "4"}, {PAN: "1", Expiry: "301", Service: "2201"}, {PAN: "1", Expiry: "30", Service: "12201"},
		{PAN: "1", Expiry: "=201"}, {PAN: "1", Expiry: "3012="}, {PAN: "1", Expiry: "==", Service: "9"}, {PAN: "1", Expiry: "=2", Service: "01"},
		{PAN: "1", Expiry: "3012", Service: "20", Rest: "1"}, {PAN: "1", Expiry: "3012", Service: "2011", Rest: "1"}, {PAN: "1", Expiry: "3012", Service: "=1", Rest: "1"},
		{PAN: "1", Rest: strings.Repeat("1", 34)}, {PAN: "1", Expiry: "3012", Service: "201", Rest: strings.Repeat("1", 29)}, {PAN: "1", Rest: strings.Repeat("1", 5000)},
		{PAN: "1 ", Expiry: "3012"}, {PAN: "1", Rest: "1 "}, {PAN: "1", Rest: "\x00"}, {PAN: "1", Service: "\xF2\xF0\xF1"},
	} {
		if s, e := card.WriteTrack(x); s != "" || e != api.ErrTrack {
			t.Errorf("C5: WriteTrack(%q) = %q, %d", x, s, e)
		}
	}
}

// mayBeSaid tells part by part whether a track says it: another reading than to write it and look.
func mayBeSaid(x api.Track) bool {
	size := len(x.PAN) + 1 + max(len(x.Expiry), 1) + max(len(x.Service), 1) + len(x.Rest)
	return len(x.PAN) >= 1 && len(x.PAN) <= 19 && isDigits(x.PAN) && (x.Expiry == "" || isMonth(x.Expiry)) &&
		(x.Service == "" || len(x.Service) == 3 && isDigits(x.Service)) && isDigits(x.Rest) && size <= 37
}

// TestWriteTrackOfAllParts: right parts and wrong ones, each with each, around the bound too.
func TestWriteTrackOfAllParts(t *testing.T) {
	texts := []string{"", "=", "==", "1", "1=", "=1", "12", "201", "=201", "3012", "3013", "301a", "3012=", "3012201", "1=3012", "x", "\x00", " "}
	for _, n := range []int{5, 6, 7, 9, 10, 11, 14, 15, 16, 18, 19, 20, 28, 29, 30, 31, 32, 33, 34, 37, 38} {
		texts = append(texts, strings.Repeat("1", n))
	}
	said := 0
	for _, pan := range texts {
		for _, expiry := range texts {
			for _, service := range texts[:24] {
				for _, rest := range texts {
					x := api.Track{PAN: pan, Expiry: expiry, Service: service, Rest: rest}
					s, e := card.WriteTrack(x)
					if !mayBeSaid(x) {
						if s != "" || e != api.ErrTrack {
							t.Errorf("C5: WriteTrack(%q) = %q, %d", x, s, e)
						}
						continue
					}
					said++
					if back, backE, _ := wanted(s); back != x || backE != api.OK || e != api.OK {
						t.Errorf("C5: WriteTrack(%q) = %q, %d", x, s, e)
					}
				}
			}
		}
	}
	if said < 100 {
		t.Errorf("the test wrote %d tracks only", said)
	}
}
