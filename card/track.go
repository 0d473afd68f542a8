package card

import (
	"strings"

	"turnstile/api"
)

// separator stands behind the PAN, and in the place of an Expiry or a Service that is not there.
const separator = "="

// ReadTrack reads a track; with an error: its place.
func ReadTrack(s string) (api.Track, api.Errno, int) {
	if len(s) > api.MaxTrack {
		return api.Track{}, api.ErrTrack, api.MaxTrack
	}
	e, at, ok := walk(s)
	if !ok {
		return api.Track{}, api.ErrTrack, at
	}
	return api.Track{
		PAN:     strings.Clone(s[:e.pan]),
		Expiry:  unlessMissing(s[e.pan+len(separator) : e.expiry]),
		Service: unlessMissing(s[e.expiry:e.service]),
		Rest:    strings.Clone(s[e.service:]),
	}, api.OK, 0
}

// WriteTrack writes one.
func WriteTrack(t api.Track) (string, api.Errno) {
	s := t.PAN + separator + orMissing(t.Expiry) + orMissing(t.Service) + t.Rest
	// Parts that may not be can make up a track that says another thing: reading tells.
	if read, e, _ := ReadTrack(s); e != api.OK || read != t {
		return "", api.ErrTrack
	}
	return s, api.OK
}

func unlessMissing(part string) string {
	if part == separator {
		return ""
	}
	return strings.Clone(part)
}

func orMissing(part string) string {
	if part == "" {
		return separator
	}
	return part
}
