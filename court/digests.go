package court

import (
	"slices"
	"strconv"

	"restante/api"
)

// The letters with which what is digested begins, so that no two kinds of digests are of the same string.
const (
	saltLetter   = 's'
	fieldLetter  = 'f'
	recordLetter = 'r'
	nodeLetter   = 'n'
)

// sumOf returns the digest of a letter and some byte strings behind it.
func sumOf(letter byte, parts ...[]byte) api.Hash {
	return Sum(slices.Concat([]byte{letter}, slices.Concat(parts...)))
}

// saltOf returns the salt of the field with an index.
func saltOf(salt, i int) api.Hash {
	return sumOf(saltLetter, []byte(strconv.Itoa(salt)+"/"+strconv.Itoa(i)))
}

func fieldDigest(salt api.Hash, field []byte) api.Hash { return sumOf(fieldLetter, salt[:], field) }

func recordDigest(fields [fieldCount]api.Hash) api.Hash {
	var all []byte
	for _, h := range fields {
		all = append(all, h[:]...)
	}
	return sumOf(recordLetter, all)
}

// Digest returns the digest of a record; a zero one if it is not well-formed.
func Digest(r api.Record) api.Hash {
	if !isRecord(r) {
		return api.Hash{}
	}
	var digests [fieldCount]api.Hash
	for i, field := range fieldsOf(r) {
		digests[i] = fieldDigest(saltOf(r.Salt, i), []byte(field))
	}
	return recordDigest(digests)
}

// Redact returns the redacted record in which some fields are shown.
func Redact(r api.Record, keep []int) (api.Redacted, api.Errno) {
	if !isRecord(r) {
		return api.Redacted{}, api.ErrArg
	}
	for i, field := range keep {
		if !within(field, 0, fieldCount-1) || i > 0 && field <= keep[i-1] {
			return api.Redacted{}, api.ErrArg
		}
	}
	var x api.Redacted
	for i, field := range fieldsOf(r) {
		salt := saltOf(r.Salt, i)
		if slices.Contains(keep, i) {
			x.Fields = append(x.Fields, api.Field{Shown: true, Bytes: []byte(field), Hash: salt})
		} else {
			x.Fields = append(x.Fields, api.Field{Hash: fieldDigest(salt, []byte(field))})
		}
	}
	return x, api.OK
}

// DigestOf returns the digest of the record of a redacted record.
func DigestOf(x api.Redacted) (api.Hash, api.Errno) {
	if len(x.Fields) != fieldCount {
		return api.Hash{}, api.ErrArg
	}
	var digests [fieldCount]api.Hash
	for i, f := range x.Fields {
		if !f.Shown && len(f.Bytes) > 0 {
			return api.Hash{}, api.ErrArg
		}
		digests[i] = f.Hash
		if f.Shown {
			digests[i] = fieldDigest(f.Hash, f.Bytes)
		}
	}
	return recordDigest(digests), api.OK
}
