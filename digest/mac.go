package digest

import (
	"strings"

	"acheron/api"
)

const (
	sumSize   = 32      // bytes of a digest
	maxStream = 1 << 20 // limit of places in a keystream, and of bytes that are taken from it
)

// lock is a key made ready for many messages: the hashes that have its two blocks.
type lock struct{ inner, outer Hash }

func lockOf(key string) lock {
	if len(key) > blockSize {
		key = Sum(key)
	}
	key += strings.Repeat("\x00", blockSize-len(key))
	return lock{
		inner: Hash{}.Add(masked(key, strings.Repeat("\x36", blockSize))),
		outer: Hash{}.Add(masked(key, strings.Repeat("\x5C", blockSize))),
	}
}

func (l lock) mac(s string) string { return l.outer.Add(l.inner.Add(s).Sum()).Sum() }

// stream returns the n bytes of the keystream from a byte on.
func (l lock) stream(nonce, from, n int) string {
	var b strings.Builder
	skip := from % sumSize
	for i := from / sumSize; b.Len() < skip+n; i++ {
		b.WriteString(l.mac(word(uint64(nonce)) + word(uint64(i))))
	}
	return b.String()[skip : skip+n]
}

// masked returns the bytes of a text, each exclusive-or that of an equally long one.
func masked(s, with string) string {
	b := []byte(s)
	for i := range b {
		b[i] ^= with[i]
	}
	return string(b)
}

// Mac returns the HMAC of a key and a message.
func Mac(key, s string) string { return lockOf(key).mac(s) }

// Stream returns bytes of a keystream.
func Stream(key string, nonce, from, n int) (string, api.Errno) {
	if nonce < 0 || from < 0 || n < 0 || from > maxStream || n > maxStream {
		return "", api.ErrRange
	}
	return lockOf(key).stream(nonce, from, n), api.OK
}

// Mask returns bytes, each exclusive-or one of a keystream.
func Mask(s string, key string, nonce int) (string, api.Errno) {
	if nonce < 0 || len(s) > maxStream {
		return "", api.ErrRange
	}
	return masked(s, lockOf(key).stream(nonce, 0, len(s))), api.OK
}
