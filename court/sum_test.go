package court_test

import (
	"crypto/sha256"
	"encoding/hex"
	"math/rand"
	"strings"
	"testing"

	"restante/api"
	"restante/court"
)

func hexOf(h api.Hash) string { return hex.EncodeToString(h[:]) }

// H1: the published examples, and those of the chapter.
func TestSumExamples(t *testing.T) {
	for _, x := range []struct{ text, want string }{
		{"", "e3b0c44298fc1c149afbf4c8996fb92427ae41e4649b934ca495991b7852b855"},
		{"abc", "ba7816bf8f01cfea414140de5dae2223b00361a396177a9cb410ff61f20015ad"},
		{"abcdbcdecdefdefgefghfghighijhijkijkljklmklmnlmnomnopnopq", "248d6a61d20638b8e5c026930c3e6039a33ce45964ff2167f6ecedd419db06c1"},
		{"abcdefghbcdefghicdefghijdefghijkefghijklfghijklmghijklmnhijklmnoijklmnopjklmnopqklmnopqrlmnopqrsmnopqrstnopqrstu", "cf5b16a778af8380036ce59e7b0492370b249b11e8f07a51afac45037afee9d1"},
		{strings.Repeat("a", 1000000), "cdc76e5c9914fb9281a1c7e284d73e67f1809a48a497200e046d39ccc7112cd0"},
	} {
		same(t, "Sum", hexOf(court.Sum([]byte(x.text))), x.want)
	}
}

// H1: messages of all lengths around those at which another block begins.
func TestSum(t *testing.T) {
	r := rand.New(rand.NewSource(1))
	for n := range 700 {
		b := make([]byte, n)
		r.Read(b)
		before := string(b)
		same(t, "Sum", court.Sum(b), api.Hash(sha256.Sum256(b)))
		same(t, "the message", string(b), before)
	}
	same(t, "Sum of nil", court.Sum(nil), api.Hash(sha256.Sum256(nil)))
	long := make([]byte, 0, 128)
	same(t, "Sum of a part", court.Sum(append(long, "ab"...)), court.Sum([]byte("ab")))
	same(t, "the memory behind a part", string(long[:64]), "ab"+strings.Repeat("\x00", 62))
}
