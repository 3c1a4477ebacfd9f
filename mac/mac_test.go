package mac_test

import (
	"bytes"
	"crypto/hmac"
	"crypto/sha256"
	"encoding/hex"
	"strings"
	"testing"

	"bottomry/api"
	"bottomry/mac"
)

// P3.1: the tag.

// The tags of RFC 4231, and of no key and no text.
func TestOfKnownTexts(t *testing.T) {
	for _, c := range []struct{ key, text, want string }{
		{"", "", "b613679a0814d9ec772f95d778c35fc5ff1697c493715653c6c712144292c5ad"},
		{strings.Repeat("\x0b", 20), "Hi There", "b0344c61d8db38535ca8afceaf0bf12b881dc200c9833da726e9376c2e32cff7"},
		{"Jefe", "what do ya want for nothing?", "5bdcc146bf60754e6a042426089575c75a003f089d2739839dec58b964ec3843"},
		{strings.Repeat("\xaa", 20), strings.Repeat("\xdd", 50), "773ea91e36800e46854db8ebd09181a72959098b3ef8c122d9635514ced565fe"},
		{
			"\x01\x02\x03\x04\x05\x06\x07\x08\x09\x0a\x0b\x0c\x0d\x0e\x0f\x10\x11\x12\x13\x14\x15\x16\x17\x18\x19", strings.Repeat("\xcd", 50),
			"82558a389a443c0ea4cc819899f2083a85f0faa3e578f8077a2e3ff46729665b",
		},
		{
			strings.Repeat("\xaa", 131), "Test Using Larger Than Block-Size Key - Hash Key First",
			"60e431591ee0b67f0d8a26aacbf5b77f8e0bc6213728c5140546040f0ee37f54",
		},
		{
			strings.Repeat("\xaa", 131),
			"This is a test using a larger than block-size key and a larger than block-size data. " +
				"The key needs to be hashed before being used by the HMAC algorithm.",
			"9b09ffa71b942fcb27635fbcd5b0e944bfdc63644f0713938a7f51535c3a35e2",
		},
	} {
		tag := mac.Of([]byte(c.key), []byte(c.text))
		if got := hex.EncodeToString(tag[:]); got != c.want {
			t.Errorf("the tag by a key of %d of %q is %s, want %s", len(c.key), c.text, got, c.want)
		}
	}
	if tag := mac.Of(nil, nil); tag[0] != 182 || tag[1] != 19 || tag[2] != 103 {
		t.Errorf("the tag of no key and no text begins with %v", tag[:3])
	}
}

// The lengths of keys go over the edge of a block, those of texts over the edges of the sum's end.
func TestOfEachLength(t *testing.T) {
	for n := range 200 {
		for _, m := range []int{0, 1, 55, 56, 63, 64, 65, 119, 120, 128, 300} {
			if got, want := mac.Of(some(n, 1), some(m, 2)), byLibrary(some(n, 1), some(m, 2)); got != want {
				t.Errorf("the tag by a key of %d of a text of %d is %x, want %x", n, m, got, want)
			}
		}
	}
}

func TestKeyOfABlockIsItself(t *testing.T) {
	for _, n := range []int{64, 65} {
		key := some(n, 1)
		sum := sha256.Sum256(key)
		same := mac.Of(key, []byte("text")) == mac.Of(sum[:], []byte("text"))
		if same != (n > 64) {
			t.Errorf("a key of %d is its sum instead: %v", n, same)
		}
	}
}

func TestKeyIsFilledUpWithNoughts(t *testing.T) {
	full := make([]byte, 64)
	copy(full, "key")
	want := mac.Of([]byte("key"), []byte("text"))
	if mac.Of(full, []byte("text")) != want || mac.Of([]byte("key\x00"), []byte("text")) != want {
		t.Error("a key that is filled up has another tag")
	}
	if mac.Of(make([]byte, 65), nil) == mac.Of(nil, nil) {
		t.Error("noughts of more than a block are as none")
	}
}

func TestTagsAreUnlike(t *testing.T) {
	seen := map[api.Tag]string{}
	for _, c := range []struct{ key, text string }{
		{"", ""}, {"k", ""}, {"", "k"}, {"k", "t"}, {"kt", ""}, {"", "kt"}, {"t", "k"}, {"K", "t"}, {"k", "T"}, {"k", "t\x00"}, {"\x00k", "t"},
	} {
		tag := mac.Of([]byte(c.key), []byte(c.text))
		if other, ok := seen[tag]; ok {
			t.Errorf("key %q and text %q have the tag of %s", c.key, c.text, other)
		}
		seen[tag] = c.key + ", " + c.text
	}
}

// P3.1: bytes held against each other.

func TestSame(t *testing.T) {
	for _, c := range []struct {
		a, b string
		want bool
	}{
		{"", "", true},
		{"a", "a", true},
		{"abc", "abc", true},
		{"\x00", "\x00", true},
		{"", "a", false},
		{"", "\x00", false},
		{"abc", "abd", false},
		{"abc", "bbc", false},
		{"abc", "adc", false},
		{"abc", "ab", false},
		{"ab", "ab\x00", false},
		{"ba", "ab", false},
		{"\x01\x01", "\x00\x00", false},
		{"\x00\x00", "\x01\x01", false},
		{"\x80\x80", "\x00\x00", false},
		{"\x55", "\xaa", false},
	} {
		if got := mac.Same([]byte(c.a), []byte(c.b)); got != c.want {
			t.Errorf("Same(%q, %q) = %v", c.a, c.b, got)
		}
		if got := mac.Same([]byte(c.b), []byte(c.a)); got != c.want {
			t.Errorf("Same(%q, %q) = %v", c.b, c.a, got)
		}
	}
}

func TestSameOfNothing(t *testing.T) {
	if !mac.Same(nil, nil) || !mac.Same(nil, []byte{}) || !mac.Same([]byte{}, nil) || mac.Same(nil, []byte{0}) || mac.Same([]byte{0}, nil) {
		t.Error("what is nil and what is empty aren't one")
	}
}

// Neither a byte alone nor a length alone may get lost, whatever bit it is.
func TestSameSeesEachBitAndEachLength(t *testing.T) {
	a := some(300, 3)
	if !mac.Same(a, bytes.Clone(a)) {
		t.Error("a copy is another one")
	}
	for i := range a {
		for bit := range 8 {
			b := bytes.Clone(a)
			b[i] ^= 1 << bit
			if mac.Same(a, b) {
				t.Errorf("bit %d of byte %d isn't seen", bit, i)
			}
		}
		if mac.Same(a, a[:i]) || mac.Same(a[:i], a) {
			t.Errorf("the first %d of %d bytes are the same as all", i, len(a))
		}
	}
	long := make([]byte, 1<<16+3)
	if mac.Same(long, long[:3]) || mac.Same(long[:3], long) || mac.Same(long[:256], nil) || mac.Same(nil, long[:1<<16]) {
		t.Error("a length that is the same at its end isn't seen")
	}
}

// P3.1: a tag is checked.

func TestCheck(t *testing.T) {
	for _, n := range []int{0, 1, 63, 64, 65, 200} {
		key, text := some(n, 1), some(n+1, 2)
		tag := byLibrary(key, text)
		if !mac.Check(key, text, tag) {
			t.Errorf("a tag by a key of %d doesn't hold", n)
		}
		if mac.Check(append(bytes.Clone(key), 1), text, tag) {
			t.Errorf("a tag by a key of %d holds by a longer one", n)
		}
		if mac.Check(key, text[:n], tag) || mac.Check(key, append(bytes.Clone(text), 0), tag) || mac.Check(key, nil, tag) {
			t.Errorf("a tag of a text of %d holds of another one", n+1)
		}
		if mac.Check(key, text, api.Tag{}) {
			t.Errorf("a tag of noughts holds by a key of %d", n)
		}
	}
}

func TestCheckSeesEachBit(t *testing.T) {
	key, text := []byte("key"), []byte("text")
	tag := mac.Of(key, text)
	for i := range tag {
		for bit := range 8 {
			other := tag
			other[i] ^= 1 << bit
			if mac.Check(key, text, other) {
				t.Errorf("bit %d of byte %d isn't seen", bit, i)
			}
		}
	}
	if !mac.Check(key, text, tag) || !mac.Check(nil, nil, mac.Of([]byte{}, []byte{})) {
		t.Error("a tag doesn't hold")
	}
}

// What is handed in isn't changed, nor is the room behind it.

func TestWhatIsHandedInStays(t *testing.T) {
	for _, n := range []int{1, 64, 65} {
		room := some(300, 4)
		key, text := room[:n], room[100:100+n]
		tag := mac.Of(key, text)
		mac.Check(key, text, tag)
		mac.Same(key, text)
		if !bytes.Equal(room, some(300, 4)) {
			t.Errorf("bytes that were handed in (%d each) were changed", n)
		}
		if mac.Of(key, text) != tag {
			t.Error("the second tag of the same is another one")
		}
	}
}

// some is n bytes that don't repeat soon, others for each start.
func some(n, start int) []byte {
	b := make([]byte, n)
	for i := range b {
		b[i] = byte(i*i*5 + i*3 + i>>8 + start)
	}
	return b
}

func byLibrary(key, text []byte) api.Tag {
	h := hmac.New(sha256.New, key)
	h.Write(text)
	return api.Tag(h.Sum(nil))
}
