package field_test

import (
	"math/big"
	"math/rand"
	"testing"

	"covey/api"
	"covey/field"
)

var nought [32]byte

// near are the numbers at which something turns, and those beside them.
func near() [][32]byte {
	var all [][32]byte
	add := func(n *big.Int, off int64) { all = append(all, number(new(big.Int).Add(n, big.NewInt(off)))) }
	for _, off := range []int64{0, 1, 2} {
		add(new(big.Int), off)
	}
	for _, off := range []int64{-1, 0, 1} {
		add(prime, off)
		add(new(big.Int).Mul(two, prime), off)
	}
	add(pow2(255), -1)
	add(pow2(255), 0)
	add(pow2(256), -1)
	return all
}

// farther are near and more of the kind: halves of p, what 2^255 and 2^256 stand for, the bounds of words.
func farther() [][32]byte {
	all := near()
	for _, n := range []int64{3, 4, 5, 18, 19, 20, 36, 37, 38, 39, 1443, 1444, 1445} {
		all = append(all, small(n), number(new(big.Int).Sub(prime, big.NewInt(n))), number(new(big.Int).Sub(pow2(256), big.NewInt(n))))
	}
	half := new(big.Int).Rsh(prime, 1)
	all = append(all, number(half), number(new(big.Int).Add(half, one)))
	for _, bits := range []uint{63, 64, 65, 127, 128, 129, 191, 192, 193, 254} {
		n := pow2(bits)
		all = append(all, number(new(big.Int).Sub(n, one)), number(n), number(new(big.Int).Add(n, one)))
	}
	return all
}

// singles have a single bit.
func singles() [][32]byte {
	var all [][32]byte
	for i := range uint(256) {
		all = append(all, number(pow2(i)))
	}
	return all
}

// alikes have 32 bytes that are all alike.
func alikes() [][32]byte {
	var all [][32]byte
	for b := range 256 {
		var a [32]byte
		for i := range a {
			a[i] = byte(b)
		}
		all = append(all, a)
	}
	return all
}

// drawn are n numbers by chance: of some the words are all noughts or all ones, so that what is carried goes far.
func drawn(seed int64, n int) [][32]byte {
	chance := rand.New(rand.NewSource(seed))
	all := make([][32]byte, n)
	for i := range all {
		chance.Read(all[i][:])
		for w := 0; w < 32 && i%2 == 1; w += 8 {
			switch chance.Intn(4) {
			case 0:
				copy(all[i][w:w+8], "\x00\x00\x00\x00\x00\x00\x00\x00")
			case 1, 2:
				copy(all[i][w:w+8], "\xff\xff\xff\xff\xff\xff\xff\xff")
			}
		}
	}
	return all
}

// everything are numbers of all of these kinds.
func everything() [][32]byte {
	all := append(farther(), singles()...)
	all = append(all, alikes()...)
	return append(all, drawn(6, 500)...)
}

// is holds an answer against what it must be, and below p.
func is(t *testing.T, what string, got, want [32]byte) {
	t.Helper()
	if whole(got).Cmp(prime) >= 0 {
		t.Fatalf("%s: %x isn't below p", what, got)
	}
	if got != want {
		t.Fatalf("%s: %x; not %x", what, got, want)
	}
}

// refused is an answer that must be that error itself, and nothing beside.
func refused(t *testing.T, what string, got [32]byte, err error, want api.Code) {
	t.Helper()
	if err != error(want) {
		t.Fatalf("%s: %v; not %v", what, err, want)
	}
	if got != nought {
		t.Fatalf("%s: %x beside an error", what, got)
	}
}

func inverse(t *testing.T, a [32]byte) [32]byte {
	t.Helper()
	i, err := field.Inv(a)
	if err != nil {
		t.Fatalf("Inv(%x): %v", a, err)
	}
	return i
}

func root(t *testing.T, a [32]byte) [32]byte {
	t.Helper()
	r, err := field.Root(a)
	if err != nil {
		t.Fatalf("Root(%x): %v", a, err)
	}
	return r
}

func TestExamples(t *testing.T) {
	p, top, minus := number(prime), number(new(big.Int).Sub(pow2(256), one)), number(new(big.Int).Sub(prime, one))
	is(t, "Reduce(p)", field.Reduce(p), nought)
	is(t, "Reduce(2^256 - 1)", field.Reduce(top), [32]byte{37})
	is(t, "Sub(0, 1)", field.Sub(nought, [32]byte{1}), minus)
	is(t, "Mul(2, Inv(2))", field.Mul([32]byte{2}, inverse(t, [32]byte{2})), [32]byte{1})
	none, err := field.Inv(p)
	refused(t, "Inv(p)", none, err, api.ErrZero)
	is(t, "Root(4)", root(t, [32]byte{4}), [32]byte{2})
	none, err = field.Root([32]byte{2})
	refused(t, "Root(2)", none, err, api.ErrNone)
}

// pair holds Add, Sub and Mul of two numbers against the oracle.
func pair(t *testing.T, a, b [32]byte) {
	t.Helper()
	if got, want := field.Add(a, b), oracleAdd(a, b); got != want {
		t.Fatalf("Add(%x, %x): %x; not %x", a, b, got, want)
	}
	if got, want := field.Sub(a, b), oracleSub(a, b); got != want {
		t.Fatalf("Sub(%x, %x): %x; not %x", a, b, got, want)
	}
	if got, want := field.Mul(a, b), oracleMul(a, b); got != want {
		t.Fatalf("Mul(%x, %x): %x; not %x", a, b, got, want)
	}
}

// single holds Reduce, Inv and Root of a number against the oracle.
func single(t *testing.T, a [32]byte) {
	t.Helper()
	is(t, "Reduce", field.Reduce(a), oracleReduce(a))
	got, err := field.Inv(a)
	if want, ok := oracleInv(a); ok {
		is(t, "Inv", got, want)
		is(t, "a times Inv(a)", field.Mul(a, got), [32]byte{1})
	} else {
		refused(t, "Inv", got, err, api.ErrZero)
	}
	if (err == nil) != (oracleReduce(a) != nought) {
		t.Fatalf("Inv(%x): %v", a, err)
	}
	got, err = field.Root(a)
	if want, ok := oracleRoot(a); ok {
		is(t, "Root", got, want)
		is(t, "the square of Root(a)", field.Mul(got, got), oracleReduce(a))
		if err != nil {
			t.Fatalf("Root(%x): %v", a, err)
		}
	} else {
		refused(t, "Root", got, err, api.ErrNone)
	}
}

func eachWithEach(t *testing.T, all, others [][32]byte) {
	t.Helper()
	for _, a := range all {
		for _, b := range others {
			pair(t, a, b)
		}
	}
}

func TestNearPairs(t *testing.T) { eachWithEach(t, near(), near()) }

func TestFartherPairs(t *testing.T) { eachWithEach(t, farther(), farther()) }

func TestSingleBits(t *testing.T) {
	all := singles()
	eachWithEach(t, all, farther())
	eachWithEach(t, farther(), all)
	for i, a := range all {
		for j := i % 3; j < len(all); j += 3 {
			pair(t, a, all[j])
		}
	}
}

func TestAlikePairs(t *testing.T) {
	all := alikes()
	eachWithEach(t, all, near())
	eachWithEach(t, near(), all)
	for i, a := range all {
		for j := i % 3; j < len(all); j += 3 {
			pair(t, a, all[j])
		}
	}
}

func TestDrawnPairs(t *testing.T) {
	all := drawn(1, 400)
	eachWithEach(t, all, near())
	eachWithEach(t, near(), all)
	for i, a := range all {
		for j := i % 7; j < len(all); j += 7 {
			pair(t, a, all[j])
		}
	}
}

func TestSingles(t *testing.T) {
	for _, a := range everything() {
		single(t, a)
	}
}

// TestSmallRests: factors whose whole product leaves a small rest behind a division by 2 p, 2^256 - 38. Only there a fold of the upper half goes over 2^256 once more, which no factors by chance come to.
func TestSmallRests(t *testing.T) {
	double := new(big.Int).Mul(two, prime)
	factors := append(drawn(2, 12), number(new(big.Int).Sub(pow2(256), one)), number(new(big.Int).Sub(pow2(256), big.NewInt(3))), [32]byte{3})
	for _, a := range factors {
		a[0] |= 1 // with an even one not every rest can be come to
		over := new(big.Int).ModInverse(whole(a), double)
		if over == nil {
			t.Fatalf("%x has no inverse modulo 2 p", a)
		}
		for rest := range int64(1600) {
			for _, sign := range []int64{1, -1} {
				b := new(big.Int).Mul(over, big.NewInt(sign*rest))
				pair(t, a, number(b.Mod(b, double)))
			}
		}
	}
}

// TestBelow: where both numbers are p or more, and at all others, every answer is below p.
func TestBelow(t *testing.T) {
	above := [][32]byte{number(prime), number(pow2(255)), number(new(big.Int).Sub(pow2(256), one))}
	for i := range int64(60) {
		above = append(above, number(new(big.Int).Add(prime, big.NewInt(i))), number(new(big.Int).Sub(pow2(256), big.NewInt(i+1))))
	}
	for _, a := range drawn(3, 100) {
		a[31] |= 0x80
		above = append(above, a)
	}
	for _, a := range above {
		is(t, "Reduce", field.Reduce(a), oracleReduce(a))
		for _, b := range above {
			is(t, "Add", field.Add(a, b), oracleAdd(a, b))
			is(t, "Sub", field.Sub(a, b), oracleSub(a, b))
			is(t, "Mul", field.Mul(a, b), oracleMul(a, b))
		}
	}
}

// TestSameElement: numbers that are not reduced do the same as those that are.
func TestSameElement(t *testing.T) {
	for i := range int64(38) {
		for _, off := range []*big.Int{prime, new(big.Int).Mul(two, prime)} {
			n := big.NewInt(i)
			a, b := number(n), number(new(big.Int).Add(n, off))
			is(t, "Reduce", field.Reduce(b), a)
			is(t, "Add", field.Add(b, b), oracleAdd(a, a))
			is(t, "Sub", field.Sub(b, a), nought)
			is(t, "Sub", field.Sub(a, b), nought)
			is(t, "Mul", field.Mul(b, b), oracleMul(a, a))
			x, errX := field.Inv(a)
			y, errY := field.Inv(b)
			if x != y || errX != errY {
				t.Fatalf("Inv of %d: %x, %v; with p: %x, %v", i, x, errX, y, errY)
			}
			x, errX = field.Root(a)
			y, errY = field.Root(b)
			if x != y || errX != errY {
				t.Fatalf("Root of %d: %x, %v; with p: %x, %v", i, x, errX, y, errY)
			}
		}
	}
}

func TestInv(t *testing.T) {
	for _, n := range []*big.Int{new(big.Int), prime, new(big.Int).Mul(two, prime)} {
		none, err := field.Inv(number(n))
		refused(t, "Inv of "+n.String(), none, err, api.ErrZero)
	}
	for _, a := range everything() {
		if oracleReduce(a) == nought {
			continue
		}
		i := inverse(t, a)
		is(t, "a times its inverse", field.Mul(a, i), [32]byte{1})
		is(t, "the inverse times a", field.Mul(i, a), [32]byte{1})
		is(t, "the inverse's inverse", inverse(t, i), oracleReduce(a))
	}
	is(t, "Inv(1)", inverse(t, [32]byte{1}), [32]byte{1})
	minus := number(new(big.Int).Sub(prime, one))
	is(t, "Inv(-1)", inverse(t, minus), minus)
}

func TestRootOfNought(t *testing.T) {
	for _, n := range []*big.Int{new(big.Int), prime, new(big.Int).Mul(two, prime)} {
		is(t, "Root of "+n.String(), root(t, number(n)), nought)
	}
}

// TestRootOfSquares: of a square's two roots the even one, whichever of them was squared.
func TestRootOfSquares(t *testing.T) {
	evens, odds := 0, 0
	for _, a := range everything() {
		n := whole(oracleReduce(a))
		if n.Bit(0) == 1 {
			odds++
			n.Sub(prime, n)
		} else {
			evens++
		}
		square := oracleMul(a, a)
		is(t, "Root", root(t, square), number(n))
		is(t, "Root of Mul", root(t, field.Mul(a, a)), number(n))
		is(t, "Root of the negative's square", root(t, field.Mul(field.Sub(nought, a), field.Sub(nought, a))), number(n))
	}
	if evens < 100 || odds < 100 {
		t.Errorf("%d even roots were squared, %d odd ones", evens, odds)
	}
}

// TestRootKinds: the two kinds of squares (the power (p - 1) / 4 of which is 1 or -1), and those that are none.
func TestRootKinds(t *testing.T) {
	quarter := new(big.Int).Rsh(new(big.Int).Sub(prime, one), 2)
	kinds := map[string]int{}
	for n := int64(1); n < 300; n++ {
		power := new(big.Int).Exp(big.NewInt(n), quarter, prime)
		switch {
		case power.Cmp(one) == 0:
			kinds["plus"]++
		case power.Cmp(new(big.Int).Sub(prime, one)) == 0:
			kinds["minus"]++
		default:
			kinds["none"]++
			none, err := field.Root(small(n))
			refused(t, "Root", none, err, api.ErrNone)
			continue
		}
		r := root(t, small(n))
		is(t, "the root's square", field.Mul(r, r), small(n))
		if r[0]&1 == 1 {
			t.Errorf("Root(%d): %x is odd", n, r)
		}
	}
	if kinds["plus"] < 40 || kinds["minus"] < 40 || kinds["none"] < 40 {
		t.Errorf("kinds: %v", kinds)
	}
	minus := number(new(big.Int).Sub(prime, one))
	r := root(t, minus)
	is(t, "the square of Root(-1)", field.Mul(r, r), minus)
	is(t, "Root(-1)", r, of(new(big.Int).Exp(two, quarter, prime)))
}

// TestJustOne: of a and 2 times a just one is a square.
func TestJustOne(t *testing.T) {
	for _, a := range everything() {
		if oracleReduce(a) == nought {
			continue
		}
		_, first := field.Root(a)
		_, second := field.Root(field.Add(a, a))
		if (first == nil) == (second == nil) {
			t.Fatalf("Root of %x: %v; of twice that: %v", a, first, second)
		}
		if field.Add(a, a) != field.Mul([32]byte{2}, a) {
			t.Fatalf("a and a isn't twice a at %x", a)
		}
		for _, err := range []error{first, second} {
			if err != nil && err != api.ErrNone {
				t.Fatalf("Root: %v", err)
			}
		}
	}
}

// TestLaws: those of a field, by the program's own answers.
func TestLaws(t *testing.T) {
	add, sub, mul := field.Add, field.Sub, field.Mul
	numbers := append(drawn(4, 700), farther()...)
	for i, a := range numbers {
		b, c := numbers[(i*31+7)%len(numbers)], numbers[(i*17+3)%len(numbers)]
		is(t, "a + b = b + a", add(a, b), add(b, a))
		is(t, "a b = b a", mul(a, b), mul(b, a))
		is(t, "(a + b) + c = a + (b + c)", add(add(a, b), c), add(a, add(b, c)))
		is(t, "(a b) c = a (b c)", mul(mul(a, b), c), mul(a, mul(b, c)))
		is(t, "a (b + c) = a b + a c", mul(a, add(b, c)), add(mul(a, b), mul(a, c)))
		is(t, "a (b - c) = a b - a c", mul(a, sub(b, c)), sub(mul(a, b), mul(a, c)))
		is(t, "a + 0 = a", add(a, nought), field.Reduce(a))
		is(t, "a 1 = a", mul(a, [32]byte{1}), field.Reduce(a))
		is(t, "a 0 = 0", mul(a, nought), nought)
		is(t, "a - a = 0", sub(a, a), nought)
		is(t, "a + (0 - a) = 0", add(a, sub(nought, a)), nought)
		is(t, "(a - b) + b = a", add(sub(a, b), b), field.Reduce(a))
		is(t, "(a + b) - b = a", sub(add(a, b), b), field.Reduce(a))
		is(t, "a - b = 0 - (b - a)", sub(a, b), sub(nought, sub(b, a)))
		if field.Reduce(a) != nought && field.Reduce(b) != nought {
			is(t, "Inv(a b) = Inv(a) Inv(b)", inverse(t, mul(a, b)), mul(inverse(t, a), inverse(t, b)))
			is(t, "(a b) Inv(b) = a", mul(mul(a, b), inverse(t, b)), field.Reduce(a))
		}
	}
}

// TestHandedIn: what is handed in stays as it was, and what is answered hangs on that alone.
func TestHandedIn(t *testing.T) {
	numbers := farther()
	before := append([][32]byte{}, numbers...)
	type answers struct {
		add, sub, mul, reduce, inv, root [32]byte
		noInv, noRoot                    error
	}
	ask := func(i int) answers {
		a, b := &numbers[i], &numbers[len(numbers)-1-i]
		x := answers{add: field.Add(*a, *b), sub: field.Sub(*a, *b), mul: field.Mul(*a, *b), reduce: field.Reduce(*a)}
		x.inv, x.noInv = field.Inv(*a)
		x.root, x.noRoot = field.Root(*a)
		return x
	}
	var first []answers
	for i := range numbers {
		first = append(first, ask(i))
	}
	for i := len(numbers) - 1; i >= 0; i-- {
		if ask(i) != first[i] {
			t.Fatalf("asked again, the answers at %x are others", numbers[i])
		}
	}
	for i := range numbers {
		if numbers[i] != before[i] {
			t.Fatalf("%x has become %x", before[i], numbers[i])
		}
	}
}
