"""Programs that are taken, of many sorts, by a name each, and the number that each comes to; and phrases of many calls."""

from facework.reading import read

LIST = "(kind list (?a) (Nil) (Cons ?a (list ?a)))"
BIT = "(kind bit () (Off) (On))"
PAIR = "(record pair (?a ?b) (one ?a) (two ?b))"
COUNT = "(face Count () (hide t 0) (val zero t) (val up (-> t t)) (val get (-> t num)))"
ONES = "(part Ones Count (hide t () num) (val zero 0) (val up (fun x (plus x 1))) (val get (fun x x)))"
TWOS = (
    "(part Twos Count (hide t () (pair num num)) (val zero (make pair 0 0))"
    " (val up (fun x (make pair (plus 1 (pick one x)) (pick two x)))) (val get (fun x (times 2 (pick one x)))))"
)

TEXTS = {
    "number": ("(main -7)", -7),
    "doc": (
        "(face Count () (hide t 0) (val zero t) (val up (-> t t))) (part Ones Count (hide t () num) (val zero 0)"
        " (val up (fun x (plus x 1)))) (main (let x Ones.zero 5))", 5,
    ),
    "sums": ("(main (plus (times 3 (minus 1 5)) (if (less 2 1) 100 (if (less 1 2) -8 200))))", -20),
    "hiding": (
        "(main (let x 1 (let y (fun x (plus x 10)) (let x (call y x) (plus (call (fun y (times y x)) 3)"
        " (call (let y x (fun x (minus x y))) 100))))))", 122,
    ),
    "keeping": (
        "(main (let a 1 (let f (fun b (fun c (fun d (plus a (times b (minus c d)))))) (let a 50"
        " (let g (call f 2) (let b 90 (plus (call (call g 7) 4) (call (call g a) b))))))))", 8 - 80,
    ),
    "list": (
        LIST + "(main (ring ((sum x (case x ((Nil) 0) ((Cons h t) (plus h (call sum t))))) (map f (fun x (case x ((Nil) Nil)"
        " ((Cons h t) (Cons (call f h) (call (call map f) t))))))) (call sum (call (call map (fun x (times x x)))"
        " (Cons 1 (Cons 2 (Cons 3 Nil)))))))", 14,
    ),
    "rings": (
        "(main (let k 3 (ring ((a x (if x (call b (minus x 1)) k)) (b y (if y (call c (minus y 1)) (plus k 1)))"
        " (c x (if x (call d (minus x 1)) (plus k 2))) (d k (if k (call a (minus k 1)) 77)))"
        " (plus (call a 7) (times 100 (plus (call a 4) (plus (call b 4) (call d 2))))))))", 77 + 100 * (3 + 4 + 4),
    ),
    "cases": (
        LIST + BIT + "(kind tree (?a) (Leaf) (Node (tree ?a) ?a (tree ?a)) (Four ?a ?a ?a ?a))"
        "(main (ring ((go t (case t ((Leaf) 0) ((Four a b c d) 9) ((Node l v r)"
        " (case v ((Nil) (call go l)) ((Cons h more) (case h ((On) (plus 1 (call go r))) ((Off) (case more ((Nil) 5)"
        " ((Cons x y) (call go (Node r y l))))))))))))"
        " (plus (call go (Node Leaf (Cons Off (Cons On (Cons On Nil))) (Node Leaf (Cons On Nil) Leaf)))"
        " (case (Four 1 2 3 4) ((Leaf) 1) ((Node a b c) 2) ((Four d c b a) (minus a d))))))", 4,
    ),
    "records": (
        PAIR + "(record act (?a) (go (-> ?a ?a)) (at ?a) (n num) (m num))"
        "(main (let r (make act (fun x (make pair (pick two x) (pick one x))) (make pair 3 4) 5 6)"
        " (plus (pick one (call (pick go r) (pick at r))) (times 10 (plus (pick n r) (pick m r))))))", 114,
    ),
    "wide": (
        PAIR + "(face Wide () (val id (-> ?a ?a)) (val k (-> ?a (-> ?b ?a))) (val swap (-> (pair ?a ?b) (pair ?b ?a))))"
        "(part W Wide (val id (fun x x)) (val k (fun x (fun y (call id x)))) (val aid 4)"
        " (val swap (fun p (make pair (pick two p) (call (call k (pick one p)) aid)))))"
        "(main (call (call W.id W.id) (pick two (call W.swap (make pair 9 (call (call W.k W.id) 3))))))", 9,
    ),
    "parts": (
        PAIR + COUNT + ONES + TWOS +
        "(main (plus (call Ones.get (call Ones.up (call Ones.up Ones.zero))) (call Twos.get (call Twos.up Twos.zero))))", 4,
    ),
    "maker": (
        PAIR + COUNT + ONES + TWOS +
        "(face Plus ((X Count)) (val add (-> num (-> X.t X.t))) (val n num))"
        "(maker Adds ((X Count)) (Plus X) (val add (ring ((go n (fun x (if (less n 1) x (call X.up (call (call go (minus n 1)) x))))))"
        " go)) (val n (call X.get (call (call add 2) X.zero))))"
        "(maker Unused ((X Count)) (Plus X) (val add (ring ((f x (call f x))) (call f 0))) (val n (call (fun x x) 1)))"
        "(apply X Adds Ones) (apply Y Adds Twos)"
        "(main (plus (call Ones.get (call (call X.add 3) Ones.zero)) (times 10 (plus Y.n (call Twos.get Twos.zero)))))", 43,
    ),
    "over": (
        COUNT + ONES +
        "(maker Next ((X Count)) Count (hide t () (-> num X.t)) (val zero (fun n X.zero))"
        " (val up (fun f (fun n (call X.up (call f n))))) (val get (fun f (plus 100 (call X.get (call f 0))))))"
        "(apply A Next Ones) (apply B Next A) (apply C Next B)"
        "(main (plus (call C.get (call C.up (call C.up C.zero))) (call A.get A.zero)))", 402,
    ),
    "two": (
        LIST + COUNT + ONES +
        "(face Bag ((X Count)) (hide b 1) (val none (b ?a)) (val put (-> ?a (-> (b ?a) (b ?a)))) (val size (-> (b ?a) X.t)))"
        "(maker Bags ((C Count)) (Bag C) (hide b (?x) (list ?x)) (val none Nil) (val put (fun x (fun y (Cons x y))))"
        " (val size (ring ((go l (case l ((Nil) C.zero) ((Cons a b) (call C.up (call go b)))))) go)))"
        "(face Use ((X Count) (Y (Bag X))) (hide u 0) (val start u) (val tell (-> u num)))"
        "(apply Y Bags Ones)"
        "(maker User ((A Count) (B (Bag A))) (Use A B) (hide u () (B.b A.t)) (val start (call (call B.put A.zero) B.none))"
        " (val tell (fun u (call A.get (call B.size (call (call B.put (call A.up A.zero)) u))))))"
        "(apply X User Ones Y)"
        "(part Plain (Use Ones Y) (hide u () num) (val tell (fun x (plus x 5))) (val start 7))"
        "(main (plus (call X.tell X.start) (times 100 (call Plain.tell Plain.start))))", 1202,
    ),
    "deep": (
        LIST + "(face Map () (hide m 2) (hide k 0) (val none (m ?k ?v)) (val key (-> num k)) (val m k)"
        " (val add (-> ?k (-> ?v (-> (m ?k ?v) (m ?k ?v))))) (val first (-> (m k ?v) (-> ?v ?v))))"
        "(record row (?a ?b) (left ?a) (right ?b))"
        "(part M Map (hide k () (list num)) (hide m (?x ?y) (list (row ?x ?y))) (val none Nil) (val key (fun n (Cons n Nil)))"
        " (val m (call key 1)) (val add (fun k (fun v (fun m (Cons (make row k v) m)))))"
        " (val first (fun m (fun v (case m ((Nil) v) ((Cons h t) (case (pick left h) ((Nil) v) ((Cons a b) (pick right h)))))))))"
        "(main (call (call M.first (call (call (call M.add (call M.key 3)) 8) (call (call (call M.add M.m) 9) M.none))) 2))", 8,
    ),
}

PROGRAMS = {name: read(text) for name, (text, number) in TEXTS.items()}
NUMBERS = {name: number for name, (text, number) in TEXTS.items()}


def calls_in_turn(count):
    """A phrase of so many calls, one behind another, none of them within another."""
    if count == 0:
        return 0
    if count == 1:
        return ("call", ("fun", "x", "x"), 0)
    return ("plus", calls_in_turn(count // 2), calls_in_turn(count - count // 2))


def calls_within(count):
    """A phrase in which so many calls are under way at once, and no more are begun."""
    return f"(ring ((f x (if x (call f (minus x 1)) 7))) (call f {count - 1}))"
