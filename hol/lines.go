package hol

// The axioms, each one with its name and its proposition.
const holAxioms = `trueI True
falseE False ==> P
notI (P ==> False) ==> Not P
notE Not P ==> P ==> Q
conjI P ==> Q ==> And P Q
conjunct1 And P Q ==> P
conjunct2 And P Q ==> Q
disjI1 P ==> Or P Q
disjI2 Q ==> Or P Q
disjE Or P Q ==> (P ==> R) ==> (Q ==> R) ==> R
impI (P ==> Q) ==> Implies P Q
mp Implies P Q ==> P ==> Q
allI (!!x. P x) ==> All P
spec All P ==> P x
exI P x ==> Ex P
exE Ex P ==> (!!x. P x ==> Q) ==> Q
refl Equal x x
subst Equal x y ==> P x ==> P y
ext (!!x. Equal (f x) (g x)) ==> Equal f g
iffI (P ==> Q) ==> (Q ==> P) ==> Equal P Q
excluded_middle Or P (Not P)
the_eq Equal (The (%x. Equal x a)) a
if_true P ==> Equal (If P x y) x
if_false Not P ==> Equal (If P x y) y
eq_reflection Equal x y ==> (x == y)`

const natAxioms = `Suc_inject Equal (Suc m) (Suc n) ==> Equal m n
Suc_Zero Equal (Suc n) Zero ==> P
nat_induct P Zero ==> (!!n. P n ==> P (Suc n)) ==> P n
plus_Zero Equal (plus Zero n) n
plus_Suc Equal (plus (Suc m) n) (Suc (plus m n))
times_Zero Equal (times Zero n) Zero
times_Suc Equal (times (Suc m) n) (plus n (times m n))
le_Zero Equal (le Zero n) True
le_Suc_Zero Equal (le (Suc m) Zero) False
le_Suc Equal (le (Suc m) (Suc n)) (le m n)
less_Zero Equal (less m Zero) False
less_Zero_Suc Equal (less Zero (Suc n)) True
less_Suc Equal (less (Suc m) (Suc n)) (less m n)`

// The derived rules, each one with its name, its proposition and, behind |, its proof (prove.go).
const holRules = `conjE And P Q ==> (P ==> Q ==> R) ==> R | \h k. k (conjunct1 h) (conjunct2 h)
impE Implies P Q ==> P ==> (Q ==> R) ==> R | \h p k. k (mp h p)
allE All P ==> (P x ==> R) ==> R | \h k. k (spec[x := x] h)
iffD1 Equal P Q ==> P ==> Q | \h p. subst[P := %P. P] h p
iffD2 Equal P Q ==> Q ==> P | \h q. subst[P := %P. P] (sym h) q
classical (Not P ==> P) ==> P | \h. disjE excluded_middle[P := P] (\p. p) h
ccontr (Not P ==> False) ==> P | \h. disjE excluded_middle[P := P] (\p. p) (\n. falseE (h n))
sym Equal x y ==> Equal y x | \h. subst[P := %z. Equal z x] h refl
trans Equal x y ==> Equal y z ==> Equal x z | \h k. subst[P := %z. Equal x z] k h
meta_eq (x == y) ==> Equal x y
arg_cong Equal x y ==> Equal (f x) (f y) | \h. subst[P := %z. Equal (f x) (f z)] h refl
fun_cong Equal f g ==> Equal (f x) (g x) | \h. subst[P := %g. Equal (f x) (g x)] h refl
cong Equal f g ==> Equal x y ==> Equal (f x) (g y) | \h k. trans (fun_cong[x := x] h) (arg_cong[f := g] k)
the_equality P a ==> (!!x. P x ==> Equal x a) ==> Equal (The P) a | \h k. trans (arg_cong[f := %P. The P] (ext[f := P; g := %x. Equal x a] (\x. iffI (\p. k {x} p) (\e. subst[P := P] (sym e) h)))) the_eq
eq_True P ==> Equal P True | \h. iffI (\p. trueI) (\t. h)
eq_False Not P ==> Equal P False | \h. iffI (\p. notE h p) (\f. falseE f)
not_not Equal (Not (Not P)) P | iffI (\h. ccontr (\n. notE h n)) (\p. notI (\n. notE n p))
not_conj Equal (Not (And P Q)) (Or (Not P) (Not Q)) | iffI (\h. disjE excluded_middle[P := P] (\p. disjI2 (notI (\q. notE h (conjI p q)))) (\n. disjI1 n)) (\h. notI (\c. disjE h (\n. notE n (conjunct1 c)) (\n. notE n (conjunct2 c))))
not_disj Equal (Not (Or P Q)) (And (Not P) (Not Q)) | iffI (\h. conjI (notI (\p. notE h (disjI1 p))) (notI (\q. notE h (disjI2 q)))) (\h. notI (\d. disjE d (\p. notE (conjunct1 h) p) (\q. notE (conjunct2 h) q)))
not_imp Equal (Not (Implies P Q)) (And P (Not Q)) | iffI (\h. conjI (ccontr (\n. notE h (impI (\p. notE n p)))) (notI (\q. notE h (impI (\p. q))))) (\h. notI (\c. notE (conjunct2 h) (mp c (conjunct1 h))))
imp_disj Equal (Implies P Q) (Or (Not P) Q) | iffI (\h. disjE excluded_middle[P := P] (\p. disjI2 (mp h p)) (\n. disjI1 n)) (\h. impI (\p. disjE h (\n. notE n p) (\q. q)))
not_all Equal (Not (All P)) (Ex (%x. Not (P x))) | iffI (\h. ccontr (\n. notE h (allI (\x. ccontr (\c. notE n (exI[x := x] c)))))) (\h. notI (\c. exE h (\x n. notE n (spec[x := x] c))))
not_ex Equal (Not (Ex P)) (All (%x. Not (P x))) | iffI (\h. allI (\x. notI (\p. notE h (exI[x := x] p)))) (\h. notI (\e. exE e (\x p. notE (spec[x := x] h) p)))
and_True Equal (And True P) P | iffI (\h. conjunct2 h) (\p. conjI trueI p)
and_True2 Equal (And P True) P | iffI (\h. conjunct1 h) (\p. conjI p trueI)
and_False Equal (And False P) False | iffI (\h. conjunct1 h) (\f. falseE f)
and_False2 Equal (And P False) False | iffI (\h. conjunct2 h) (\f. falseE f)
or_True Equal (Or True P) True | eq_True (disjI1 trueI)
or_True2 Equal (Or P True) True | eq_True (disjI2 trueI)
or_False Equal (Or False P) P | iffI (\h. disjE h (\f. falseE f) (\p. p)) (\p. disjI2 p)
or_False2 Equal (Or P False) P | iffI (\h. disjE h (\p. p) (\f. falseE f)) (\p. disjI1 p)
imp_True Equal (Implies True P) P | iffI (\h. mp h trueI) (\p. impI (\t. p))
imp_True2 Equal (Implies P True) True | eq_True (impI (\p. trueI))
imp_False Equal (Implies False P) True | eq_True (impI (\f. falseE f))
imp_False2 Equal (Implies P False) (Not P) | iffI (\h. notI (\p. mp h p)) (\n. impI (\p. notE n p))
not_True Equal (Not True) False | eq_False (notI (\n. notE n trueI))
not_False Equal (Not False) True | eq_True (notI (\f. f))
eq_refl Equal (Equal x x) True | eq_True refl
all_simp Equal (All (%x. P)) P | iffI (\h. spec[x := x] h) (\p. allI (\x. p))
ex_simp Equal (Ex (%x. P)) P | iffI (\h. exE h (\x p. p)) (\p. exI[x := x] p)
if_True Equal (If True x y) x | if_true trueI
if_False Equal (If False x y) y | if_false (notI (\f. f))
conj_cong Equal P P' ==> (P' ==> Equal Q Q') ==> Equal (And P Q) (And P' Q') | \h k. iffI (\c. conjI (iffD1 h (conjunct1 c)) (iffD1 (k (iffD1 h (conjunct1 c))) (conjunct2 c))) (\c. conjI (iffD2 h (conjunct1 c)) (iffD2 (k (conjunct1 c)) (conjunct2 c)))
imp_cong Equal P P' ==> (P' ==> Equal Q Q') ==> Equal (Implies P Q) (Implies P' Q') | \h k. iffI (\c. impI (\p. iffD1 (k p) (mp c (iffD2 h p)))) (\c. impI (\p. iffD2 (k (iffD1 h p)) (mp c (iffD1 h p))))
if_cong Equal P Q ==> (Q ==> Equal x u) ==> (Not Q ==> Equal y v) ==> Equal (If P x y) (If Q u v) | \h k l. disjE excluded_middle[P := Q] (\q. trans (if_true[P := P; x := x; y := y] (iffD2 h q)) (trans (k q) (sym (if_true[P := Q; x := u; y := v] q)))) (\n. trans (if_false[P := P; x := x; y := y] (notI (\p. notE n (iffD1 h p)))) (trans (l n) (sym (if_false[P := Q; x := u; y := v] n))))
if_split Equal (P (If Q x y)) (And (Implies Q (P x)) (Implies (Not Q) (P y))) | disjE excluded_middle[P := Q] (\q. iffI (\h. conjI (impI (\r. subst[P := P] (if_true[P := Q; x := x; y := y] q) h)) (impI (\n. notE n q))) (\c. subst[P := P] (sym (if_true[P := Q; x := x; y := y] q)) (mp (conjunct1 c) q))) (\n. iffI (\h. conjI (impI (\q. notE n q)) (impI (\r. subst[P := P] (if_false[P := Q; x := x; y := y] n) h))) (\c. subst[P := P] (sym (if_false[P := Q; x := x; y := y] n)) (mp (conjunct2 c) n)))`

const natRules = `plus_Zero2 Equal (plus n Zero) n | nat_induct[P := %n. Equal (plus n Zero) n] plus_Zero (\n h. trans plus_Suc (arg_cong[f := Suc] h))
plus_Suc2 Equal (plus m (Suc n)) (Suc (plus m n)) | nat_induct[P := %m. Equal (plus m (Suc n)) (Suc (plus m n))] (trans plus_Zero (sym (arg_cong[f := Suc] plus_Zero))) (\m h. trans plus_Suc (trans (arg_cong[f := Suc] h) (sym (arg_cong[f := Suc] plus_Suc))))
plus_commute Equal (plus m n) (plus n m) | nat_induct[P := %m. Equal (plus m n) (plus n m)] (trans plus_Zero (sym plus_Zero2)) (\m h. trans plus_Suc (trans (arg_cong[f := Suc] h) (sym plus_Suc2)))
plus_assoc Equal (plus (plus k m) n) (plus k (plus m n)) | nat_induct[P := %k. Equal (plus (plus k m) n) (plus k (plus m n))] (trans (arg_cong[f := %k. plus k n] plus_Zero) (sym plus_Zero)) (\k h. trans (arg_cong[f := %k. plus k n] plus_Suc[m := k; n := m]) (trans plus_Suc (trans (arg_cong[f := Suc] h) (sym plus_Suc))))
plus_left_commute Equal (plus k (plus m n)) (plus m (plus k n)) | trans (sym plus_assoc) (trans (arg_cong[f := %k. plus k n] plus_commute[m := k; n := m]) plus_assoc)
plus_cancel Equal (plus k m) (plus k n) ==> Equal m n | \h. mp (nat_induct[P := %k. Implies (Equal (plus k m) (plus k n)) (Equal m n); n := k] (impI (\e. trans (sym plus_Zero) (trans e plus_Zero))) (\k ih. impI (\e. mp ih (Suc_inject (trans (sym plus_Suc) (trans e plus_Suc)))))) h
Suc_eq Equal (Equal (Suc m) (Suc n)) (Equal m n) | iffI (\h. Suc_inject h) (\h. arg_cong[f := Suc] h)
Suc_not_Zero Equal (Equal (Suc n) Zero) False | eq_False (notI (\h. Suc_Zero h))
Zero_not_Suc Equal (Equal Zero (Suc n)) False | eq_False (notI (\h. Suc_Zero (sym h)))
le_refl le n n | nat_induct[P := %n. le n n] (iffD2 le_Zero trueI) (\n h. iffD2 le_Suc h)
le_trans le k m ==> le m n ==> le k n | \h l. exE (le_diff h) (\m_1 a. exE (le_diff l) (\m_2 b. subst[P := %m. le k m] (sym (trans b (trans (arg_cong[f := %m. plus m m_2] a) plus_assoc))) le_sum))
le_antisym le m n ==> le n m ==> Equal m n | \h l. mp (mp (both[D := %m. %n. Implies (le m n) (Implies (le n m) (Equal m n)); m := m; n := n] (\n. impI (\h. impI (\l. nat_cases[n := n] (\e. sym e) (\m e. falseE (iffD1 le_Suc_Zero[m := m] (subst[P := %n. le n Zero] e l)))))) (\m. impI (\h. falseE (iffD1 le_Suc_Zero[m := m] h))) (\m n ih. impI (\h. impI (\l. arg_cong[f := Suc] (mp (mp ih (iffD1 le_Suc h)) (iffD1 le_Suc l)))))) h) l
le_total Or (le m n) (le n m) | both[D := %m. %n. Or (le m n) (le n m)] (\n. disjI1 (iffD2 le_Zero trueI)) (\m. disjI2 (iffD2 le_Zero trueI)) (\m n h. disjE h (\l. disjI1 (iffD2 le_Suc l)) (\l. disjI2 (iffD2 le_Suc l)))
le_plus le m (plus n m) | subst[P := %k. le m k] plus_commute[m := m; n := n] le_sum
plus_le_mono le k m ==> le i n ==> le (plus k i) (plus m n) | \h l. le_trans (iffD2 plus_le_cancel[k := k; m := i; n := n] l) (subst[P := %k. le k (plus m n)] plus_commute[m := n; n := k] (subst[P := %i. le (plus n k) i] plus_commute[m := n; n := m] (iffD2 plus_le_cancel h)))
plus_le_cancel Equal (le (plus k m) (plus k n)) (le m n) | nat_induct[P := %k. Equal (le (plus k m) (plus k n)) (le m n)] (le_equal plus_Zero plus_Zero) (\k h. trans (le_equal plus_Suc[m := k; n := m] plus_Suc[m := k; n := n]) (trans le_Suc h))
less_le Equal (less m n) (le (Suc m) n) | both[D := %m. %n. Equal (less m n) (le (Suc m) n)] (\n. nat_induct[P := %n. Equal (less Zero n) (le (Suc Zero) n)] (trans less_Zero (sym le_Suc_Zero)) (\n h. trans less_Zero_Suc (sym (trans le_Suc le_Zero)))) (\m. trans less_Zero (sym le_Suc_Zero)) (\m n h. trans less_Suc (trans h (sym le_Suc)))
not_le Equal (Not (le m n)) (less n m) | both[D := %m. %n. Equal (Not (le m n)) (less n m)] (\n. trans (arg_cong[f := Not] le_Zero) (trans not_True (sym less_Zero))) (\m. trans (arg_cong[f := Not] le_Suc_Zero) (trans not_False (sym less_Zero_Suc))) (\m n h. trans (arg_cong[f := Not] le_Suc) (trans h (sym less_Suc)))
not_less Equal (Not (less m n)) (le n m) | trans (arg_cong[f := Not] (sym not_le[m := n; n := m])) not_not
le_diff le m n ==> Ex (%k. Equal n (plus m k)) | \h. mp (both[D := %m. %n. Implies (le m n) (Ex (%k. Equal n (plus m k))); m := m; n := n] (\n. impI (\h. exI[x := n] (sym plus_Zero))) (\m. impI (\h. falseE (iffD1 le_Suc_Zero[m := m] h))) (\m n ih. impI (\h. exE (mp ih (iffD1 le_Suc h)) (\k e. exI[x := k] (trans (arg_cong[f := Suc] e) (sym plus_Suc)))))) h
nat_cases (Equal n Zero ==> P) ==> (!!m. Equal n (Suc m) ==> P) ==> P | \h k. mp (nat_induct[P := %m. Implies (Equal n m) P; n := n] (impI (\e. h e)) (\m ih. impI (\e. k {m} e))) refl`

// Rules that are not those of the document, which other packages use, and the proofs of others.
const holLemmas = `twiceE Not (Not P) ==> (P ==> R) ==> R | \h k. k (ccontr (\n. notE h n))
not_disjE Not (Or P Q) ==> (Not P ==> Not Q ==> R) ==> R | \h k. k (notI (\p. notE h (disjI1 p))) (notI (\q. notE h (disjI2 q)))
not_impE Not (Implies P Q) ==> (P ==> Not Q ==> R) ==> R | \h k. k (ccontr (\n. notE h (impI (\p. notE n p)))) (notI (\q. notE h (impI (\p. q))))
imp_cases Implies P Q ==> (Not P ==> R) ==> (Q ==> R) ==> R | \h k l. disjE excluded_middle[P := P] (\p. l (mp h p)) k
not_conjE Not (And P Q) ==> (Not P ==> R) ==> (Not Q ==> R) ==> R | \h k l. disjE excluded_middle[P := P] (\p. l (notI (\q. notE h (conjI p q)))) k
iff_cases Equal P Q ==> (And P Q ==> R) ==> (And (Not P) (Not Q) ==> R) ==> R | \h k l. disjE excluded_middle[P := P] (\p. k (conjI p (iffD1 h p))) (\n. l (conjI n (notI (\q. notE n (iffD2 h q)))))
not_iffE Not (Equal P Q) ==> (And P (Not Q) ==> R) ==> (And (Not P) Q ==> R) ==> R | \h k l. disjE excluded_middle[P := P] (\p. k (conjI p (notI (\q. notE h (iffI (\r. q) (\r. p)))))) (\n. l (conjI n (ccontr (\o. notE h (iffI (\p. notE n p) (\q. notE o q))))))
not_exE Not (Ex P) ==> (Not (P x) ==> R) ==> R | \h k. k (notI (\p. notE h (exI[x := x] p)))
and_clash1 And P Q ==> Not P ==> False | \h n. notE n (conjunct1 h)
and_clash2 And P Q ==> Not Q ==> False | \h n. notE n (conjunct2 h)
and_clash3 Not (And P Q) ==> P ==> Q ==> False | \n p q. notE n (conjI p q)
or_clash1 Or P Q ==> Not P ==> Not Q ==> False | \h n o. disjE h (\p. notE n p) (\q. notE o q)
or_clash2 Not (Or P Q) ==> P ==> False | \n p. notE n (disjI1 p)
or_clash3 Not (Or P Q) ==> Q ==> False | \n q. notE n (disjI2 q)
imp_clash1 Implies P Q ==> P ==> Not Q ==> False | \h p n. notE n (mp h p)
imp_clash2 Not (Implies P Q) ==> Not P ==> False | \n o. notE n (impI (\p. notE o p))
imp_clash3 Not (Implies P Q) ==> Q ==> False | \n q. notE n (impI (\p. q))
iff_clash1 Equal P Q ==> P ==> Not Q ==> False | \h p n. notE n (iffD1 h p)
iff_clash2 Equal P Q ==> Not P ==> Q ==> False | \h n q. notE n (iffD2 h q)
iff_clash3 Not (Equal P Q) ==> Not P ==> Not Q ==> False | \h n o. notE h (iffI (\p. notE n p) (\q. notE o q))
iff_clash4 Not (Equal P Q) ==> P ==> Q ==> False | \h p q. notE h (iffI (\r. q) (\r. p))
true_clash Not True ==> False | \n. notE n trueI
false_clash False ==> False | \f. f
not_not_intro P ==> Not (Not P) | \p. notI (\n. notE n p)
not_allE Not (All P) ==> (!!x. Not (P x) ==> R) ==> R | \h k. ccontr (\n. notE h (allI (\x. ccontr (\c. notE n (k {x} c)))))`

const natLemmas = `both (!!n. D Zero n) ==> (!!m. D (Suc m) Zero) ==> (!!m. !!n. D m n ==> D (Suc m) (Suc n)) ==> D m n | \h k l. spec[P := %n. D m n; x := n] (nat_induct[P := %m. All (%n. D m n); n := m] (allI (\n. h {n})) (\m ih. allI (\n. nat_induct[P := %n. D (Suc m) n] (k {m}) (\n o. l {m} {n} (spec[P := %n. D m n; x := n] ih)))))
le_sum le m (plus m n) | nat_induct[P := %m. le m (plus m n)] (iffD2 le_Zero trueI) (\m h. subst[P := %k. le (Suc m) k] (sym plus_Suc) (iffD2 le_Suc h))
le_equal Equal k m ==> Equal i n ==> Equal (le k i) (le m n) | \h l. cong (arg_cong[f := %k. %i. le k i] h) l`
