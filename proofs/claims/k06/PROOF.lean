import PyProof.Rows.All
import Wide.All
import OpenK.AllK
import Wide.FinOn
import HandS.ForMost
import HandS.Walk
import HandS.Codes
import HandS.IsInst
import HandS.Flow
import HandS.ForExc
import HandS.ExcInit
import HandS.ExcField
import PyProof.StrBlock2
import PyProof.ListStr
import HandS.More
import PySem.Challenge.RW_wordrooms_k06_whole_all_small_words
import HandS.StrMore
set_option Elab.async false
set_option linter.all false
set_option maxRecDepth 100000
namespace My
open PySem L2 SX
/-! ### signs and texts -/
theorem cnt_is (c : Nat) (l : List Nat) : Txt.count (S l) (S [c]) = ((l.count c : Nat) : Int) := by
  have h : Txt.count (S l) (S [c]) = PyProof.Rows.cnt c l := PyProof.Rows.count_cnt (S l) c
  rw [h]
  clear h
  induction l with
  | nil => rfl
  | cons a r ih =>
    rw [PyProof.Rows.cnt_cons, ih, List.count_cons]
    by_cases e : a = c
    · simp [e]; omega
    · simp [e]
theorem slice_nn (l : List Nat) (i j : Nat) (hi : i ≤ l.length) (hj : j ≤ l.length) : cutS (S l) (some (i : Int)) (some (j : Int)) = S ((l.drop i).take (j - i)) := by
  unfold cutS
  rw [S_len, HT.sIx_nat, HT.sIx_nat, Nat.min_eq_left hi, Nat.min_eq_left hj]
theorem slice_0n (l : List Nat) (j : Nat) (hj : j ≤ l.length) : cutS (S l) none (some (j : Int)) = S (l.take j) := by
  unfold cutS
  rw [S_len, HT.sIx_none, HT.sIx_nat, Nat.min_eq_left hj, Nat.sub_zero, List.drop_zero]
theorem dec_S (a b : List Nat) : decide (V.str (S a) = V.str (S b)) = decide (a = b) := by
  by_cases e : a = b
  · subst e; simp
  · have h : ¬ V.str (S a) = V.str (S b) := fun q => e (S_inj (V.str.inj q))
    rw [decide_eq_false h, decide_eq_false e]
theorem at_S {l : List Nat} {i : Nat} {c : Nat} (h : l[i]? = some c) : atI (S l).cps.toList (i : Int) = some c := atI_nat h
theorem size_S {l : List Nat} (h : l.length ≤ 100000) : (S l).length ≤ sizeLine := by
  rw [S_len]; exact Nat.le_trans h (by decide)
theorem lit_ob : (Str.ofString "{") = S [123] := by decide +kernel
theorem lit_cb : (Str.ofString "}") = S [125] := by decide +kernel
theorem lit_bs : (Str.ofString "\\") = S [92] := by decide +kernel
theorem lit_n : (Str.ofString "n") = S [110] := by decide +kernel
theorem lit_bsn : (Str.ofString "\\n") = S [92, 110] := by decide +kernel
theorem lit_nl : (Str.ofString "\n") = S [10] := by decide +kernel
theorem lit_e : (Str.ofString "") = S [] := by decide +kernel
theorem lit_cc : (Str.ofString "{}") = S [123, 125] := by decide +kernel
def specL : List Nat := [32, 92, 123, 125, 34, 36, 91, 93, 59, 35]
theorem lit_spec : (Str.ofString " \\{}\"$[];#") = S specL := by decide +kernel
/-! ### a word written -/
def tsig (c : Nat) : List Nat := if c = 10 then [92, 110] else if c ∈ specL then [92, c] else [c]
def turn (l : List Nat) : List Nat := l.flatMap tsig
theorem tsig_len (c : Nat) : (tsig c).length ≤ 2 := by
  unfold tsig
  split
  · simp
  · split <;> simp
theorem turn_len (l : List Nat) : (turn l).length ≤ 2 * l.length := by
  unfold turn
  induction l with
  | nil => simp
  | cons c r ih =>
    rw [List.flatMap_cons, List.length_append, List.length_cons]
    have := tsig_len c
    omega
theorem turn_snoc (l : List Nat) (c : Nat) : turn (l ++ [c]) = turn l ++ tsig c := by
  unfold turn
  rw [List.flatMap_append]
  simp
def dep (l : List Nat) : Int := (l.count 123 : Int) - (l.count 125 : Int)
def dl (c : Nat) : Int := if c = 123 then 1 else if c = 125 then -1 else 0
theorem dep_nil : dep [] = 0 := by simp [dep]
theorem dep_cons (c : Nat) (r : List Nat) : dep (c :: r) = dl c + dep r := by
  unfold dep dl
  rw [List.count_cons, List.count_cons]
  by_cases h1 : c = 123
  · subst h1; simp; omega
  · by_cases h2 : c = 125
    · subst h2; simp; omega
    · simp [h1, h2]
def Pairs (l : List Nat) : Bool := (List.range (l.length + 1)).all (fun i => decide (0 ≤ dep (l.take i))) && decide (dep l = 0)
def wtext (l : List Nat) : List Nat := if l = [] then [123, 125] else if l.length + 2 ≤ (turn l).length ∧ Pairs l = true then 123 :: (l ++ [125]) else turn l
/-- where the brace pairs: many open, at place k -/
def pend (m : Int) (k : Nat) : List Nat → Option Nat
  | [] => none
  | c :: r => if c = 123 then pend (m + 1) (k + 1) r else if c = 125 then (if m - 1 = 0 then some k else pend (m - 1) (k + 1) r) else pend m (k + 1) r
theorem pend_ok : ∀ (r : List Nat) (m : Int) (k : Nat), 1 ≤ m → (pend m k (r ++ [125]) = some (k + r.length) ↔ (∀ i, i ≤ r.length → 1 ≤ m + dep (r.take i)) ∧ m + dep r = 1)
  | [], m, k, hm => by
    show (if (125 : Nat) = 123 then _ else if (125 : Nat) = 125 then (if m - 1 = 0 then some k else pend (m - 1) (k + 1) []) else _) = some (k + 0) ↔ _
    rw [if_neg (by decide), if_pos rfl]
    by_cases h : m - 1 = 0
    · rw [if_pos h]
      refine ⟨fun _ => ⟨fun i hi => ?_, ?_⟩, fun _ => rfl⟩
      · simp [dep_nil]; omega
      · rw [dep_nil]; omega
    · rw [if_neg h]
      refine ⟨fun q => by simp [pend] at q, fun ⟨_, q⟩ => ?_⟩
      rw [dep_nil] at q
      omega
  | c :: r, m, k, hm => by
    have key : (∀ i, i ≤ (c :: r).length → 1 ≤ m + dep ((c :: r).take i)) ↔ ∀ i, i ≤ r.length → 1 ≤ (m + dl c) + dep (r.take i) := by
      constructor
      · intro h i hi
        have := h (i + 1) (by simp; omega)
        rw [List.take_succ_cons, dep_cons] at this
        omega
      · intro h i hi
        cases i with
        | zero => simp [dep_nil]; omega
        | succ i =>
          rw [List.take_succ_cons, dep_cons]
          have := h i (by simp at hi; omega)
          omega
    rw [key, dep_cons]
    have hk : k + (c :: r).length = (k + 1) + r.length := by simp; omega
    rw [hk]
    show (if c = 123 then pend (m + 1) (k + 1) (r ++ [125]) else if c = 125 then (if m - 1 = 0 then some k else pend (m - 1) (k + 1) (r ++ [125])) else pend m (k + 1) (r ++ [125])) = _ ↔ _
    by_cases h1 : c = 123
    · rw [if_pos h1, pend_ok r (m + 1) (k + 1) (by omega)]
      have : dl c = 1 := by simp [dl, h1]
      rw [this]
      constructor
      · rintro ⟨a, b⟩; exact ⟨a, by omega⟩
      · rintro ⟨a, b⟩; exact ⟨a, by omega⟩
    · rw [if_neg h1]
      by_cases h2 : c = 125
      · have hd : dl c = -1 := by simp [dl, h2]
        rw [if_pos h2, hd]
        by_cases h3 : m - 1 = 0
        · rw [if_pos h3]
          constructor
          · intro q
            have := Option.some.inj q
            omega
          · rintro ⟨a, _⟩
            have := a 0 (Nat.zero_le _)
            simp [dep_nil] at this
            omega
        · rw [if_neg h3, pend_ok r (m - 1) (k + 1) (by omega)]
          constructor
          · rintro ⟨a, b⟩; exact ⟨fun i hi => by have := a i hi; omega, by omega⟩
          · rintro ⟨a, b⟩; exact ⟨fun i hi => by have := a i hi; omega, by omega⟩
      · have hd : dl c = 0 := by simp [dl, h1, h2]
        rw [if_neg h2, hd, pend_ok r m (k + 1) hm]
        constructor
        · rintro ⟨a, b⟩; exact ⟨fun i hi => by have := a i hi; omega, by omega⟩
        · rintro ⟨a, b⟩; exact ⟨fun i hi => by have := a i hi; omega, by omega⟩
theorem pairs_iff (l : List Nat) : Pairs l = true ↔ (∀ i, i ≤ l.length → 0 ≤ dep (l.take i)) ∧ dep l = 0 := by
  unfold Pairs
  rw [Bool.and_eq_true, List.all_eq_true, decide_eq_true_eq]
  refine and_congr_left fun _ => ⟨fun h i hi => of_decide_eq_true (h i (List.mem_range.mpr (by omega))), fun h i hi => decide_eq_true (h i (by have := List.mem_range.mp hi; omega))⟩
theorem pend_pairs (l : List Nat) : pend 0 0 (123 :: (l ++ [125])) = some (l.length + 1) ↔ Pairs l = true := by
  show (if (123 : Nat) = 123 then pend (0 + 1) (0 + 1) (l ++ [125]) else _) = _ ↔ _
  rw [if_pos rfl, pairs_iff]
  have := pend_ok l (0 + 1) (0 + 1) (by omega)
  rw [show 0 + 1 + l.length = l.length + 1 by omega] at this
  rw [this]
  constructor
  · rintro ⟨a, b⟩; exact ⟨fun i hi => by have := a i hi; omega, by omega⟩
  · rintro ⟨a, b⟩; exact ⟨fun i hi => by have := a i hi; omega, by omega⟩
/-- the next sign -/
theorem pend_at {l : List Nat} {i : Nat} {c : Nat} (h : l[i]? = some c) (m : Int) (k : Nat) :
    pend m k (l.drop i) = if c = 123 then pend (m + 1) (k + 1) (l.drop (i + 1)) else if c = 125 then (if m - 1 = 0 then some k else pend (m - 1) (k + 1) (l.drop (i + 1))) else pend m (k + 1) (l.drop (i + 1)) := by
  obtain ⟨hl, e⟩ := List.getElem?_eq_some_iff.mp h
  rw [List.drop_eq_getElem_cons hl, e]
  rfl
end My
namespace My
open PySem L2 SX C8
theorem ite_S {a b : List Nat} {z : Str} {A B : Prop} (hz : z = S b) (h1 : a = b → A) (h2 : a ≠ b → B) : if decide (V.str (S a) = V.str z) = true then A else B := by
  subst hz
  rw [dec_S]
  by_cases e : a = b
  · rw [decide_eq_true e, if_pos rfl]; exact h1 e
  · rw [decide_eq_false e, if_neg Bool.false_ne_true]; exact h2 e
theorem iteD {p A B : Prop} [Decidable p] (h1 : p → A) (h2 : ¬ p → B) : if decide p = true then A else B := by
  by_cases e : p
  · rw [decide_eq_true e, if_pos rfl]; exact h1 e
  · rw [decide_eq_false e, if_neg Bool.false_ne_true]; exact h2 e
theorem iteI {i j : Int} {A B : Prop} (h1 : i = j → A) (h2 : i ≠ j → B) : if decide (V.int i = V.int j) = true then A else B :=
  iteD (fun e => h1 (V.int.inj e)) (fun e => h2 fun q => e (congrArg V.int q))
def oI : Option Nat → V
  | none => .non
  | some k => .int (k : Int)
/-! ### promises of the program's defs -/
def spPend : Sp := fun vs H Q _ => ∃ (l : List Nat) (i : Nat), vs = [.str (S l), .int (i : Int)] ∧ l.length ≤ 90000 ∧ i ≤ l.length ∧ Q (oI (pend 0 i (l.drop i))) H
def spStand : Sp := fun vs H Q _ => ∃ (l : List Nat), vs = [.str (S l)] ∧ l.length ≤ 80000 ∧ Q (.bl (Pairs l)) H
def spTsig : Sp := fun vs H Q _ => ∃ (c : Nat), vs = [.str (S [c])] ∧ Q (.str (S (tsig c))) H
def spTurned : Sp := fun vs H Q _ => ∃ (l : List Nat), vs = [.str (S l)] ∧ l.length ≤ 40000 ∧ ∀ H', Same H H' → Q (.str (S (turn l))) H'
def spWtext : Sp := fun vs H Q _ => ∃ (l : List Nat), vs = [.str (S l)] ∧ l.length ≤ 40000 ∧ ∀ H', Same H H' → Q (.str (S (wtext l))) H'
def spLturned : Sp := fun vs H Q _ => ∃ (l : List Nat), vs = [.str (S l)] ∧ l.length ≤ 40000 ∧ Q (.str (S (turn l))) H
def spLpairs : Sp := fun vs H Q _ => ∃ (l : List Nat), vs = [.str (S l)] ∧ l.length ≤ 40000 ∧ ∀ H', Same H H' → Q (.bl (Pairs l)) H'
/-! ### the law's bag -/
structure BagAt (H : Hp) (b l : Addr) : Prop where
  ex : ∃ (ns : List Int) (i : Nat) (cur salt : Int), H b = some (.lst [.ref l, .int (i : Int), .int cur, .int salt]) ∧ H l = some (.lst (ns.map V.int)) ∧ l ≠ b ∧ ns.length ≤ 63 ∧ i ≤ ns.length ∧ 0 ≤ cur ∧ 0 ≤ salt ∧ salt < 2147483647
theorem BagAt.mono {H H' : Hp} {b l : Addr} (B : BagAt H b l) (e : Same H H') : BagAt H' b l := by
  obtain ⟨ns, i, cur, salt, h1, h2, h3⟩ := B.ex
  exact ⟨ns, i, cur, salt, e _ _ h1, e _ _ h2, h3⟩
theorem BagAt.upd {H : Hp} {b l D : Addr} {o : HO} (B : BagAt H b l) (n1 : b ≠ D) (n2 : l ≠ D) : BagAt (L2.upd H D o) b l := by
  obtain ⟨ns, i, cur, salt, h1, h2, h3⟩ := B.ex
  exact ⟨ns, i, cur, salt, by rw [upd_ne n1]; exact h1, by rw [upd_ne n2]; exact h2, h3⟩
theorem BagAt.nb {H : Hp} {b l D : Addr} (B : BagAt H b l) (h : H D = none) : b ≠ D := by
  obtain ⟨ns, i, cur, salt, h1, h2, h3⟩ := B.ex
  exact ne_of_none h1 h
theorem BagAt.nl {H : Hp} {b l D : Addr} (B : BagAt H b l) (h : H D = none) : l ≠ D := by
  obtain ⟨ns, i, cur, salt, h1, h2, h3⟩ := B.ex
  exact ne_of_none h2 h
/-- all but b stays -/
def But (b : Addr) (H H' : Hp) : Prop := ∀ c o, H c = some o → c ≠ b → H' c = some o
theorem But.refl (b : Addr) (H : Hp) : But b H H := fun _ _ h _ => h
theorem But.trans {b : Addr} {H H1 H2 : Hp} (a : But b H H1) (c : But b H1 H2) : But b H H2 := fun x o h n => c x o (a x o h n) n
theorem Same.but {b : Addr} {H H' : Hp} (e : Same H H') : But b H H' := fun x o h _ => e x o h
theorem same_new {H : Hp} {p : Addr} (h : H p = none) (o : HO) : Same H (upd H p o) := fun b u q => by rw [upd_ne (ne_of_none q h)]; exact q
theorem same_mut {H H' : Hp} {p : Addr} {o : HO} (e : Same H H') (h : H p = none) : Same H (upd H' p o) := fun a u ha => by
  rw [upd_ne (ne_of_none ha h)]
  exact e a u ha
theorem but_mut {b : Addr} {H H' : Hp} {p : Addr} {o : HO} (e : But b H H') (h : H p = none) : But b H (upd H' p o) := fun a u ha n => by
  rw [upd_ne (ne_of_none ha h)]
  exact e a u ha n
theorem but_upd {b : Addr} {H H' : Hp} {o : HO} (e : But b H H') : But b H (upd H' b o) := fun a u ha n => by
  rw [upd_ne n]
  exact e a u ha n
theorem But.seq {K : PySem.W.Frag} {b a : Addr} {H H' : Hp} {xs : List V} (e : But b H H') (n : a ≠ b) (h : SqL K H a xs) : SqL K H' a xs := by
  rcases h with (h | ⟨o, h⟩) | h
  · exact .inl (.inl (e _ _ h n))
  · exact .inl (.inr ⟨o, e _ _ h n⟩)
  · exact .inr h
def spBag (K : PySem.W.Frag) : Sp := fun vs H Q _ => ∃ (a : Addr) (ns : List Int), vs = [.ref a] ∧ SqL K H a (ns.map V.int) ∧ ns.length ≤ 63 ∧ ∀ (b l : Addr) H', Same H H' → H b = none → BagAt H' b l → Q (.ref b) H'
def spPull : Sp := fun vs H Q _ => ∃ (b l : Addr) (n : Int), vs = [.ref b, .int n] ∧ BagAt H b l ∧ 0 < n ∧ n < 1073741824 ∧ ∀ (r : Nat) H', (r : Int) < n → But b H H' → BagAt H' b l → Q (.int (r : Int)) H'
def spOf (K : PySem.W.Frag) : Sp := fun vs H Q _ => ∃ (b l : Addr) (x : V), vs = [.ref b, x] ∧ BagAt H b l ∧
  ((∃ (a : Addr) (xs : List V), x = .ref a ∧ a ≠ b ∧ SqL K H a xs ∧ 0 < xs.length ∧ xs.length ≤ 1000 ∧ ∀ (v : V) H', v ∈ xs → But b H H' → BagAt H' b l → Q v H') ∨
   (∃ (z : List Nat), x = .str (S z) ∧ 0 < z.length ∧ z.length ≤ 1000 ∧ ∀ (c : Nat) H', c ∈ z → But b H H' → BagAt H' b l → Q (.str (S [c])) H'))
/-- a drawn text: of at most so many signs, each of those that the law has -/
def abc : List Nat := [97, 98, 32, 123, 125, 92, 10, 110, 120, 34, 36, 91, 93, 59, 35, 65, 122, 48, 57, 95, 45, 43, 33, 126, 99]
def spText : Sp := fun vs H Q _ => ∃ (b l : Addr) (n : Nat), vs = [.ref b, .int (n : Int)] ∧ BagAt H b l ∧ n ≤ 1000 ∧ ∀ (z : List Nat) H', z.length ≤ n → (∀ c ∈ z, c ∈ abc) → But b H H' → BagAt H' b l → Q (.str (S z)) H'
/-! ### two values that are told alike -/
def flatS : V → Bool
  | .non => true | .bl _ => true | .int _ => true | .str _ => true | _ => false
def Alike : Nat → Hp → V → V → Prop
  | 0, _, x, y => x = y ∧ flatS x = true
  | n + 1, H, x, y => (x = y ∧ flatS x = true) ∨ ∃ (a b : Addr) (xs ys : List V), x = .ref a ∧ y = .ref b ∧ ((H a = some (.lst xs) ∧ H b = some (.lst ys)) ∨ (H a = some (.tup xs) ∧ H b = some (.tup ys))) ∧
      xs.length = ys.length ∧ xs.length ≤ 10000 ∧ ∀ (i : Nat) (u v : V), xs[i]? = some u → ys[i]? = some v → Alike n H u v
theorem Alike.mono : ∀ {n : Nat} {H H' : Hp} {x y : V}, Same H H' → Alike n H x y → Alike n H' x y
  | 0, _, _, _, _, _, h => h
  | n + 1, H, H', x, y, e, h => by
    rcases h with h | ⟨a, b, xs, ys, h1, h2, h3, h4, h5, h6⟩
    · exact .inl h
    · refine .inr ⟨a, b, xs, ys, h1, h2, ?_, h4, h5, fun i u v hu hv => Alike.mono e (h6 i u v hu hv)⟩
      rcases h3 with ⟨p, q⟩ | ⟨p, q⟩
      · exact .inl ⟨e _ _ p, e _ _ q⟩
      · exact .inr ⟨e _ _ p, e _ _ q⟩
theorem Alike.flat {n : Nat} {H : Hp} {x : V} (h : flatS x = true) : Alike n H x x := by
  cases n with
  | zero => exact ⟨rfl, h⟩
  | succ n => exact .inl ⟨rfl, h⟩
def spLike : Nat → Sp
  | 0 => fun _ _ _ _ => False
  | n + 1 => fun vs H Q _ => ∃ (x y : V), vs = [x, y] ∧ Alike n H x y ∧ ∀ H', Same H H' → Q (.bl true) H'
/-- a script is handed in, True comes out -/
def spLaw (K : PySem.W.Frag) : Sp := fun vs H Q _ => ∃ (a : Addr) (ns : List Int), vs = [.ref a] ∧ SqL K H a (ns.map V.int) ∧ ns.length ≤ 63 ∧ ∀ H', Q (.bl true) H'
end My
namespace My
open PySem L2 SX
/-! ### reading a list's text -/
def White (c : Nat) : Prop := c = 32 ∨ c = 10
instance (c : Nat) : Decidable (White c) := inferInstanceAs (Decidable (_ ∨ _))
def whiteL : List Nat := [32, 10]
theorem lit_white : (Str.ofString " \n") = S whiteL := by decide +kernel
theorem mem_white (c : Nat) : c ∈ whiteL ↔ White c := by
  unfold whiteL White
  simp
def mean (c : Nat) : Nat := if c = 110 then 10 else c
def skipW : List Nat → Nat
  | [] => 0
  | c :: r => if White c then skipW r + 1 else 0
theorem skipW_le : ∀ l, skipW l ≤ l.length
  | [] => Nat.le_refl _
  | c :: r => by
    unfold skipW
    split
    · have := skipW_le r
      simp
      omega
    · simp
def rdBare : List Nat → Option (List Nat × Nat)
  | [] => some ([], 0)
  | c :: r => if White c then some ([], 0) else if c = 92 then (match r with | [] => none | d :: r' => (rdBare r').map fun p => (mean d :: p.1, p.2 + 2)) else (rdBare r).map fun p => (c :: p.1, p.2 + 1)
/-- the end of a word: white or nothing -/
def EndW : List Nat → Prop
  | [] => True
  | c :: _ => White c
/-- the word at the head of l: w, of n signs -/
inductive RdWord : List Nat → List Nat → Nat → Prop
  | braced {r : List Nat} {e : Nat} (h : pend 0 0 (123 :: r) = some e) (he : EndW ((123 :: r).drop (e + 1))) : RdWord (123 :: r) (((123 :: r).drop 1).take (e - 1)) (e + 1)
  | bare {c : Nat} {r w : List Nat} {n : Nat} (h1 : c ≠ 123) (h2 : ¬ White c) (h : rdBare (c :: r) = some (w, n)) : RdWord (c :: r) w n
/-- l is a text of ws -/
inductive Reads : List Nat → List (List Nat) → Prop
  | nil {l : List Nat} (h : l.drop (skipW l) = []) : Reads l []
  | cons {l w : List Nat} {n : Nat} {ws : List (List Nat)} (h : RdWord (l.drop (skipW l)) w n) (hn : 0 < n) (hr : Reads ((l.drop (skipW l)).drop n) ws) : Reads l (w :: ws)
theorem rdBare_le : ∀ (l w : List Nat) (n : Nat), rdBare l = some (w, n) → n ≤ l.length ∧ w.length ≤ n
  | [], w, n, h => by
    unfold rdBare at h
    cases h
    exact ⟨Nat.le_refl _, Nat.le_refl _⟩
  | c :: r, w, n, h => by
    unfold rdBare at h
    by_cases h1 : White c
    · rw [if_pos h1] at h
      cases h
      exact ⟨Nat.zero_le _, Nat.le_refl _⟩
    · rw [if_neg h1] at h
      by_cases h2 : c = 92
      · rw [if_pos h2] at h
        match r, h with
        | [], h => cases h
        | d :: r', h =>
          simp only [Option.map_eq_some_iff] at h
          obtain ⟨⟨w', n'⟩, h3, h4⟩ := h
          cases h4
          have := rdBare_le r' w' n' h3
          simp
          omega
      · rw [if_neg h2] at h
        simp only [Option.map_eq_some_iff] at h
        obtain ⟨⟨w', n'⟩, h3, h4⟩ := h
        cases h4
        have := rdBare_le r w' n' h3
        simp
        omega
theorem pend_more : ∀ (l t : List Nat) (m : Int) (k e : Nat), pend m k l = some e → pend m k (l ++ t) = some e
  | [], t, m, k, e, h => by cases h
  | c :: r, t, m, k, e, h => by
    show (if c = 123 then pend (m + 1) (k + 1) (r ++ t) else if c = 125 then (if m - 1 = 0 then some k else pend (m - 1) (k + 1) (r ++ t)) else pend m (k + 1) (r ++ t)) = some e
    have h' : (if c = 123 then pend (m + 1) (k + 1) r else if c = 125 then (if m - 1 = 0 then some k else pend (m - 1) (k + 1) r) else pend m (k + 1) r) = some e := h
    by_cases h1 : c = 123
    · rw [if_pos h1] at h' ⊢
      exact pend_more r t _ _ e h'
    · rw [if_neg h1] at h' ⊢
      by_cases h2 : c = 125
      · rw [if_pos h2] at h' ⊢
        by_cases h3 : m - 1 = 0
        · rw [if_pos h3] at h' ⊢
          exact h'
        · rw [if_neg h3] at h' ⊢
          exact pend_more r t _ _ e h'
      · rw [if_neg h2] at h' ⊢
        exact pend_more r t _ _ e h'
theorem pend_lt : ∀ (l : List Nat) (m : Int) (k e : Nat), pend m k l = some e → k ≤ e ∧ e < k + l.length
  | [], m, k, e, h => by cases h
  | c :: r, m, k, e, h => by
    have h' : (if c = 123 then pend (m + 1) (k + 1) r else if c = 125 then (if m - 1 = 0 then some k else pend (m - 1) (k + 1) r) else pend m (k + 1) r) = some e := h
    by_cases h1 : c = 123
    · rw [if_pos h1] at h'
      have := pend_lt r _ _ e h'
      simp
      omega
    · rw [if_neg h1] at h'
      by_cases h2 : c = 125
      · rw [if_pos h2] at h'
        by_cases h3 : m - 1 = 0
        · rw [if_pos h3] at h'
          cases h'
          simp
        · rw [if_neg h3] at h'
          have := pend_lt r _ _ e h'
          simp
          omega
      · rw [if_neg h2] at h'
        have := pend_lt r _ _ e h'
        simp
        omega
/-- the place counted from elsewhere -/
theorem pend_shift : ∀ (l : List Nat) (m : Int) (k j : Nat), pend m (k + j) l = (pend m k l).map (· + j)
  | [], m, k, j => rfl
  | c :: r, m, k, j => by
    show (if c = 123 then pend (m + 1) (k + j + 1) r else if c = 125 then (if m - 1 = 0 then some (k + j) else pend (m - 1) (k + j + 1) r) else pend m (k + j + 1) r) = (if c = 123 then pend (m + 1) (k + 1) r else if c = 125 then (if m - 1 = 0 then some k else pend (m - 1) (k + 1) r) else pend m (k + 1) r).map (· + j)
    have e : k + j + 1 = (k + 1) + j := by omega
    rw [e]
    split
    · exact pend_shift r _ _ _
    · split
      · split
        · rfl
        · exact pend_shift r _ _ _
      · exact pend_shift r _ _ _
theorem mean_of {c : Nat} (h : c ∈ specL) : mean c = c := by
  unfold mean
  rw [if_neg]
  intro e
  subst e
  revert h
  decide
theorem rdBare_tsig {c : Nat} {t w : List Nat} {n : Nat} (h : rdBare t = some (w, n)) : rdBare (tsig c ++ t) = some (c :: w, (tsig c).length + n) := by
  unfold tsig
  by_cases h1 : c = 10
  · rw [if_pos h1]
    show rdBare (92 :: 110 :: t) = _
    unfold rdBare
    rw [if_neg (by decide), if_pos rfl]
    show (rdBare t).map _ = _
    rw [h]
    subst h1
    show some (mean 110 :: w, n + 2) = some (10 :: w, 2 + n)
    rw [Nat.add_comm]
    rfl
  · rw [if_neg h1]
    by_cases h2 : c ∈ specL
    · rw [if_pos h2]
      show rdBare (92 :: c :: t) = _
      unfold rdBare
      rw [if_neg (by decide), if_pos rfl]
      show (rdBare t).map _ = _
      rw [h]
      show some (mean c :: w, n + 2) = some (c :: w, 2 + n)
      rw [mean_of h2, Nat.add_comm]
    · rw [if_neg h2]
      show rdBare (c :: t) = _
      have w1 : ¬ White c := by
        rintro (e | e)
        · exact h2 (by rw [e]; decide)
        · exact h1 e
      have w2 : ¬ c = 92 := fun e => h2 (by rw [e]; decide)
      unfold rdBare
      rw [if_neg w1, if_neg w2, h]
      show some (c :: w, n + 1) = some (c :: w, 1 + n)
      rw [Nat.add_comm]
theorem rdBare_end {t : List Nat} (h : EndW t) : rdBare t = some ([], 0) := by
  cases t with
  | nil => rfl
  | cons c r =>
    unfold rdBare
    rw [if_pos (show White c from h)]
theorem rdBare_turn {t : List Nat} (h : EndW t) : ∀ w : List Nat, rdBare (turn w ++ t) = some (w, (turn w).length)
  | [] => rdBare_end h
  | c :: r => by
    have e : turn (c :: r) = tsig c ++ turn r := by
      unfold turn
      rw [List.flatMap_cons]
    rw [e, List.append_assoc, rdBare_tsig (rdBare_turn h r), List.length_append]
/-- the head of a turned text -/
theorem tsig_head (c : Nat) : ∃ (d : Nat) (r : List Nat), tsig c = d :: r ∧ d ≠ 123 ∧ ¬ White d := by
  unfold tsig
  by_cases h1 : c = 10
  · rw [if_pos h1]; exact ⟨92, [110], rfl, by decide, by decide⟩
  · rw [if_neg h1]
    by_cases h2 : c ∈ specL
    · rw [if_pos h2]; exact ⟨92, [c], rfl, by decide, by decide⟩
    · rw [if_neg h2]
      refine ⟨c, [], rfl, fun e => h2 (by rw [e]; decide), ?_⟩
      rintro (e | e)
      · exact h2 (by rw [e]; decide)
      · exact h1 e
theorem skipW_no {c : Nat} {r : List Nat} (h : ¬ White c) : skipW (c :: r) = 0 := by
  unfold skipW
  rw [if_neg h]
/-- a written word is read -/
theorem rd_wtext (w : List Nat) {t : List Nat} (h : EndW t) : RdWord (wtext w ++ t) w (wtext w).length ∧ skipW (wtext w ++ t) = 0 ∧ 0 < (wtext w).length := by
  unfold wtext
  by_cases h0 : w = []
  · subst h0
    rw [if_pos rfl]
    refine ⟨?_, skipW_no (by decide), by decide⟩
    have := RdWord.braced (r := 125 :: t) (e := 1) (by rfl) (by exact h)
    exact this
  · rw [if_neg h0]
    by_cases h1 : w.length + 2 ≤ (turn w).length ∧ Pairs w = true
    · rw [if_pos h1]
      refine ⟨?_, skipW_no (by decide), by simp⟩
      have hp := pend_more _ t _ _ _ ((pend_pairs w).mpr h1.2)
      rw [List.cons_append] at hp
      have hd : (123 :: (w ++ [125]) ++ t).drop (w.length + 1 + 1) = t := by
        have e : w.length + 1 + 1 = (123 :: (w ++ [125])).length := by simp
        rw [e, List.drop_left]
      have := RdWord.braced (r := (w ++ [125]) ++ t) (e := w.length + 1) hp (by rw [← List.cons_append, hd]; exact h)
      have e2 : ((123 :: ((w ++ [125]) ++ t)).drop 1).take (w.length + 1 - 1) = w := by
        show ((w ++ [125]) ++ t).take w.length = w
        rw [List.append_assoc, List.take_left]
      rw [e2] at this
      have e3 : (123 :: (w ++ [125])).length = w.length + 1 + 1 := by simp
      rw [e3]
      exact this
    · rw [if_neg h1]
      obtain ⟨c, r, rfl⟩ : ∃ c r, w = c :: r := by
        cases w with
        | nil => exact absurd rfl h0
        | cons c r => exact ⟨c, r, rfl⟩
      have e : turn (c :: r) = tsig c ++ turn r := by
        unfold turn
        rw [List.flatMap_cons]
      obtain ⟨d, r', e1, n1, n2⟩ := tsig_head c
      have hr := rdBare_turn h (c :: r)
      rw [e, e1] at hr ⊢
      exact ⟨.bare n1 n2 hr, skipW_no n2, by simp⟩
/-- a list's text -/
def ltext (ws : List (List Nat)) : List Nat := TL.joinL [32] (ws.map wtext)
theorem reads_more {l : List Nat} {ws : List (List Nat)} (h : Reads l ws) {c : Nat} (hc : White c) : Reads (c :: l) ws := by
  have e0 : skipW (c :: l) = skipW l + 1 := by rw [skipW, if_pos hc]
  have e : (c :: l).drop (skipW (c :: l)) = l.drop (skipW l) := by
    rw [e0, List.drop_succ_cons]
  cases h with
  | nil h => exact .nil (by rw [e]; exact h)
  | cons h hn hr => exact .cons (by rw [e]; exact h) hn (by rw [e]; exact hr)
theorem reads_word {w : List Nat} {t : List Nat} {ws : List (List Nat)} (h : EndW t) (hr : Reads t ws) : Reads (wtext w ++ t) (w :: ws) := by
  obtain ⟨h1, h2, h3⟩ := rd_wtext w h
  refine .cons (by rw [h2]; exact h1) h3 ?_
  rw [h2, List.drop_zero, List.drop_left]
  exact hr
theorem reads_ltext : ∀ (ws : List (List Nat)) {t : List Nat} {vs : List (List Nat)}, EndW t → Reads t vs → Reads (ltext ws ++ t) (ws ++ vs)
  | [], t, vs, _, h => h
  | [w], t, vs, he, h => reads_word he h
  | w :: v :: r, t, vs, he, h => by
    have ih := reads_ltext (v :: r) he h
    have e : ltext (w :: v :: r) ++ t = wtext w ++ (32 :: (ltext (v :: r) ++ t)) := by
      show (wtext w ++ ([32] ++ TL.joinL [32] ((v :: r).map wtext))) ++ t = _
      rw [List.append_assoc]
      rfl
    rw [e]
    exact reads_word (show White 32 from .inl rfl) (reads_more ih (.inl rfl))
theorem reads_nil : Reads [] [] := .nil rfl
theorem reads_own (ws : List (List Nat)) : Reads (ltext ws) ws := by
  have := reads_ltext ws (t := []) (vs := []) trivial reads_nil
  rw [List.append_nil, List.append_nil] at this
  exact this
theorem wtext_len (w : List Nat) : (wtext w).length ≤ 2 * w.length + 2 := by
  unfold wtext
  split
  · simp
  · split
    · simp; omega
    · have := turn_len w; omega
theorem ltext_len : ∀ (ws : List (List Nat)) (k : Nat), (∀ w ∈ ws, w.length ≤ k) → (ltext ws).length ≤ ws.length * (2 * k + 3)
  | [], k, _ => by simp [ltext, TL.joinL]
  | [w], k, h => by
    show (wtext w).length ≤ _
    have := wtext_len w
    have := h w (List.mem_singleton.mpr rfl)
    simp
    omega
  | w :: v :: r, k, h => by
    have ih := ltext_len (v :: r) k fun x hx => h x (List.mem_cons_of_mem _ hx)
    show (wtext w ++ ([32] ++ ltext (v :: r))).length ≤ _
    have h1 := wtext_len w
    have h2 := h w List.mem_cons_self
    rw [List.length_append, List.length_append]
    have : (w :: v :: r).length * (2 * k + 3) = (v :: r).length * (2 * k + 3) + (2 * k + 3) := by
      rw [List.length_cons, Nat.succ_mul]
    rw [this]
    simp only [List.length_cons, List.length_nil] at ih ⊢
    omega
end My
namespace My
open PySem L2 SX
theorem joinL_nil : ∀ ps : List (List Nat), TL.joinL [] ps = ps.flatten
  | [] => rfl
  | [p] => by simp [TL.joinL]
  | p :: q :: r => by
    show p ++ ([] ++ TL.joinL [] (q :: r)) = _
    rw [joinL_nil (q :: r)]
    simp
theorem join0 {z : Str} (hz : z = S []) (ps : List (List Nat)) : Txt.join z (ps.map S) = S ps.flatten := by
  rw [hz, join_S, joinL_nil]
theorem iteN {p A B : Prop} [Decidable p] (h1 : ¬ p → A) (h2 : p → B) : if (!decide p) = true then A else B := by
  by_cases e : p
  · rw [decide_eq_true e]
    exact iteF (h2 e)
  · rw [decide_eq_false e]
    exact iteT (h1 e)
theorem iteNS {a b : List Nat} {z : Str} {A B : Prop} (hz : z = S b) (h1 : a ≠ b → A) (h2 : a = b → B) : if (!decide (V.str (S a) = V.str z)) = true then A else B := by
  subst hz
  rw [dec_S]
  exact iteN h1 h2
/-- a list of texts -/
def txs (ws : List (List Nat)) : List V := ws.map fun w => V.str (S w)
theorem txs_len (ws : List (List Nat)) : (txs ws).length = ws.length := List.length_map _
theorem txs_snoc (ws : List (List Nat)) (w : List Nat) : txs (ws ++ [w]) = txs ws ++ [V.str (S w)] := by
  unfold txs
  rw [List.map_append]
  rfl
theorem txs_map (ws : List (List Nat)) : txs ws = (ws.map S).map V.str := by
  unfold txs
  rw [List.map_map]
  rfl
theorem alike_txs {H : Hp} {a b : Addr} {ws : List (List Nat)} {n : Nat} (h1 : H a = some (.lst (txs ws))) (h2 : H b = some (.lst (txs ws))) (hz : ws.length ≤ 10000) : Alike (n + 1) H (.ref a) (.ref b) := by
  refine .inr ⟨a, b, _, _, rfl, rfl, .inl ⟨h1, h2⟩, rfl, by rw [txs_len]; exact hz, fun i u v hu hv => ?_⟩
  rw [hu] at hv
  cases hv
  unfold txs at hu
  rw [List.getElem?_map] at hu
  cases e : ws[i]? with
  | none => rw [e] at hu; cases hu
  | some l => rw [e] at hu; cases hu; exact Alike.flat rfl
theorem rdWord_le {l w : List Nat} {n : Nat} (h : RdWord l w n) : n ≤ l.length := by
  cases h with
  | braced h he =>
    have := (pend_lt _ _ _ _ h).2
    omega
  | bare h1 h2 h => exact (rdBare_le _ _ _ h).1
theorem atS' {l : List Nat} {i : Nat} (h : i < l.length) : atI (S l).cps.toList (i : Int) = some l[i] := atI_nat (List.getElem?_eq_getElem h)
theorem pend_i {l : List Nat} {i e : Nat} (h : pend 0 0 (l.drop i) = some e) : pend 0 i (l.drop i) = some (i + e) := by
  have := pend_shift (l.drop i) 0 0 i
  rw [Nat.zero_add, h] at this
  rw [this, Nat.add_comm]
  rfl
def spRefuse : Sp := fun vs H Q _ => ∃ (l : List Nat), vs = [.str (S l)] ∧ l.length ≤ 1000 ∧ Q .non H
def spBehind : Sp := fun vs H Q _ => ∃ (l : List Nat) (i : Nat), vs = [.str (S l), .int (i : Int)] ∧ l.length ≤ 1000 ∧ i ≤ l.length ∧ Q (.int ((i + skipW (l.drop i) : Nat) : Int)) H
def spMean : Sp := fun vs H Q _ => ∃ (c : Nat), vs = [.str (S [c])] ∧ Q (.str (S [mean c])) H
def spBare : Sp := fun vs H Q _ => ∃ (l : List Nat) (i : Nat) (w : List Nat) (n : Nat), vs = [.str (S l), .int (i : Int)] ∧ l.length ≤ 1000 ∧ i ≤ l.length ∧ rdBare (l.drop i) = some (w, n) ∧
  ∀ (p : Addr) H', Same H H' → H p = none → H' p = some (.tup [.str (S w), .int ((i + n : Nat) : Int)]) → Q (.ref p) H'
def spWord : Sp := fun vs H Q _ => ∃ (l : List Nat) (i : Nat) (w : List Nat) (n : Nat), vs = [.str (S l), .int (i : Int)] ∧ l.length ≤ 1000 ∧ i < l.length ∧ RdWord (l.drop i) w n ∧
  ∀ (p : Addr) H', Same H H' → H p = none → H' p = some (.tup [.str (S w), .int ((i + n : Nat) : Int)]) → Q (.ref p) H'
def spBraced : Sp := fun vs H Q _ => ∃ (l : List Nat) (i e : Nat), vs = [.str (S l), .int (i : Int)] ∧ l.length ≤ 1000 ∧ i < l.length ∧ pend 0 0 (l.drop i) = some e ∧ 1 ≤ e ∧ EndW ((l.drop i).drop (e + 1)) ∧
  ∀ (p : Addr) H', Same H H' → H p = none → H' p = some (.tup [.str (S (((l.drop i).drop 1).take (e - 1))), .int ((i + (e + 1) : Nat) : Int)]) → Q (.ref p) H'
def spRead : Sp := fun vs H Q _ => ∃ (l : List Nat) (ws : List (List Nat)), vs = [.str (S l)] ∧ l.length ≤ 1000 ∧ Reads l ws ∧ ∀ (p : Addr) H', Same H H' → H p = none → H' p = some (.lst (txs ws)) → Q (.ref p) H'
def spLtext (K : PySem.W.Frag) : Sp := fun vs H Q _ => ∃ (a : Addr) (ws : List (List Nat)), vs = [.ref a] ∧ SqL K H a (txs ws) ∧ ws.length ≤ 100 ∧ (∀ w ∈ ws, w.length ≤ 1000) ∧ ∀ H', Same H H' → Q (.str (S (ltext ws))) H'
end My
namespace My
open PySem L2 SX
def dataT (ws : List (List Nat)) : PyData := .list (ws.map fun w => PyData.str (S w))
theorem dp_all {K : PySem.W.Frag} {H : Hp} : ∀ ws : List (List Nat), DpAll K H (txs ws) (ws.map fun w => PyData.str (S w))
  | [] => .nil
  | w :: r => .cons (.str _) (dp_all r)
theorem dp_txs {K : PySem.W.Frag} {H : Hp} {a : Addr} {ws : List (List Nat)} (h : SqL K H a (txs ws)) : Dp K H (.ref a) (dataT ws) := .lst h (dp_all ws)
theorem ok_abc {w : List Nat} (h : ∀ c ∈ w, c ∈ abc) : PyData.canLay0 (.str (S w)) = true := by
  show PyData.strOk (S w) = true
  unfold PyData.strOk
  rw [← Array.all_toList]
  refine List.all_eq_true.mpr fun c hc => decide_eq_true ?_
  have : ∀ c ∈ abc, c < 0x110000 := by decide
  exact this c (h c hc)
theorem lay_T : ∀ ws : List (List Nat), (∀ w ∈ ws, ∀ c ∈ w, c ∈ abc) → PyData.canLayAll0 (ws.map fun w => PyData.str (S w)) = true
  | [], _ => rfl
  | w :: r, h => by
    show (PyData.canLay0 (.str (S w)) && PyData.canLayAll0 (r.map fun w => PyData.str (S w))) = true
    rw [lay_T r fun x hx => h x (List.mem_cons_of_mem _ hx), ok_abc (h w List.mem_cons_self)]
    rfl
theorem depth_T : ∀ ws : List (List Nat), PyData.depthAll (ws.map fun w => PyData.str (S w)) ≤ 1
  | [] => by decide
  | w :: r => by
    have ih := depth_T r
    show max 0 (PyData.depthAll (r.map fun w => PyData.str (S w))) ≤ 1
    omega
theorem layT {ws : List (List Nat)} (h : ∀ w ∈ ws, ∀ c ∈ w, c ∈ abc) : (dataT ws).canLay0 = true := lay_T ws h
theorem shaped_T {ws : List (List Nat)} (h : ∀ w ∈ ws, ∀ c ∈ w, c ∈ abc) : SeqAt.shaped (dataT ws) = true := by
  unfold SeqAt.shaped
  rw [layT h]
  have h := depth_T ws
  have h2 : (dataT ws).depth ≤ 64 := by
    show PyData.depthAll (ws.map fun w => PyData.str (S w)) + 1 ≤ 64
    omega
  rw [decide_eq_true h2]
  rfl
theorem eqv_T : ∀ ws vs : List (List Nat), PyData.eqv (dataT ws) (dataT vs) = decide (ws = vs) := by
  have all : ∀ ws vs : List (List Nat), PyData.eqvAll (ws.map fun w => PyData.str (S w)) (vs.map fun w => PyData.str (S w)) = decide (ws = vs) := by
    intro ws
    induction ws with
    | nil =>
      intro vs
      cases vs with
      | nil => rfl
      | cons v r => rfl
    | cons w r ih =>
      intro vs
      cases vs with
      | nil => rfl
      | cons v q =>
        show (PyData.eqv (.str (S w)) (.str (S v)) && PyData.eqvAll (r.map fun w => PyData.str (S w)) (q.map fun w => PyData.str (S w))) = _
        rw [ih]
        have e : PyData.eqv (.str (S w)) (.str (S v)) = decide (w = v) := by
          show (S w == S v) = _
          exact S_beq_eq
        rw [e]
        by_cases h1 : w = v
        · subst h1
          by_cases h2 : r = q
          · subst h2; simp
          · simp [h2]
        · simp [h1]
  exact fun ws vs => all ws vs
end My
namespace My
open PySem L2 SX
/-! ### defs that may raise -/
section
variable {P : Program} {w : World} {K : PySem.W.Frag} {mg : Str → Option Value} {base : Heap}
/-- a def of the module that may raise, called by its name -/
structure CalX (P : Program) (w : World) (K : PySem.W.Frag) (mg : Str → Option Value) (base : Heap) (k : Nat) (x : Str) (sp : Sp) : Prop where
  ex : ∃ (f : Addr) (fd : FuncData) (ps : List Str), FnOk P w K mg base (L2.CX P w) k f fd ps sp ∧ mg x = some (.ref f) ∧ PySem.W.keepIn K (.ref f) = true ∧ Binds K fd ps []
/-- a method that may raise, of the class at C -/
structure MetX (P : Program) (w : World) (K : PySem.W.Frag) (mg : Str → Option Value) (base : Heap) (k : Nat) (C : Addr) (m : Str) (sp : Sp) : Prop where
  ex : ∃ (f : Addr) (fd : FuncData) (ps : List Str), Cls K C ∧ Meth K C m f ∧ FnOk P w K mg base (L2.CX P w) k f fd ps sp ∧ Binds K fd ps []
theorem fnX {x qual : Str} {st : Stmt} {f : Addr} {fd : FuncData} {N ps : List Str} {k : Nat} {sp : Sp} (F : C8.Fun K x qual st f fd) (S : FnScope N ps (C8.fnScope st)) (len : ∀ vs H Q E, sp vs H Q E → vs.length = ps.length)
    (hbody : ∀ (cdv : Value) (A : Around) (outer : List Env) (s : Shared) (H : Hp) (vs : List V) (Q : VK) (E : XK), Room k (A.deeper (PyProof.Rows.envOfC qual (C8.fnScope st) s.heap.objs.size f cdv)) → sp vs H Q E →
      ∃ t, PSs (cxOf (L2.CX P w) P w K mg base N qual (C8.fnScope st) f cdv A outer s H E) (C8.fnBody st) t ∧ t { nx := fun _ H' => Q .non H', rt := Q } (start N vs) H) : FnOk P w K mg base (L2.CX P w) (k + 1) f fd ps sp := by
  obtain ⟨oc, od, dV, kV, doc, pm, an, cdv, ct, osl, rfl, lk, hcd⟩ := F.ex
  exact fn_of lk hcd S len fun A outer s H vs Q E hr hsp => hbody cdv A outer s H vs Q E hr hsp
theorem calX {x : Str} {st : Stmt} {f : Addr} {fd : FuncData} {N ps : List Str} {k : Nat} {sp : Sp} (F : C8.Def K mg x st f fd) (b : Binds K fd ps []) (S : FnScope N ps (C8.fnScope st)) (len : ∀ vs H Q E, sp vs H Q E → vs.length = ps.length)
    (hbody : ∀ (cdv : Value) (A : Around) (outer : List Env) (s : Shared) (H : Hp) (vs : List V) (Q : VK) (E : XK), Room k (A.deeper (PyProof.Rows.envOfC x (C8.fnScope st) s.heap.objs.size f cdv)) → sp vs H Q E →
      ∃ t, PSs (cxOf (L2.CX P w) P w K mg base N x (C8.fnScope st) f cdv A outer s H E) (C8.fnBody st) t ∧ t { nx := fun _ H' => Q .non H', rt := Q } (start N vs) H) : CalX P w K mg base (k + 1) x sp :=
  ⟨f, fd, ps, fnX F.fn S len hbody, F.mgf, F.kp, b⟩
theorem metX {m qual : Str} {C : Addr} {st : Stmt} {f : Addr} {fd : FuncData} {N ps : List Str} {k : Nat} {sp : Sp} (c : Cls K C) (me : Meth K C m f) (F : C8.Fun K m qual st f fd) (b : Binds K fd ps []) (S : FnScope N ps (C8.fnScope st)) (len : ∀ vs H Q E, sp vs H Q E → vs.length = ps.length)
    (hbody : ∀ (cdv : Value) (A : Around) (outer : List Env) (s : Shared) (H : Hp) (vs : List V) (Q : VK) (E : XK), Room k (A.deeper (PyProof.Rows.envOfC qual (C8.fnScope st) s.heap.objs.size f cdv)) → sp vs H Q E →
      ∃ t, PSs (cxOf (L2.CX P w) P w K mg base N qual (C8.fnScope st) f cdv A outer s H E) (C8.fnBody st) t ∧ t { nx := fun _ H' => Q .non H', rt := Q } (start N vs) H) : MetX P w K mg base (k + 1) C m sp :=
  ⟨f, fd, ps, c, me, fnX F S len hbody, b⟩
end
section
variable {X : Cx} {k j : Nat} {C : Addr} {x m : Str} {sp : Sp} {p pos apos : Pos} {e o : Expr} {es : List Expr} {ta : TE} {t : TA} {E : XK}
/-- a call that may raise, within a def that lets it out or around which nothing is let out -/
theorem pe_x (c : CalX X.prog X.w X.K X.mg X.base k x sp) (hr : Room j X.A) (hk : k ≤ j) (hg : Gl X x) (hx : Passes (L2.CX X.prog X.w) X E) (ha : PA X (e :: es) t)
    (hdb : (x == ("__debug__" : Str)) = false := by decide) (he : starEach (e :: es) X.env = (false, eval e X.env) :: starEach es X.env := by rfl) (hpl : (backTo pos (starEach es X.env)).any (·.1) = false := by rfl) :
    PE X (.Call (.Name x p) (e :: es) [] pos) (tCall sp [] E t) := by
  obtain ⟨f, fd, ps, F, hm, kp, b⟩ := c.ex
  exact pe_call F (hr.mono hk) hg hm kp b .nil hx ha hdb he hpl
theorem pe_mx0 {pl : Sem Bool} (c : MetX X.prog X.w X.K X.mg X.base k C m sp) (hr : Room j X.A) (hk : k ≤ j) (hx : Passes (L2.CX X.prog X.w) X E) (he : PE X o ta)
    (ht : eval (.Call (.Attribute o m apos) [] [] pos) X.env = (do
      let ov ← eval o X.env
      standAt apos.atName
      let (f, first) ← holding [ov] (getMethod ov m pl)
      callWith pos f first (backTo pos (starEach [] X.env)) (backToKw pos (keywordEach [] X.env))) := by rfl) :
    PE X (.Call (.Attribute o m apos) [] [] pos) (tMeth C m sp [] E ta tNil) := by
  obtain ⟨f, fd, ps, hc, hm, F, b⟩ := c.ex
  exact pe_meth0 (pl := pl) he hc hm F (hr.mono hk) b .nil hx ht
end
/-! ### errors that tell a place -/
def spPlace (C : Addr) : Sp := fun vs H Q _ => ∃ (a : Addr) (y : V), vs = [.ref a, y] ∧ H a = some (exo a C none) ∧ ∀ dx, H dx = none → dx ≠ a → Q .non (upd (upd H dx (exd dx [("place", y)])) a (exo a C (some dx)))
/-- what the top says of such a class -/
structure PlaceC (P : Program) (w : World) (K : PySem.W.Frag) (mg : Str → Option Value) (base : Heap) (x : Str) (C : Addr) : Prop where
  ox : OexC K C
  mgx : mg x = some (.ref C)
  ini : ∃ (f : Addr) (fd : FuncData) (ps : List Str), PySem.W.findIn K (.ref C) "__init__" = some (some (.ref f)) ∧ PySem.W.typeIn K (.ref f) = some (.type "function") ∧ FnOk P w K mg base C8.CX0 1 f fd ps (spPlace C) ∧ Binds K fd ps []
/-- what is let out: an error of the class at C with this place -/
def Told (C : Addr) (n : Int) (H : Hp) (E : XK) : Prop := ∀ (d : Addr) H', Same H H' → H d = none → H' d = some (.xd [("place", .int n)]) → E (.ref C) (some d) H'
/-- the reading of «raise C(e)», by what is wished of the error -/
theorem place_ok {C : Addr} {H1 : Hp} {y : V} {Q : XK} (q : ∀ (d : Addr) H', Same H1 H' → H1 d = none → H' d = some (.xd [("place", y)]) → Q (.ref C) (some d) H') :
    ([y] : List V).length ≤ 1000 ∧ ∀ a, H1 a = none → spPlace C (.ref a :: ([y] ++ [])) (upd H1 a (exo a C none))
      (fun v H2 => v = .non ∧ ∃ (d : Addr) (fs : List (Str × V)), H2 a = some (exo a C (some d)) ∧ H2 d = some (exd d fs) ∧ H1 d = none ∧ Q (.ref C) (some d) (upd (del H2 a) d (.xd fs))) (fun _ _ _ => False) := by
  refine ⟨(by show 1 ≤ 1000; decide), fun a ha => ⟨a, y, rfl, upd_same, fun dx hdx nda => ⟨rfl, dx, _, upd_same, by rw [upd_ne nda, upd_same], ?_, ?_⟩⟩⟩
  · rw [upd_ne nda] at hdx
    exact hdx
  · rw [upd_ne nda] at hdx
    refine q dx _ (fun b o hb => ?_) hdx upd_same
    have n1 : b ≠ dx := ne_of_none hb hdx
    have n2 : b ≠ a := ne_of_none hb ha
    rw [upd_ne n1, del_ne n2, upd_ne n2, upd_ne n1, upd_ne n2]
    exact hb
theorem ps_place {X : Cx} {W : WX} {x : Str} {C : Addr} {e : Expr} {te : TE} {p pos pos2 : Pos} {j : Nat} (hc : X.calm = true) (T : PlaceC X.prog X.w X.K X.mg X.base x C) (hr : Room j X.A) (hk : 2 ≤ j) (tk : Takes X W) (hg : Gl X x) (he : PE X e te)
    (hdb : (x == ("__debug__" : Str)) = false := by decide) (h1 : starEach [e] X.env = (false, eval e X.env) :: starEach [] X.env := by rfl) (h2 : (backTo pos (starEach [] X.env)).any (·.1) = false := by rfl) :
    PS X (.Raise (some (.Call (.Name x p) [e] [] pos)) none pos2) (fun _ σ H => tMkO C (spPlace C) [] (tCons te tNil) σ H fun cls d H' => W cls d σ H') := by
  obtain ⟨f, fd, ps, iC, tI, F1, hb⟩ := T.ini
  exact ps_raise (pos := pos2) hc tk (pmk_oex (p := p) (pos := pos) T.ox iC tI F1 (hr.mono hk) hb .nil C8.pass0 hg T.mgx (pa_cons (hs := h1) he pa_nil) hdb h1 h2)
end My
namespace My
open PySem L2 SX
/-! ### what a script is read to: texts and tuples -/
inductive Tr where
  | s (w : List Nat)
  | n (ts : List Tr)
inductive TrAt (H : Hp) : V → Tr → Prop
  | s (w : List Nat) : TrAt H (.str (S w)) (.s w)
  | n {a : Addr} {vs : List V} {ts : List Tr} (h : H a = some (.tup vs)) (hl : vs.length = ts.length) (hk : ∀ (i : Nat) (u : V) (t : Tr), vs[i]? = some u → ts[i]? = some t → TrAt H u t) : TrAt H (.ref a) (.n ts)
/-- tuples stay -/
def Tups (H H' : Hp) : Prop := ∀ a xs, H a = some (.tup xs) → H' a = some (.tup xs)
theorem TrAt.mono {H H' : Hp} {v : V} {t : Tr} (e : Tups H H') (h : TrAt H v t) : TrAt H' v t := by
  induction h with
  | s w => exact .s w
  | n h hl _ ih => exact .n (e _ _ h) hl fun i u t hu ht => ih i u t hu ht
theorem Tups.refl (H : Hp) : Tups H H := fun _ _ h => h
theorem Tups.trans {H H1 H2 : Hp} (a : Tups H H1) (b : Tups H1 H2) : Tups H H2 := fun c o h => b c o (a c o h)
theorem Same.tups {H H' : Hp} (e : Same H H') : Tups H H' := fun a xs h => e a _ h
/-- a change at an address where no tuple stands -/
theorem Tups.upd {H : Hp} {p : Addr} {o : HO} (h : ∀ xs, H p ≠ some (.tup xs)) : Tups H (L2.upd H p o) := fun a xs ha => by
  rw [upd_ne]
  · exact ha
  · rintro rfl
    exact h xs ha
theorem But.tups {p : Addr} {H H' : Hp} (e : But p H H') (h : ∀ xs, H p ≠ some (.tup xs)) : Tups H H' := fun a xs ha => e a _ ha fun z => h xs (by rw [← z]; exact ha)
/-- things side by side -/
def TrsAt (H : Hp) (vs : List V) (ts : List Tr) : Prop := vs.length = ts.length ∧ ∀ (i : Nat) (u : V) (t : Tr), vs[i]? = some u → ts[i]? = some t → TrAt H u t
theorem TrsAt.nil (H : Hp) : TrsAt H [] [] := ⟨rfl, fun i u t h => by simp at h⟩
theorem TrsAt.mono {H H' : Hp} {vs : List V} {ts : List Tr} (e : Tups H H') (h : TrsAt H vs ts) : TrsAt H' vs ts := ⟨h.1, fun i u t hu ht => (h.2 i u t hu ht).mono e⟩
theorem TrsAt.snoc {H : Hp} {vs : List V} {ts : List Tr} {v : V} {t : Tr} (h : TrsAt H vs ts) (hv : TrAt H v t) : TrsAt H (vs ++ [v]) (ts ++ [t]) := by
  refine ⟨by simp [h.1], fun i u t' hu ht => ?_⟩
  by_cases hi : i < vs.length
  · rw [List.getElem?_append_left hi] at hu
    rw [List.getElem?_append_left (by rw [← h.1]; exact hi)] at ht
    exact h.2 i u t' hu ht
  · have ei : i = vs.length := by
      have := (List.getElem?_eq_some_iff.mp hu).1
      simp at this
      omega
    subst ei
    rw [List.getElem?_append_right (Nat.le_refl _), Nat.sub_self] at hu
    rw [List.getElem?_append_right (by rw [h.1]; exact Nat.le_refl _), h.1, Nat.sub_self] at ht
    cases hu
    cases ht
    exact hv
theorem TrsAt.tup {H : Hp} {a : Addr} {vs : List V} {ts : List Tr} (h : H a = some (.tup vs)) (k : TrsAt H vs ts) : TrAt H (.ref a) (.n ts) := .n h k.1 k.2
def wText : List Nat := [116, 101, 120, 116]
def wName : List Nat := [110, 97, 109, 101]
def wRun : List Nat := [114, 117, 110]
theorem lit_text : (Str.ofString "text") = S wText := by decide +kernel
theorem lit_name : (Str.ofString "name") = S wName := by decide +kernel
theorem lit_run : (Str.ofString "run") = S wRun := by decide +kernel
def tx (w : List Nat) : Tr := .n [.s wText, .s w]
def nm (w : List Nat) : Tr := .n [.s wName, .s w]
def rn (cs : List Tr) : Tr := .n [.s wRun, .n cs]
/-- a piece: its kind and its worth -/
def IsPc (t : Tr) : Prop := (∃ w, t = tx w) ∨ (∃ w, t = nm w) ∨ ∃ cs, t = rn cs
/-- pieces, texts side by side made one -/
def merge (rows : List Tr) (p : Tr) : List Tr :=
  match rows.getLast?, p with
  | some (.n [.s k, .s u]), .n [.s k', .s w] => if k = wText ∧ k' = wText then rows.dropLast ++ [tx (u ++ w)] else rows ++ [p]
  | _, _ => rows ++ [p]
def joinP (ps : List Tr) : List Tr := ps.foldl merge []
/-! ### the ends -/
def bS (w : Nat) : List Nat → Bool
  | [] => true
  | c :: _ => decide (0 < w) && decide (c = 93)
def bC (w : Nat) : List Nat → Bool
  | [] => true
  | c :: r => bS w (c :: r) || (decide (c = 10) || decide (c = 59))
def bW (w : Nat) : List Nat → Bool
  | [] => true
  | c :: r => bC w (c :: r) || decide (c = 32)
def dropRem : List Nat → List Nat
  | [] => []
  | c :: r => if c = 10 then c :: r else dropRem r
def low (c : Nat) : Bool := decide (97 ≤ c) && decide (c ≤ 122)
/-- behind a dollar sign: the name and what follows it -/
def nameOf : List Nat → Option (List Nat × List Nat)
  | 123 :: r => if 1 ≤ (r.takeWhile low).length ∧ (r.takeWhile low).length ≤ 8 then (match r.dropWhile low with | 125 :: r' => some (r.takeWhile low, r') | _ => none) else none
  | r => if 1 ≤ (r.takeWhile low).length ∧ (r.takeWhile low).length ≤ 8 then some (r.takeWhile low, r.dropWhile low) else none
/-- what comes of reading: things and what is left, or how much is left from the wrong place on -/
inductive Out where
  | ok (ts : List Tr) (r : List Nat)
  | er (k : Nat)
def Out.cons (t : Tr) : Out → Out
  | .ok ts r => .ok (t :: ts) r
  | .er k => .er k
mutual
inductive DScr : Nat → List Nat → Out → Prop
  | stop {w : Nat} {r : List Nat} (h : bS w r = true) : DScr w r (.ok [] r)
  | skip {w c : Nat} {r : List Nat} {o : Out} (h : bS w (c :: r) = false) (hc : bW w (c :: r) = true) (d : DScr w r o) : DScr w (c :: r) o
  | remark {w : Nat} {r : List Nat} {o : Out} (h : bW w (35 :: r) = false) (d : DScr w (dropRem r) o) : DScr w (35 :: r) o
  | cmd {w c : Nat} {r r1 : List Nat} {ts : List Tr} {o : Out} (h : bW w (c :: r) = false) (hc : c ≠ 35) (d : DCmd w (c :: r) (.ok ts r1)) (d2 : DScr w r1 o) : DScr w (c :: r) (o.cons (.n ts))
  | cmdE {w c k : Nat} {r : List Nat} (h : bW w (c :: r) = false) (hc : c ≠ 35) (d : DCmd w (c :: r) (.er k)) : DScr w (c :: r) (.er k)
inductive DCmd : Nat → List Nat → Out → Prop
  | stop {w : Nat} {r : List Nat} (h : bC w r = true) : DCmd w r (.ok [] r)
  | skip {w c : Nat} {r : List Nat} {o : Out} (h : bC w (c :: r) = false) (hc : bW w (c :: r) = true) (d : DCmd w r o) : DCmd w (c :: r) o
  | word {w c : Nat} {r r1 : List Nat} {t : Tr} {o : Out} (h : bW w (c :: r) = false) (d : DWrd w (c :: r) (.ok [t] r1)) (d2 : DCmd w r1 o) : DCmd w (c :: r) (o.cons t)
  | wordE {w c k : Nat} {r : List Nat} (h : bW w (c :: r) = false) (d : DWrd w (c :: r) (.er k)) : DCmd w (c :: r) (.er k)
inductive DWrd : Nat → List Nat → Out → Prop
  | braced {w e : Nat} {r : List Nat} (h : pend 0 0 (123 :: r) = some e) (he : bW w (r.drop e) = true) : DWrd w (123 :: r) (.ok [.n (if e = 1 then [] else [tx (r.take (e - 1))])] (r.drop e))
  | bracedE {w : Nat} {r : List Nat} (h : pend 0 0 (123 :: r) = none) : DWrd w (123 :: r) (.er (r.length + 1))
  | bracedB {w e : Nat} {r : List Nat} (h : pend 0 0 (123 :: r) = some e) (he : bW w (r.drop e) = false) : DWrd w (123 :: r) (.er (r.drop e).length)
  | quoted {w : Nat} {r r1 : List Nat} {ps : List Tr} (d : DQuo w (r.length + 1) r (.ok ps r1)) (he : bW w r1 = true) : DWrd w (34 :: r) (.ok [.n (joinP ps)] r1)
  | quotedB {w : Nat} {r r1 : List Nat} {ps : List Tr} (d : DQuo w (r.length + 1) r (.ok ps r1)) (he : bW w r1 = false) : DWrd w (34 :: r) (.er r1.length)
  | quotedE {w k : Nat} {r : List Nat} (d : DQuo w (r.length + 1) r (.er k)) : DWrd w (34 :: r) (.er k)
  | bare {w c : Nat} {r r1 : List Nat} {ps : List Tr} (h1 : c ≠ 123) (h2 : c ≠ 34) (d : DBar w (c :: r) (.ok ps r1)) (he : bW w r1 = true) : DWrd w (c :: r) (.ok [.n (joinP ps)] r1)
  | bareE {w c k : Nat} {r : List Nat} (h1 : c ≠ 123) (h2 : c ≠ 34) (d : DBar w (c :: r) (.er k)) : DWrd w (c :: r) (.er k)
inductive DQuo : Nat → Nat → List Nat → Out → Prop
  | stop {w q : Nat} {r : List Nat} : DQuo w q (34 :: r) (.ok [] r)
  | lacks {w q : Nat} : DQuo w q [] (.er q)
  | piece {w q c : Nat} {r r1 : List Nat} {t : Tr} {o : Out} (h : c ≠ 34) (d : DPc w (c :: r) (.ok [t] r1)) (d2 : DQuo w q r1 o) : DQuo w q (c :: r) (o.cons t)
  | pieceE {w q c k : Nat} {r : List Nat} (h : c ≠ 34) (d : DPc w (c :: r) (.er k)) : DQuo w q (c :: r) (.er k)
inductive DBar : Nat → List Nat → Out → Prop
  | stop {w : Nat} {r : List Nat} (h : bW w r = true) : DBar w r (.ok [] r)
  | piece {w c : Nat} {r r1 : List Nat} {t : Tr} {o : Out} (h : bW w (c :: r) = false) (d : DPc w (c :: r) (.ok [t] r1)) (d2 : DBar w r1 o) : DBar w (c :: r) (o.cons t)
  | pieceE {w c k : Nat} {r : List Nat} (h : bW w (c :: r) = false) (d : DPc w (c :: r) (.er k)) : DBar w (c :: r) (.er k)
inductive DPc : Nat → List Nat → Out → Prop
  | turn {w d : Nat} {r : List Nat} : DPc w (92 :: d :: r) (.ok [tx [mean d]] r)
  | turnE {w : Nat} : DPc w [92] (.er 1)
  | name {w : Nat} {r n r1 : List Nat} (h : nameOf r = some (n, r1)) : DPc w (36 :: r) (.ok [nm n] r1)
  | nameE {w : Nat} {r : List Nat} (h : nameOf r = none) : DPc w (36 :: r) (.er (r.length + 1))
  | run {w : Nat} {r r1 : List Nat} {cs : List Tr} (h : w < 12) (d : DScr (w + 1) r (.ok cs (93 :: r1))) : DPc w (91 :: r) (.ok [rn cs] r1)
  | runB {w : Nat} {r : List Nat} {cs : List Tr} (h : w < 12) (d : DScr (w + 1) r (.ok cs [])) : DPc w (91 :: r) (.er (r.length + 1))
  | runE {w k : Nat} {r : List Nat} (h : w < 12) (d : DScr (w + 1) r (.er k)) : DPc w (91 :: r) (.er k)
  | runM {w : Nat} {r : List Nat} (h : w = 12) : DPc w (91 :: r) (.er (r.length + 1))
  | sign {w c : Nat} {r : List Nat} (h1 : c ≠ 92) (h2 : c ≠ 36) (h3 : c ≠ 91) : DPc w (c :: r) (.ok [tx [c]] r)
end
end My
namespace My
open PySem L2 SX C8
/-! ### a sign many times over -/
theorem foldl_cps (x : Array Nat) : ∀ (n : Nat) (a : Array Nat), (List.replicate n x).foldl (· ++ ·) a = a ++ ((List.replicate n x.toList).flatten).toArray
  | 0, a => by simp
  | n + 1, a => by
    rw [List.replicate_succ, List.foldl_cons, foldl_cps x n, List.replicate_succ, List.flatten_cons]
    apply Array.toList_inj.mp
    simp
theorem rep_flat (c n : Nat) : (List.replicate n [c]).flatten = List.replicate n c := by
  induction n with
  | zero => rfl
  | succ n ih => rw [List.replicate_succ, List.flatten_cons, ih]; rfl
theorem mul_S (c n : Nat) : Txt.mul (S [c]) (n : Int) = S (List.replicate n c) := by
  unfold Txt.mul
  by_cases h0 : ((n : Int) < 1)
  · have : n = 0 := by omega
    subst this
    rw [if_pos h0]
    rfl
  · rw [if_neg h0]
    by_cases h1 : n = 1
    · subst h1
      rfl
    · have e : (((n : Int) == 1) || (S [c]).length == 0) = false := by
        have e1 : ((n : Int) == 1) = false := by
          rw [beq_eq_false_iff_ne]; omega
        rw [e1]; rfl
      rw [if_neg (by rw [e]; decide), foldl_cps, Int.toNat_natCast]
      show (⟨#[] ++ (List.replicate n [c]).flatten.toArray⟩ : Str) = _
      rw [rep_flat]
      simp
theorem mulOk_S (c n : Nat) (h : n ≤ 100000) : MulOk (S [c]) (n : Int) := by
  refine ⟨?_, fun h1 _ => ?_, fun _ _ => ?_⟩
  · simp only [Bool.or_eq_false_iff, decide_eq_false_iff_not]
    omega
  · show ¬ (((1 : Nat) : Int) > _)
    have : 1 ≤ (2 ^ 63 - 1) / (n : Int) := by
      rw [Int.le_ediv_iff_mul_le (by omega)]
      omega
    omega
  · show Builtin.Str.tooLong (1 * ((n : Int)).toNat) = false
    unfold Builtin.Str.tooLong
    rw [decide_eq_false_iff_not, sizeLine_eq, Int.toNat_natCast]
    omega
section
variable {X : Cx}
theorem op_rep_str : OpR X (binaryOp .Mult) (fun x y H Q => ∃ c n : Nat, x = .str (S [c]) ∧ y = .int (n : Int) ∧ n ≤ 100000 ∧ Q (.str (S (List.replicate n c))) H) := by
  intro pins s σ H x y v u Q I rx ry h
  obtain ⟨c, n, rfl, rfl, hz, q⟩ := h
  obtain ⟨t, rfl⟩ := rx
  obtain ⟨t', rfl⟩ := ry
  refine SB.mul (mulOk_S c n hz) fun t' k => ?_
  rw [mul_S]
  exact ⟨.str (S (List.replicate n c)), H, I.tok _, ⟨_, rfl⟩, q⟩
end
/-! ### a call within a try -/
section
variable {X : Cx} {k j : Nat} {x : Str} {sp : Sp} {p pos : Pos} {e : Expr} {es : List Expr} {t : TA} {W : WX}
theorem pe_xS (c : CalX X.prog X.w X.K X.mg X.base k x sp) (hr : Room j X.A) (hk : k ≤ j) (hg : Gl X x) (tk : Takes X W) (ha : PA X (e :: es) t)
    (hdb : (x == ("__debug__" : Str)) = false := by decide) (he : starEach (e :: es) X.env = (false, eval e X.env) :: starEach es X.env := by rfl) (hpl : (backTo pos (starEach es X.env)).any (·.1) = false := by rfl) :
    PE X (.Call (.Name x p) (e :: es) [] pos) (tCallS sp (WE W) t) := by
  obtain ⟨f, fd, ps, F, hm, kp, b⟩ := c.ex
  exact pe_callS F (hr.mono hk) hg hm kp b (fun σ => passAt tk σ) ha hdb he hpl
end
/-- an error of the class at S is what «except S» names -/
theorem exm_self {K : PySem.W.Frag} {S : Addr} (h1 : PySem.W.subIn K (.ref S) (.type "BaseException") = some true) (h2 : PySem.W.isClsIn K S = true) (h3 : PySem.W.typeIn K (.ref S) = some (.type "type")) (h4 : PySem.W.subIn K (.ref S) (.ref S) = some true) :
    PySem.W.exmOne K (.ref S) (.ref S) = some true := by
  have e1 : (PySem.W.subIn K (.ref S) (.type "BaseException") == some true) = true := by rw [h1] <;> rfl
  have e2 : ((PySem.W.clsIn K S).isSome && PySem.W.typeIn K (.ref S) == some (.type "type")) = true := by
    have h2' : (PySem.W.clsIn K S).isSome = true := h2
    rw [h2', h3] <;> rfl
  show (if (PySem.W.subIn K (.ref S) (.type "BaseException") == some true) = true then (if ((PySem.W.clsIn K S).isSome && PySem.W.typeIn K (.ref S) == some (.type "type")) = true then PySem.W.subIn K (.ref S) (.ref S) else none) else none) = some true
  rw [if_pos e1, if_pos e2]
  exact h4
end My
namespace My
open PySem L2 SX C8
/-! ### a call that raises nothing, of a def that might -/
section
variable {P : Program} {w : World} {K : PySem.W.Frag} {mg : Str → Option Value} {base : Heap}
def calmed (sp : Sp) : Sp := fun vs H Q _ => sp vs H Q (fun _ _ _ => False)
theorem fn_calm {k : Nat} {f : Addr} {fd : FuncData} {ps : List Str} {sp : Sp} (F : FnOk P w K mg base (L2.CX P w) k f fd ps sp) : FnOk P w K mg base C8.CX0 k f fd ps (calmed sp) :=
  ⟨fun vs H Q _ h => F.len vs H Q _ h, fun A outer s H args us vs Q E hr he hb hv hs => codeAny_mono (F.run A outer s H args us vs Q (fun _ _ _ => False) hr he hb hv hs) fun r s' hq => by
    cases r with
    | error e =>
      obtain ⟨_, _, _, _, _, _, _, _, _, _, _, _, h⟩ := hq
      exact h.elim
    | ok fl => cases fl <;> exact hq⟩
theorem CalX.calm {k : Nat} {x : Str} {sp : Sp} (c : CalX P w K mg base k x sp) : Cal P w K mg base k x (calmed sp) [] := by
  obtain ⟨f, fd, ps, F, hm, kp, b⟩ := c.ex
  exact ⟨f, fd, ps, [], fn_calm F, hm, kp, b, .nil⟩
end
theorem room_u {k : Nat} {A : Around} (h : Room k A) : A.units + 1 < cLine := by have := h.un; omega
end My
namespace My
open PySem L2 SX C8
/-! ### list(text) -/
section
variable {X : Cx}
theorem call_list_S (hc : X.calm = true) : CallR X (.type "list") (fun xs H Q => ∃ ss : List Nat, xs = [.str (S ss)] ∧ ss.length ≤ 1000 ∧ ∀ l, H l = none → Q (.ref l) (upd H l (.lst (ss.map fun c => V.str (S [c]))))) := by
  intro pins s σ H xs us Q I r h
  obtain ⟨ss, rfl, hz, q⟩ := h
  obtain ⟨u, rfl, rx⟩ := vals1 r
  obtain ⟨t, rfl⟩ := rx
  have hsz : (S ss).cps.size = ss.length := by simp
  refine call_list_str (I.ok.hd hc) (S ss) t (fun h' tk acc' c' kp e it => ?_) (by rw [hsz, sizeLine_eq]; omega)
  have hv : Vals (ss.map fun c => V.str (S [c])) acc'.toList := vals_of_idx _ _ (by rw [Array.length_toList, it.1, hsz, List.length_map]) fun j v hj => by
    rw [Array.getElem?_toList] at hj
    obtain ⟨c, u, hcj, rfl⟩ := it.2 j v hj
    have hcj' : ss[j]? = some c := by simpa using hcj
    exact ⟨V.str (S [c]), by rw [List.getElem?_map, hcj']; rfl, ⟨u, rfl⟩⟩
  refine ⟨.ref s.heap.objs.size, _, I.laid (t' := tk) kp (Nat.le_refl _) (show ObjOk X.prog X.w _ h' _ (.lst _) from ⟨?_, acc'.toList, c', hv, ?_⟩), rfl, q _ (I.hok.fresh (Nat.le_refl _))⟩
  · rw [List.length_map, sizeLine_eq]; omega
  · rw [e]
end
end My
namespace My
open PySem L2 SX
/-! ### reading is a function -/
theorem rdWord_fn {l w v : List Nat} {n m : Nat} (h : RdWord l w n) (h' : RdWord l v m) : w = v ∧ n = m := by
  cases h with
  | braced h he =>
    cases h' with
    | braced h2 he2 =>
      rw [h] at h2
      cases h2
      exact ⟨rfl, rfl⟩
    | bare n1 _ _ => exact absurd rfl n1
  | bare n1 n2 h =>
    cases h' with
    | braced _ _ => exact absurd rfl n1
    | bare _ _ h2 =>
      rw [h] at h2
      cases h2
      exact ⟨rfl, rfl⟩
theorem reads_fn : ∀ {l : List Nat} {ws vs : List (List Nat)}, Reads l ws → Reads l vs → ws = vs := by
  intro l ws vs h
  induction h generalizing vs with
  | nil h =>
    intro h'
    cases h' with
    | nil _ => rfl
    | cons h2 _ _ =>
      rw [h] at h2
      cases h2
  | cons h hn hr ih =>
    intro h'
    cases h' with
    | nil h2 =>
      rw [h2] at h
      cases h
    | cons h2 hn2 hr2 =>
      obtain ⟨rfl, rfl⟩ := rdWord_fn h h2
      rw [ih hr2]
theorem ltext_inj {ws vs : List (List Nat)} (h : ltext ws = ltext vs) : ws = vs := by
  have h1 := reads_own ws
  rw [h] at h1
  exact reads_fn h1 (reads_own vs)
theorem wtext_ge (w : List Nat) : w.length ≤ (wtext w).length := by
  unfold wtext
  split
  · rename_i h; subst h; simp
  · split
    · simp; omega
    · have : ∀ u : List Nat, u.length ≤ (turn u).length := fun u => by
        induction u with
        | nil => simp
        | cons c r ih =>
          have e : turn (c :: r) = tsig c ++ turn r := by unfold turn; rw [List.flatMap_cons]
          have : 1 ≤ (tsig c).length := by
            obtain ⟨d, r, e, _⟩ := tsig_head c
            rw [e]
            simp
          rw [e, List.length_append, List.length_cons]
          omega
      exact this w
theorem ltext_ge : ∀ (ws : List (List Nat)) (w : List Nat), w ∈ ws → w.length ≤ (ltext ws).length
  | [], w, h => by cases h
  | [u], w, h => by
    rw [List.mem_singleton.mp h]
    exact wtext_ge u
  | u :: v :: r, w, h => by
    have e : (ltext (u :: v :: r)).length = (wtext u).length + (1 + (ltext (v :: r)).length) := by
      show (wtext u ++ ([32] ++ ltext (v :: r))).length = _
      rw [List.length_append, List.length_append]
      rfl
    rw [e]
    rcases List.mem_cons.mp h with h | h
    · rw [h]
      have := wtext_ge u
      omega
    · have := ltext_ge (v :: r) w h
      omega
/-! ### lists within lists -/
inductive Nd where
  | t (w : List Nat)
  | l (xs : List Nd)
/-- the text of a thing of n lists within one another -/
def pk : Nat → Nd → List Nat
  | 0, .t w => w
  | n + 1, .l xs => ltext (xs.map (pk n))
  | _, _ => []
/-- no list is longer than three, no text longer than five -/
def Small : Nat → Nd → Prop
  | 0, .t w => w.length ≤ 5
  | n + 1, .l xs => xs.length ≤ 3 ∧ ∀ x ∈ xs, Small n x
  | _, _ => False
def bnd : Nat → Nat
  | 0 => 5
  | n + 1 => 3 * (2 * bnd n + 3)
theorem pk_len : ∀ (n : Nat) (d : Nd), Small n d → (pk n d).length ≤ bnd n
  | 0, .t w, h => h
  | 0, .l xs, h => h.elim
  | n + 1, .t w, h => h.elim
  | n + 1, .l xs, h => by
    have h1 := ltext_len (xs.map (pk n)) (bnd n) fun w hw => by
      obtain ⟨x, hx, rfl⟩ := List.mem_map.mp hw
      exact pk_len n x (h.2 x hx)
    rw [List.length_map] at h1
    have h2 : xs.length * (2 * bnd n + 3) ≤ 3 * (2 * bnd n + 3) := Nat.mul_le_mul_right _ h.1
    exact Nat.le_trans h1 h2
/-- the thing stands at x, at addresses of which P is true -/
def NdAt : Nat → (Addr → Prop) → Hp → V → Nd → Prop
  | 0, _, _, x, d => ∃ w, d = .t w ∧ x = .str (S w)
  | n + 1, P, H, x, d => ∃ (a : Addr) (vs : List V) (ds : List Nd), d = .l ds ∧ x = .ref a ∧ P a ∧ H a = some (.lst vs) ∧ vs.length = ds.length ∧ ∀ (i : Nat) (u : V) (e : Nd), vs[i]? = some u → ds[i]? = some e → NdAt n P H u e
theorem NdAt.keep : ∀ {n : Nat} {P P' : Addr → Prop} {H H' : Hp} {x : V} {d : Nd}, (∀ a, P a → P' a) → (∀ a o, P a → H a = some o → H' a = some o) → NdAt n P H x d → NdAt n P' H' x d
  | 0, _, _, _, _, _, _, _, _, h => h
  | n + 1, P, P', H, H', x, d, hp, hk, h => by
    obtain ⟨a, vs, ds, h1, h2, h3, h4, h5, h6⟩ := h
    exact ⟨a, vs, ds, h1, h2, hp a h3, hk a _ h3 h4, h5, fun i u e hu he => NdAt.keep hp hk (h6 i u e hu he)⟩
theorem NdAt.alike : ∀ {n : Nat} {P P' : Addr → Prop} {H : Hp} {x y : V} {d : Nd}, Small n d → NdAt n P H x d → NdAt n P' H y d → Alike n H x y
  | 0, P, P', H, x, y, d, _, h, h' => by
    obtain ⟨w, rfl, rfl⟩ := h
    obtain ⟨v, e, rfl⟩ := h'
    cases e
    exact Alike.flat rfl
  | n + 1, P, P', H, x, y, d, hs, h, h' => by
    obtain ⟨a, vs, ds, rfl, rfl, h3, h4, h5, h6⟩ := h
    obtain ⟨a', vs', ds', e, rfl, h3', h4', h5', h6'⟩ := h'
    cases e
    refine .inr ⟨a, a', vs, vs', rfl, rfl, .inl ⟨h4, h4'⟩, by omega, by have := hs.1; omega, fun i u v hu hv => ?_⟩
    have hi : i < ds.length := by
      have := (List.getElem?_eq_some_iff.mp hu).1
      omega
    have he : ds[i]? = some ds[i] := List.getElem?_eq_getElem hi
    exact NdAt.alike (hs.2 _ (List.mem_of_getElem? he)) (h6 i u _ hu he) (h6' i v _ hv he)
def Fresh (H : Hp) : Addr → Prop := fun a => H a = none
def spNested : Nat → Sp
  | 0 => fun _ _ _ _ => False
  | N + 1 => fun vs H Q _ => ∃ (b l : Addr) (n : Nat), vs = [.ref b, .int (n : Int)] ∧ n ≤ N ∧ BagAt H b l ∧ ∀ (x : V) (d : Nd) H', But b H H' → BagAt H' b l → NdAt n (Fresh H) H' x d → Small n d → Q x H'
def spPacked : Nat → Sp
  | 0 => fun _ _ _ _ => False
  | N + 1 => fun vs H Q _ => ∃ (x : V) (n : Nat) (P : Addr → Prop) (d : Nd), vs = [x, .int (n : Int)] ∧ n ≤ N ∧ n ≤ 3 ∧ NdAt n P H x d ∧ Small n d ∧ ∀ H', Same H H' → Q (.str (S (pk n d))) H'
def spUnpacked : Nat → Sp
  | 0 => fun _ _ _ _ => False
  | N + 1 => fun vs H Q _ => ∃ (n : Nat) (d : Nd), vs = [.str (S (pk n d)), .int (n : Int)] ∧ n ≤ N ∧ (pk n d).length ≤ 1000 ∧ Small n d ∧ ∀ (x : V) H', Same H H' → NdAt n (Fresh H) H' x d → Q x H'
end My
namespace My
open PySem L2 SX
/-! ### all small words -/
def step1 (ss : List Nat) (l : List (List Nat)) : List (List Nat) := l.flatMap fun w => ss.map fun c => w ++ [c]
def lev (ss : List Nat) : Nat → List (List Nat)
  | 0 => [[]]
  | n + 1 => step1 ss (lev ss n)
def allW (ss : List Nat) : Nat → List (List Nat)
  | 0 => [[]]
  | n + 1 => allW ss n ++ lev ss (n + 1)
theorem lev_len (ss : List Nat) : ∀ (n : Nat) (w : List Nat), w ∈ lev ss n → w.length = n ∧ ∀ c ∈ w, c ∈ ss
  | 0, w, h => by
    rw [List.mem_singleton.mp h]
    exact ⟨rfl, by simp⟩
  | n + 1, w, h => by
    obtain ⟨u, hu, hw⟩ := List.mem_flatMap.mp h
    obtain ⟨c, hc, rfl⟩ := List.mem_map.mp hw
    obtain ⟨h1, h2⟩ := lev_len ss n u hu
    refine ⟨by simp [h1], fun d hd => ?_⟩
    rcases List.mem_append.mp hd with h | h
    · exact h2 d h
    · rw [List.mem_singleton.mp h]; exact hc
theorem lev_count (ss : List Nat) : ∀ n, (lev ss n).length = ss.length ^ n
  | 0 => rfl
  | n + 1 => by
    have ih := lev_count ss n
    have : ∀ l : List (List Nat), (step1 ss l).length = l.length * ss.length := fun l => by
      unfold step1
      induction l with
      | nil => simp
      | cons a r ih => rw [List.flatMap_cons, List.length_append, ih, List.length_map, List.length_cons, Nat.succ_mul, Nat.add_comm]
    show (step1 ss (lev ss n)).length = _
    rw [this, ih, Nat.pow_succ]
theorem allW_mem (ss : List Nat) : ∀ (n : Nat) (w : List Nat), w ∈ allW ss n → w.length ≤ n ∧ ∀ c ∈ w, c ∈ ss
  | 0, w, h => by
    rw [List.mem_singleton.mp h]
    exact ⟨Nat.le_refl _, by simp⟩
  | n + 1, w, h => by
    rcases List.mem_append.mp h with h | h
    · have := allW_mem ss n w h
      exact ⟨by omega, this.2⟩
    · have := lev_len ss (n + 1) w h
      exact ⟨by omega, this.2⟩
theorem step1_nodup {ss : List Nat} (hs : ss.Nodup) : ∀ {l : List (List Nat)}, l.Nodup → (step1 ss l).Nodup
  | [], _ => List.nodup_nil
  | w :: r, h => by
    obtain ⟨h1, h2⟩ := List.nodup_cons.mp h
    show ((ss.map fun c => w ++ [c]) ++ step1 ss r).Nodup
    rw [List.nodup_append]
    refine ⟨?_, step1_nodup hs h2, ?_⟩
    · refine List.Pairwise.map _ (fun a b hab he => hab ?_) hs
      have := List.append_cancel_left he
      simpa using this
    · rintro a ha b hb rfl
      obtain ⟨c, _, rfl⟩ := List.mem_map.mp ha
      obtain ⟨u, hu, hw⟩ := List.mem_flatMap.mp hb
      obtain ⟨d, _, e⟩ := List.mem_map.mp hw
      have : u = w := (List.append_inj' e rfl).1
      rw [this] at hu
      exact h1 hu
theorem lev_nodup {ss : List Nat} (hs : ss.Nodup) : ∀ n, (lev ss n).Nodup
  | 0 => by show ([[]] : List (List Nat)).Nodup; simp
  | n + 1 => step1_nodup hs (lev_nodup hs n)
theorem allW_nodup {ss : List Nat} (hs : ss.Nodup) : ∀ n, (allW ss n).Nodup
  | 0 => by show ([[]] : List (List Nat)).Nodup; simp
  | n + 1 => by
    show (allW ss n ++ lev ss (n + 1)).Nodup
    rw [List.nodup_append]
    refine ⟨allW_nodup hs n, lev_nodup hs (n + 1), ?_⟩
    rintro a ha b hb rfl
    have h1 := (allW_mem ss n a ha).1
    have h2 := (lev_len ss (n + 1) a hb).1
    omega
theorem wtext_inj {w v : List Nat} (h : wtext w = wtext v) : w = v := by
  have : ltext [w] = ltext [v] := by
    show TL.joinL [32] [wtext w] = TL.joinL [32] [wtext v]
    rw [h]
  have := ltext_inj this
  simpa using this
theorem wtext_max (w : List Nat) : (wtext w).length ≤ max 2 (turn w).length := by
  unfold wtext
  split
  · show 2 ≤ _
    omega
  · split
    · rename_i h
      simp only [List.length_cons, List.length_append, List.length_nil]
      omega
    · omega
theorem wtext_pairs {w : List Nat} (h : Pairs w = true) : (wtext w).length ≤ w.length + 2 := by
  unfold wtext
  split
  · rename_i h; subst h; decide
  · split
    · simp
    · rename_i h2
      have : ¬ (w.length + 2 ≤ (turn w).length) := fun z => h2 ⟨z, h⟩
      omega
/-! ### a written word, read as a script's -/
def bareT (w : List Nat) : List Tr := if w = [] then [] else [tx w]
theorem merge_tx6 (u w : List Nat) : merge [tx u] (tx w) = [tx (u ++ w)] := by
  show (if wText = wText ∧ wText = wText then List.dropLast [tx u] ++ [tx (u ++ w)] else [tx u] ++ [tx w]) = _
  rw [if_pos ⟨rfl, rfl⟩]
  rfl
theorem foldl_tx : ∀ (w u : List Nat), (w.map fun c => tx [c]).foldl merge [tx u] = [tx (u ++ w)]
  | [], u => by simp
  | c :: r, u => by
    rw [List.map_cons, List.foldl_cons, merge_tx6, foldl_tx r]
    simp
theorem joinP_signs (w : List Nat) : joinP (w.map fun c => tx [c]) = bareT w := by
  cases w with
  | nil => rfl
  | cons c r =>
    show (r.map fun c => tx [c]).foldl merge (merge [] (tx [c])) = _
    rw [show merge [] (tx [c]) = [tx [c]] from rfl, foldl_tx]
    rfl
theorem bW0_plain {c : Nat} {r : List Nat} (h1 : c ≠ 10) (h2 : c ∉ specL) : bW 0 (c :: r) = false := by
  have n59 : c ≠ 59 := fun z => h2 (by rw [z]; decide)
  have n32 : c ≠ 32 := fun z => h2 (by rw [z]; decide)
  show ((decide (0 < 0) && decide (c = 93)) || (decide (c = 10) || decide (c = 59)) || decide (c = 32)) = false
  simp [h1, n59, n32]
theorem bW0_92 {r : List Nat} : bW 0 (92 :: r) = false := rfl
theorem bar_turn {r : List Nat} (hr : bW 0 r = true) : ∀ w, DBar 0 (turn w ++ r) (.ok (w.map fun c => tx [c]) r)
  | [] => DBar.stop hr
  | c :: w => by
    have ih := bar_turn hr w
    have e : turn (c :: w) ++ r = tsig c ++ (turn w ++ r) := by
      unfold turn
      rw [List.flatMap_cons, List.append_assoc]
    rw [e]
    unfold tsig
    by_cases h1 : c = 10
    · rw [if_pos h1]
      subst h1
      exact DBar.piece (o := .ok (w.map fun c => tx [c]) r) bW0_92 (DPc.turn (d := 110)) ih
    · rw [if_neg h1]
      by_cases h2 : c ∈ specL
      · rw [if_pos h2]
        have : mean c = c := by
          unfold mean
          rw [if_neg]
          rintro rfl
          exact absurd h2 (by decide)
        have d := DBar.piece (o := .ok (w.map fun c => tx [c]) r) bW0_92 (DPc.turn (w := 0) (d := c) (r := turn w ++ r)) ih
        rw [this] at d
        exact d
      · rw [if_neg h2]
        exact DBar.piece (o := .ok (w.map fun c => tx [c]) r) (bW0_plain h1 h2) (DPc.sign (fun z => h2 (by rw [z]; decide)) (fun z => h2 (by rw [z]; decide)) (fun z => h2 (by rw [z]; decide))) ih
/-- a written word with an end behind it -/
theorem wrd_text (w : List Nat) {r : List Nat} (hr : bW 0 r = true) : ∃ c r', wtext w ++ r = c :: r' ∧ bW 0 (c :: r') = false ∧ c ≠ 35 ∧ DWrd 0 (c :: r') (.ok [.n (bareT w)] r) := by
  have brc : ∀ u : List Nat, Pairs u = true → DWrd 0 (123 :: (u ++ [125] ++ r)) (.ok [.n (bareT u)] r) := fun u hu => by
    have hp := (pend_pairs u).mpr hu
    have hp2 : pend 0 0 (123 :: (u ++ [125] ++ r)) = some (u.length + 1) := pend_more (123 :: (u ++ [125])) r 0 0 _ hp
    have e1 : (u ++ [125] ++ r).drop (u.length + 1) = r := List.drop_left' (by simp)
    have d := DWrd.braced (w := 0) hp2 (by rw [e1]; exact hr)
    rw [e1] at d
    have e2 : (if u.length + 1 = 1 then [] else [tx ((u ++ [125] ++ r).take (u.length + 1 - 1))]) = bareT u := by
      unfold bareT
      cases u with
      | nil => rfl
      | cons a b =>
        rw [if_neg (by simp), if_neg (by simp)]
        congr 2
        rw [Nat.add_sub_cancel, List.append_assoc]
        exact List.take_left' rfl
    rw [e2] at d
    exact d
  unfold wtext
  by_cases h0 : w = []
  · rw [if_pos h0]
    subst h0
    exact ⟨123, 125 :: r, rfl, rfl, by decide, brc [] (by decide)⟩
  · rw [if_neg h0]
    by_cases h1 : w.length + 2 ≤ (turn w).length ∧ Pairs w = true
    · rw [if_pos h1]
      exact ⟨123, w ++ [125] ++ r, rfl, rfl, by decide, brc w h1.2⟩
    · rw [if_neg h1]
      have d := bar_turn hr w
      cases w with
      | nil => exact absurd rfl h0
      | cons c w =>
        have e : turn (c :: w) ++ r = tsig c ++ (turn w ++ r) := by
          unfold turn
          rw [List.flatMap_cons, List.append_assoc]
        have key : ∃ d r', tsig c ++ (turn w ++ r) = d :: r' ∧ bW 0 (d :: r') = false ∧ d ≠ 35 ∧ d ≠ 123 ∧ d ≠ 34 := by
          unfold tsig
          by_cases h1 : c = 10
          · rw [if_pos h1]
            exact ⟨92, _, rfl, rfl, by decide, by decide, by decide⟩
          · rw [if_neg h1]
            by_cases h2 : c ∈ specL
            · rw [if_pos h2]
              exact ⟨92, _, rfl, rfl, by decide, by decide, by decide⟩
            · rw [if_neg h2]
              exact ⟨c, _, rfl, bW0_plain h1 h2, fun z => h2 (by rw [z]; decide), fun z => h2 (by rw [z]; decide), fun z => h2 (by rw [z]; decide)⟩
        rw [← e] at key
        obtain ⟨x, r', e2, k1, k2, k3, k4⟩ := key
        rw [e2] at d
        refine ⟨x, r', e2, k1, k2, ?_⟩
        have := DWrd.bare k3 k4 d hr
        rw [joinP_signs] at this
        exact this
theorem scr_word (w : List Nat) : DScr 0 (wtext w) (.ok [.n [.n (bareT w)]] []) := by
  obtain ⟨c, r', e, k1, k2, d⟩ := wrd_text w (r := []) rfl
  rw [List.append_nil] at e
  rw [e]
  exact DScr.cmd (o := .ok [] []) k1 k2 (DCmd.word (o := .ok [] []) k1 d (DCmd.stop rfl)) (DScr.stop rfl)
theorem cmd_words : ∀ (ws : List (List Nat)), ∃ ts, DCmd 0 (ltext ws) (.ok ts [])
  | [] => ⟨[], DCmd.stop rfl⟩
  | [w] => by
    obtain ⟨c, r', e, k1, k2, d⟩ := wrd_text w (r := []) rfl
    rw [List.append_nil] at e
    show ∃ ts, DCmd 0 (wtext w) (.ok ts [])
    rw [e]
    exact ⟨_, DCmd.word (o := .ok [] []) k1 d (DCmd.stop rfl)⟩
  | w :: v :: t => by
    obtain ⟨ts, ih⟩ := cmd_words (v :: t)
    obtain ⟨c, r', e, k1, k2, d⟩ := wrd_text w (r := 32 :: ltext (v :: t)) rfl
    show ∃ ts, DCmd 0 (wtext w ++ ([32] ++ ltext (v :: t))) (.ok ts [])
    rw [show wtext w ++ ([32] ++ ltext (v :: t)) = wtext w ++ (32 :: ltext (v :: t)) from rfl, e]
    exact ⟨_, DCmd.word (o := .ok ts []) k1 d (DCmd.skip rfl rfl ih)⟩
theorem scr_words (w : List Nat) (ws : List (List Nat)) : ∃ t, DScr 0 (ltext (w :: ws)) (.ok [t] []) := by
  obtain ⟨ts, h⟩ := cmd_words (w :: ws)
  have key : ∃ c r', ltext (w :: ws) = c :: r' ∧ bW 0 (c :: r') = false ∧ c ≠ 35 := by
    cases ws with
    | nil =>
      obtain ⟨c, r', e, k1, k2, d⟩ := wrd_text w (r := []) rfl
      rw [List.append_nil] at e
      exact ⟨c, r', e, k1, k2⟩
    | cons v t =>
      obtain ⟨c, r', e, k1, k2, d⟩ := wrd_text w (r := 32 :: ltext (v :: t)) rfl
      exact ⟨c, r', e, k1, k2⟩
  obtain ⟨c, r', e, k1, k2⟩ := key
  rw [e] at h ⊢
  exact ⟨_, DScr.cmd (o := .ok [] []) k1 k2 h (DScr.stop rfl)⟩
end My
namespace My
open PySem L2 SX C8
def top (i : Nat) : Stmt := PySem.Challenge.pw_wordrooms_k06_whole_all_small_words.main.body.getD i (.Pass ⟨0, 0, 0, 0⟩)
abbrev s_pair_end : Stmt := top 1
abbrev N_pair_end : List Str := ["text", "start", "many", "at"]
theorem sc_pair_end : FnScope N_pair_end ["text", "start"] (fnScope s_pair_end) := fnScope_by (by decide +kernel)
abbrev s_can_stand_in_braces : Stmt := top 2
abbrev N_can_stand_in_braces : List Str := ["word"]
theorem sc_can_stand_in_braces : FnScope N_can_stand_in_braces ["word"] (fnScope s_can_stand_in_braces) := fnScope_by (by decide +kernel)
abbrev s_is_letter : Stmt := top 12
abbrev N_is_letter : List Str := ["sign"]
theorem sc_is_letter : FnScope N_is_letter ["sign"] (fnScope s_is_letter) := fnScope_by (by decide +kernel)
abbrev s_is_name : Stmt := top 13
abbrev N_is_name : List Str := ["text", "sign"]
theorem sc_is_name : FnScope N_is_name ["text"] (fnScope s_is_name) := fnScope_by (by decide +kernel)
abbrev s_refuse_long : Stmt := top 14
abbrev N_refuse_long : List Str := ["text"]
theorem sc_refuse_long : FnScope N_refuse_long ["text"] (fnScope s_refuse_long) := fnScope_by (by decide +kernel)
abbrev s_turned_sign : Stmt := top 18
abbrev N_turned_sign : List Str := ["sign"]
theorem sc_turned_sign : FnScope N_turned_sign ["sign"] (fnScope s_turned_sign) := fnScope_by (by decide +kernel)
abbrev s_turned : Stmt := top 19
abbrev N_turned : List Str := ["text", "sign"]
theorem sc_turned : FnScope N_turned ["text"] (fnScope s_turned) := fnScope_by (by decide +kernel)
abbrev s_meant : Stmt := top 20
abbrev N_meant : List Str := ["sign"]
theorem sc_meant : FnScope N_meant ["sign"] (fnScope s_meant) := fnScope_by (by decide +kernel)
abbrev s_word_text : Stmt := top 22
abbrev N_word_text : List Str := ["word", "in_braces", "by_turns"]
theorem sc_word_text : FnScope N_word_text ["word"] (fnScope s_word_text) := fnScope_by (by decide +kernel)
abbrev s_list_text : Stmt := top 23
abbrev N_list_text : List Str := ["words", "word"]
theorem sc_list_text : FnScope N_list_text ["words"] (fnScope s_list_text) := fnScope_by (by decide +kernel)
abbrev s_read_list : Stmt := top 24
abbrev N_read_list : List Str := ["text"]
theorem sc_read_list : FnScope N_read_list ["text"] (fnScope s_read_list) := fnScope_by (by decide +kernel)
abbrev s_read_words : Stmt := top 25
abbrev N_read_words : List Str := ["text", "words", "at", "word", "end"]
theorem sc_read_words : FnScope N_read_words ["text"] (fnScope s_read_words) := fnScope_by (by decide +kernel)
abbrev s_behind_white : Stmt := top 26
abbrev N_behind_white : List Str := ["text", "start", "at"]
theorem sc_behind_white : FnScope N_behind_white ["text", "start"] (fnScope s_behind_white) := fnScope_by (by decide +kernel)
abbrev s_read_word : Stmt := top 27
abbrev N_read_word : List Str := ["text", "start"]
theorem sc_read_word : FnScope N_read_word ["text", "start"] (fnScope s_read_word) := fnScope_by (by decide +kernel)
abbrev s_read_braced : Stmt := top 28
abbrev N_read_braced : List Str := ["text", "start", "end", "behind"]
theorem sc_read_braced : FnScope N_read_braced ["text", "start"] (fnScope s_read_braced) := fnScope_by (by decide +kernel)
abbrev s_read_bare : Stmt := top 29
abbrev N_read_bare : List Str := ["text", "start", "signs", "at"]
theorem sc_read_bare : FnScope N_read_bare ["text", "start"] (fnScope s_read_bare) := fnScope_by (by decide +kernel)
abbrev s_parsed : Stmt := top 33
abbrev N_parsed : List Str := ["text", "reader"]
theorem sc_parsed : FnScope N_parsed ["text"] (fnScope s_parsed) := fnScope_by (by decide +kernel)
abbrev s_joined : Stmt := top 34
abbrev N_joined : List Str := ["pieces", "rows", "kind", "worth"]
theorem sc_joined : FnScope N_joined ["pieces"] (fnScope s_joined) := fnScope_by (by decide +kernel)
abbrev s__law_bag : Stmt := top 37
abbrev N__law_bag : List Str := ["_law_script", "_law_salt", "_law_cell"]
theorem sc__law_bag : FnScope N__law_bag ["_law_script"] (fnScope s__law_bag) := fnScope_by (by decide +kernel)
abbrev s__law_pull : Stmt := top 38
abbrev N__law_pull : List Str := ["_law_bag_here", "_law_amount", "_law_cell", "_law_got", "_law_seed"]
theorem sc__law_pull : FnScope N__law_pull ["_law_bag_here", "_law_amount"] (fnScope s__law_pull) := fnScope_by (by decide +kernel)
abbrev s__law_of : Stmt := top 39
abbrev N__law_of : List Str := ["_law_bag_here", "_law_things"]
theorem sc__law_of : FnScope N__law_of ["_law_bag_here", "_law_things"] (fnScope s__law_of) := fnScope_by (by decide +kernel)
abbrev s__law_text : Stmt := top 40
abbrev N__law_text : List Str := ["_law_bag_here", "_law_top", "_law_signs", "_law_k"]
theorem sc__law_text : FnScope N__law_text ["_law_bag_here", "_law_top"] (fnScope s__law_text) := fnScope_by (by decide +kernel)
abbrev s__law_turned : Stmt := top 41
abbrev N__law_turned : List Str := ["_law_text_here", "_law_found", "_law_sign"]
theorem sc__law_turned : FnScope N__law_turned ["_law_text_here"] (fnScope s__law_turned) := fnScope_by (by decide +kernel)
abbrev s__law_pairs : Stmt := top 42
abbrev N__law_pairs : List Str := ["_law_text_here", "_law_depths", "_law_at"]
theorem sc__law_pairs : FnScope N__law_pairs ["_law_text_here"] (fnScope s__law_pairs) := fnScope_by (by decide +kernel)
abbrev s__law_bare : Stmt := top 43
abbrev N__law_bare : List Str := ["_law_text_here"]
theorem sc__law_bare : FnScope N__law_bare ["_law_text_here"] (fnScope s__law_bare) := fnScope_by (by decide +kernel)
abbrev s__law_all_words : Stmt := top 44
abbrev N__law_all_words : List Str := ["_law_signs", "_law_found", "_law_last", "_law_size", "_law_longer", "_law_word", "_law_sign"]
theorem sc__law_all_words : FnScope N__law_all_words ["_law_signs"] (fnScope s__law_all_words) := fnScope_by (by decide +kernel)
abbrev s_law : Stmt := top 45
abbrev N_law : List Str := ["_law_script", "_law_bag_here", "_law_pool", "_law_signs", "_law_one", "_law_other", "_law_seen", "_law_word", "_law_text_here", "_law_k"]
theorem sc_law : FnScope N_law ["_law_script"] (fnScope s_law) := fnScope_by (by decide +kernel)
abbrev s_BadList___init__ : Stmt := inClass (top 5) 0
abbrev N_BadList___init__ : List Str := ["self", "place"]
theorem sc_BadList___init__ : FnScope N_BadList___init__ ["self", "place"] (fnScope s_BadList___init__) := fnScope_by (by decide +kernel)
abbrev s_BadScript___init__ : Stmt := inClass (top 6) 0
abbrev N_BadScript___init__ : List Str := ["self", "place"]
theorem sc_BadScript___init__ : FnScope N_BadScript___init__ ["self", "place"] (fnScope s_BadScript___init__) := fnScope_by (by decide +kernel)
abbrev s_Reader___init__ : Stmt := inClass (top 35) 0
abbrev N_Reader___init__ : List Str := ["self", "source"]
theorem sc_Reader___init__ : FnScope N_Reader___init__ ["self", "source"] (fnScope s_Reader___init__) := fnScope_by (by decide +kernel)
abbrev s_Reader_ends_text : Stmt := inClass (top 35) 1
abbrev N_Reader_ends_text : List Str := ["self"]
theorem sc_Reader_ends_text : FnScope N_Reader_ends_text ["self"] (fnScope s_Reader_ends_text) := fnScope_by (by decide +kernel)
abbrev s_Reader_ends_script : Stmt := inClass (top 35) 2
abbrev N_Reader_ends_script : List Str := ["self"]
theorem sc_Reader_ends_script : FnScope N_Reader_ends_script ["self"] (fnScope s_Reader_ends_script) := fnScope_by (by decide +kernel)
abbrev s_Reader_ends_command : Stmt := inClass (top 35) 3
abbrev N_Reader_ends_command : List Str := ["self"]
theorem sc_Reader_ends_command : FnScope N_Reader_ends_command ["self"] (fnScope s_Reader_ends_command) := fnScope_by (by decide +kernel)
abbrev s_Reader_ends_word : Stmt := inClass (top 35) 4
abbrev N_Reader_ends_word : List Str := ["self"]
theorem sc_Reader_ends_word : FnScope N_Reader_ends_word ["self"] (fnScope s_Reader_ends_word) := fnScope_by (by decide +kernel)
abbrev s_Reader_read_script : Stmt := inClass (top 35) 5
abbrev N_Reader_read_script : List Str := ["self", "commands"]
theorem sc_Reader_read_script : FnScope N_Reader_read_script ["self"] (fnScope s_Reader_read_script) := fnScope_by (by decide +kernel)
abbrev s_Reader_pass_remark : Stmt := inClass (top 35) 6
abbrev N_Reader_pass_remark : List Str := ["self"]
theorem sc_Reader_pass_remark : FnScope N_Reader_pass_remark ["self"] (fnScope s_Reader_pass_remark) := fnScope_by (by decide +kernel)
abbrev s_Reader_read_command : Stmt := inClass (top 35) 7
abbrev N_Reader_read_command : List Str := ["self", "words"]
theorem sc_Reader_read_command : FnScope N_Reader_read_command ["self"] (fnScope s_Reader_read_command) := fnScope_by (by decide +kernel)
abbrev s_Reader_read_word : Stmt := inClass (top 35) 8
abbrev N_Reader_read_word : List Str := ["self", "pieces"]
theorem sc_Reader_read_word : FnScope N_Reader_read_word ["self"] (fnScope s_Reader_read_word) := fnScope_by (by decide +kernel)
abbrev s_Reader_read_braced : Stmt := inClass (top 35) 9
abbrev N_Reader_read_braced : List Str := ["self", "start", "end"]
theorem sc_Reader_read_braced : FnScope N_Reader_read_braced ["self"] (fnScope s_Reader_read_braced) := fnScope_by (by decide +kernel)
abbrev s_Reader_read_quoted : Stmt := inClass (top 35) 10
abbrev N_Reader_read_quoted : List Str := ["self", "start", "pieces"]
theorem sc_Reader_read_quoted : FnScope N_Reader_read_quoted ["self"] (fnScope s_Reader_read_quoted) := fnScope_by (by decide +kernel)
abbrev s_Reader_read_bare : Stmt := inClass (top 35) 11
abbrev N_Reader_read_bare : List Str := ["self", "pieces"]
theorem sc_Reader_read_bare : FnScope N_Reader_read_bare ["self"] (fnScope s_Reader_read_bare) := fnScope_by (by decide +kernel)
abbrev s_Reader_read_piece : Stmt := inClass (top 35) 12
abbrev N_Reader_read_piece : List Str := ["self", "sign"]
theorem sc_Reader_read_piece : FnScope N_Reader_read_piece ["self"] (fnScope s_Reader_read_piece) := fnScope_by (by decide +kernel)
abbrev s_Reader_read_turned : Stmt := inClass (top 35) 13
abbrev N_Reader_read_turned : List Str := ["self", "behind"]
theorem sc_Reader_read_turned : FnScope N_Reader_read_turned ["self"] (fnScope s_Reader_read_turned) := fnScope_by (by decide +kernel)
abbrev s_Reader_read_name : Stmt := inClass (top 35) 14
abbrev N_Reader_read_name : List Str := ["self", "start", "in_braces", "name"]
theorem sc_Reader_read_name : FnScope N_Reader_read_name ["self"] (fnScope s_Reader_read_name) := fnScope_by (by decide +kernel)
abbrev s_Reader_read_letters : Stmt := inClass (top 35) 15
abbrev N_Reader_read_letters : List Str := ["self", "start"]
theorem sc_Reader_read_letters : FnScope N_Reader_read_letters ["self"] (fnScope s_Reader_read_letters) := fnScope_by (by decide +kernel)
abbrev s_Reader_read_run : Stmt := inClass (top 35) 16
abbrev N_Reader_read_run : List Str := ["self", "start", "commands"]
theorem sc_Reader_read_run : FnScope N_Reader_read_run ["self"] (fnScope s_Reader_read_run) := fnScope_by (by decide +kernel)
structure Txt (mg : Str → Option Value) : Prop where
  range : mg "range" = none
  len : mg "len" = none
  all : mg "all" = none
  tuple : mg "tuple" = none
  list : mg "list" = none
  min : mg "min" = none
  max : mg "max" = none
  g_LONGEST_NAME : ∃ u, mg "LONGEST_NAME" = some u ∧ RelV (.int 8) u
  g_LONGEST : ∃ u, mg "LONGEST" = some u ∧ RelV (.int 1000) u
  g_TURNED_SIGNS : ∃ u, mg "TURNED_SIGNS" = some u ∧ RelV (.str (Str.ofString " \\{}\"$[];#")) u
  g_TURN : ∃ u, mg "TURN" = some u ∧ RelV (.str (Str.ofString "\\")) u
  g_WHITE : ∃ u, mg "WHITE" = some u ∧ RelV (.str (Str.ofString " \n")) u
  g_COMMAND_ENDS : ∃ u, mg "COMMAND_ENDS" = some u ∧ RelV (.str (Str.ofString "\n;")) u
  g_MOST_RUNS : ∃ u, mg "MOST_RUNS" = some u ∧ RelV (.int 12) u
end My
namespace My
open PySem L2 SX C8
section
variable {P : Program} {w : World} {K : PySem.W.Frag} {mg : Str → Option Value} {base : Heap}
theorem ok_refuse_long {f : Addr} {fd : FuncData} (F : Def K mg "refuse_long" s_refuse_long f fd) (b : Binds K fd ["text"] []) (T : Txt mg) : Cal P w K mg base 1 "refuse_long" spRefuse [] := by
  refine cal0 F b .nil sc_refuse_long (fun vs H Q E h => ?_) (fun cdv A outer s H vs Q E hr h => ?_)
  · obtain ⟨l, rfl, _⟩ := h
    rfl
  obtain ⟨l, rfl, hl, q⟩ := h
  refine ⟨_, pss_one (ps_if (pt_cmpR op_gt (pe_callB call_len (by rfl) T.len (by decide +kernel) (pa_cons (pv 0) pa_nil)) (pe_gc rfl T.g_LONGEST) (nomark _))
      (pss_one (ps_never))
      (pss_nil)), ?_⟩
  refine ⟨_, rfl, _, _, rfl, ⟨size_S (by omega), rfl⟩, _, _, rfl, rfl, _, rfl, ?_⟩
  refine iteD (fun e => ?_) (fun _ => q)
  rw [S_len] at e
  omega
theorem ok_meant {f : Addr} {fd : FuncData} (F : Def K mg "meant" s_meant f fd) (b : Binds K fd ["sign"] []) (T : Txt mg) : Cal P w K mg base 1 "meant" spMean [] := by
  refine cal0 F b .nil sc_meant (fun vs H Q E h => ?_) (fun cdv A outer s H vs Q E hr h => ?_)
  · obtain ⟨l, rfl, _⟩ := h
    rfl
  obtain ⟨c, rfl, q⟩ := h
  refine ⟨_, pss_cons (ps_if (pt_cmpR op_eq (pv 0) pe_str (nomark _))
      (pss_one (ps_ret pe_str))
      (pss_nil))
    (pss_one (ps_ret (pv 0))), ?_⟩
  unfold mean at q
  refine ⟨_, rfl, rfl, _, rfl, ite_S lit_n (fun e1 => ?_) (fun n1 => ?_)⟩
  · rw [if_pos (List.head_eq_of_cons_eq e1), ← lit_nl] at q
    exact q
  · rw [if_neg (fun e => n1 (by rw [e]))] at q
    exact ⟨_, rfl, q⟩
end
end My
namespace My
open PySem L2 SX C8
section
variable {P : Program} {w : World} {K : PySem.W.Frag} {mg : Str → Option Value} {base : Heap}
theorem ok_pair_end {f : Addr} {fd : FuncData} (F : Def K mg "pair_end" s_pair_end f fd) (b : Binds K fd ["text", "start"] []) (T : Txt mg) : Cal P w K mg base 1 "pair_end" spPend [] := by
  refine cal0 F b .nil sc_pair_end (fun vs H Q E h => ?_) (fun cdv A outer s H vs Q E hr h => ?_)
  · obtain ⟨l, i, rfl, _⟩ := h
    rfl
  obtain ⟨l, i, rfl, hl, hi, q⟩ := h
  refine ⟨_, pss_cons (ps_set (i := 2) sc_pair_end.nd rfl (Or.inl rfl) pe_int)
    (pss_cons (ps_for PassesOwn.never rfl (pi_range2 rfl T.range (pa_cons (pv 1) (pa_cons (pe_callB call_len (by rfl) T.len (by decide +kernel) (pa_cons (pv 0) pa_nil)) pa_nil))) (pg_name (i := 3) sc_pair_end.nd rfl (Or.inl rfl))
      (pss_one (ps_if (pt_cmpR op_eq (pe_ix ix_str (pv 0) (pv 3) (fun _ _ => rfl)) pe_str (nomark _))
        (pss_one (ps_aug (i := 2) sc_pair_end.nd rfl (Or.inl rfl) pe_int ip_add))
        (pss_one (ps_if (pt_cmpR op_eq (pe_ix ix_str (pv 0) (pv 3) (fun _ _ => rfl)) pe_str (nomark _))
          (pss_cons (ps_aug (i := 2) sc_pair_end.nd rfl (Or.inl rfl) pe_int ip_sub)
          (pss_one (ps_if (pt_cmpR op_eq (pv 2) pe_int (nomark _))
            (pss_one (ps_ret (pv 3)))
            (pss_nil))))
          (pss_nil))))))
    (pss_one (ps_ret pe_non))), ?_⟩
  have hz : (S l).length ≤ sizeLine := size_S (by omega)
  refine ⟨_, rfl, _, rfl, _, _, rfl, ⟨hz, rfl⟩, _, _, rfl, ⟨by omega, by omega, by omega, by rw [S_len]; omega⟩, for_range
    (fun k σ H2 => ∃ (m : Int) (v : Option V), σ = [some (.str (S l)), some (.int (i : Int)), some (.int m), v] ∧ H2 = H ∧ pend m (i + k) (l.drop (i + k)) = pend 0 i (l.drop i)) ⟨0, none, rfl, rfl, rfl⟩ ?_ ?_⟩
  · rintro k σ H2 hk ⟨m, v, rfl, rfl, e⟩
    rw [S_len] at hk
    have hlt : i + k < l.length := by omega
    obtain ⟨c, hc⟩ : ∃ c, l[i + k]? = some c := ⟨l[i + k], List.getElem?_eq_getElem hlt⟩
    have ei : ((i : Int) + (k : Int)) = ((i + k : Nat) : Int) := by omega
    have ha : atI (S l).cps.toList ((i : Int) + (k : Int)) = some c := by rw [ei]; exact at_S hc
    rw [pend_at hc] at e
    have ek : i + k + 1 = i + (k + 1) := by omega
    rw [ek] at e
    refine ⟨_, rfl, _, rfl, _, _, _, rfl, rfl, hz, ha, rfl, _, rfl, ite_S lit_ob (fun e1 => ?_) (fun n1 => ?_)⟩
    · have e1' : c = 123 := List.head_eq_of_cons_eq e1
      rw [if_pos e1'] at e
      exact ⟨_, rfl, _, _, rfl, rfl, _, _, rfl, rfl, e⟩
    · have n1' : ¬ c = 123 := fun q => n1 (by rw [q])
      rw [if_neg n1'] at e
      refine ⟨_, rfl, _, rfl, _, _, _, rfl, rfl, hz, ha, rfl, _, rfl, ite_S lit_cb (fun e2 => ?_) (fun n2 => ?_)⟩
      · have e2' : c = 125 := List.head_eq_of_cons_eq e2
        rw [if_pos e2'] at e
        refine ⟨_, rfl, _, _, rfl, rfl, ?_⟩
        refine ⟨_, rfl, rfl, _, rfl, iteI (fun e3 => ?_) (fun n3 => ?_)⟩
        · rw [if_pos e3] at e
          refine ⟨_, rfl, ?_⟩
          rw [← e] at q
          rw [ei]
          exact q
        · rw [if_neg n3] at e
          exact ⟨_, _, rfl, rfl, e⟩
      · have n2' : ¬ c = 125 := fun q => n2 (by rw [q])
        rw [if_neg n2'] at e
        exact ⟨_, _, rfl, rfl, e⟩
  · rintro σ H2 ⟨m, v, rfl, rfl, e⟩
    have hn : (((S l).length : Int) - (i : Int)).toNat = l.length - i := by rw [S_len]; omega
    rw [hn, List.drop_eq_nil_of_le (by omega)] at e
    rw [← e] at q
    exact q
end
end My
namespace My
open PySem L2 SX C8
section
variable {P : Program} {w : World} {K : PySem.W.Frag} {mg : Str → Option Value} {base : Heap}
theorem oI_dec (o : Option Nat) (n : Nat) : decide (oI o = V.int (n : Int)) = decide (o = some n) := by
  cases o with
  | none => rfl
  | some k =>
    show decide (V.int (k : Int) = V.int (n : Int)) = _
    by_cases e : k = n
    · subst e; simp
    · rw [decide_eq_false (fun q => e (by have := V.int.inj q; omega)), decide_eq_false (fun q => e (Option.some.inj q))]
theorem oI_scal (o : Option Nat) (n : Int) : scal (oI o) (.int n) = true := by cases o <;> rfl
theorem ok_can_stand_in_braces {f : Addr} {fd : FuncData} (F : Def K mg "can_stand_in_braces" s_can_stand_in_braces f fd) (b : Binds K fd ["word"] []) (T : Txt mg) (c_pair_end : Cal P w K mg base 1 "pair_end" spPend []) : Cal P w K mg base 2 "can_stand_in_braces" spStand [] := by
  refine cal0 F b .nil sc_can_stand_in_braces (fun vs H Q E h => ?_) (fun cdv A outer s H vs Q E hr h => ?_)
  · obtain ⟨l, rfl, _⟩ := h
    rfl
  obtain ⟨l, rfl, hl, q⟩ := h
  refine ⟨_, pss_one (ps_ret (pe_cmpR op_eq (pe_c c_pair_end hr (by first | decide | assumption | omega) rfl (pa_cons (pe_op op_add_str (pe_op op_add_str pe_str (pv 0)) pe_str) (pa_cons pe_int pa_nil))) (pe_op op_add (pe_callB call_len (by rfl) T.len (by decide +kernel) (pa_cons (pv 0) pa_nil)) pe_int) (nomark _))), ?_⟩
  have hz : (S l).length ≤ sizeLine := size_S (by omega)
  have h1 : (Str.ofString "{").length + (S l).length ≤ sizeLine := by
    rw [lit_ob, S_len, S_len]; exact Nat.le_trans (show _ ≤ 100000 by simp; omega) (by decide)
  have e1 : Str.ofString "{" ++ S l ++ Str.ofString "}" = S (123 :: (l ++ [125])) := by
    rw [lit_ob, lit_cb, S_cat, S_cat] <;> rfl
  have h2 : (Str.ofString "{" ++ S l).length + (Str.ofString "}").length ≤ sizeLine := by
    rw [lit_ob, lit_cb, S_cat, S_len, S_len]; exact Nat.le_trans (show _ ≤ 100000 by simp; omega) (by decide)
  refine ⟨_, rfl, _, _, rfl, rfl, h1, _, _, rfl, rfl, h2, (123 :: (l ++ [125])), 0, by rw [e1] <;> rfl, by simp; omega, Nat.zero_le _, ?_⟩
  refine ⟨_, rfl, _, _, rfl, ⟨hz, rfl⟩, _, _, rfl, rfl, oI_scal _ _, ?_⟩
  have e2 : ((S l).length : Int) + 1 = ((l.length + 1 : Nat) : Int) := by rw [S_len]; omega
  show Q (V.bl (decide (oI (pend 0 0 (List.drop 0 (123 :: (l ++ [125])))) = V.int (((S l).length : Int) + 1)))) H
  rw [e2, oI_dec, List.drop_zero]
  have e3 : decide (pend 0 0 (123 :: (l ++ [125])) = some (l.length + 1)) = Pairs l := by
    cases hp : Pairs l with
    | true => exact decide_eq_true ((pend_pairs l).mpr hp)
    | false => exact decide_eq_false fun z => by rw [(pend_pairs l).mp z] at hp; cases hp
  rw [e3]
  exact q
end
end My
namespace My
open PySem L2 SX C8
section
variable {P : Program} {w : World} {K : PySem.W.Frag} {mg : Str → Option Value} {base : Heap}
theorem ok_turned_sign {f : Addr} {fd : FuncData} (F : Def K mg "turned_sign" s_turned_sign f fd) (b : Binds K fd ["sign"] []) (T : Txt mg) : Cal P w K mg base 1 "turned_sign" spTsig [] := by
  refine cal0 F b .nil sc_turned_sign (fun vs H Q E h => ?_) (fun cdv A outer s H vs Q E hr h => ?_)
  · obtain ⟨l, rfl, _⟩ := h
    rfl
  obtain ⟨c, rfl, q⟩ := h
  refine ⟨_, pss_cons (ps_if (pt_cmpR op_eq (pv 0) pe_str (nomark _))
      (pss_one (ps_ret (pe_op op_add_str (pe_gc rfl T.g_TURN) pe_str)))
      (pss_nil))
    (pss_cons (ps_if (pt_cmpR op_in_sign (pv 0) (pe_gc rfl T.g_TURNED_SIGNS) rfl)
      (pss_one (ps_ret (pe_op op_add_str (pe_gc rfl T.g_TURN) (pv 0))))
      (pss_nil))
    (pss_one (ps_ret (pv 0)))), ?_⟩
  refine ⟨_, rfl, rfl, _, rfl, ite_S lit_nl (fun e1 => ?_) (fun n1 => ?_)⟩
  · have e1' : c = 10 := List.head_eq_of_cons_eq e1
    refine ⟨_, _, rfl, rfl, ?_, ?_⟩
    · rw [lit_bs, lit_n]; decide
    · have e : Str.ofString "\\" ++ Str.ofString "n" = S (tsig c) := by
        rw [lit_bs, lit_n, S_cat, e1'] <;> rfl
      rw [e]
      exact q
  · have n1' : ¬ c = 10 := fun q => n1 (by rw [q])
    refine ⟨_, rfl, c, _, rfl, rfl, _, rfl, ?_⟩
    rw [lit_spec]
    refine iteD (fun e2 => ?_) (fun n2 => ?_)
    · refine ⟨_, rfl, _, _, rfl, rfl, ?_, ?_⟩
      · rw [lit_bs, S_len, S_len]; show 2 ≤ sizeLine; decide
      · have e : Str.ofString "\\" ++ S [c] = S (tsig c) := by
          have e2' : c ∈ specL := e2
          rw [lit_bs, S_cat]
          unfold tsig
          rw [if_neg n1', if_pos e2'] <;> rfl
        rw [e]
        exact q
    · refine ⟨_, rfl, ?_⟩
      have n2' : ¬ c ∈ specL := n2
      have e : tsig c = [c] := by
        unfold tsig
        rw [if_neg n1', if_neg n2']
      rw [e] at q
      exact q
theorem ok_turned {f : Addr} {fd : FuncData} (F : Def K mg "turned" s_turned f fd) (b : Binds K fd ["text"] []) (T : Txt mg) (c_turned_sign : Cal P w K mg base 1 "turned_sign" spTsig []) : Cal P w K mg base 2 "turned" spTurned [] := by
  refine cal0 F b .nil sc_turned (fun vs H Q E h => ?_) (fun cdv A outer s H vs Q E hr h => ?_)
  · obtain ⟨l, rfl, _⟩ := h
    rfl
  obtain ⟨l, rfl, hl, q⟩ := h
  refine ⟨_, pss_one (ps_ret (pe_join pe_str (pe_lc (own := [("sign", 1)]) (g := gName 1) (by rfl) sc_turned.nd (pi_str (pv 0)) (blkOk_by (own := [("sign", 1)]) (N := N_turned) (sc := fnScope s_turned) (by decide +kernel)) (fun _ _ _ _ _ => pg_name (i := 1) sc_turned.nd rfl (Or.inl rfl)) (fun _ _ _ _ _ => pts_nil) (fun _ _ _ _ _ => (pe_c c_turned_sign hr (by first | decide | assumption | omega) rfl (pa_cons (pv 1) pa_nil)))))), ?_⟩
  refine ⟨⟨_, rfl⟩, _, rfl, _, rfl, fun D hD => lc_it walk_str (fun i H2 => Same H H2 ∧ H2 D = some (.lst (((l.take i).map fun c => S (tsig c)).map V.str))) ⟨same_new hD _, upd_same⟩ (fun _ _ _ _ => trivial) ?_ ?_⟩
  · rintro i x H2 H3 hi ⟨hs, hd⟩ ⟨rfl, c, hc, rfl⟩
    have hc' : l[i]? = some c := by
      have : (S l).cps.toList[i]? = some c := by rw [Array.getElem?_toList]; exact hc
      exact this
    have hi' : i < l.length := (List.getElem?_eq_some_iff.mp hc').1
    refine ⟨rfl, _, rfl, c, rfl, _, hd, ?_, same_mut hs hD, ?_⟩
    · rw [List.length_map, List.length_map, List.length_take]
      exact Nat.lt_of_le_of_lt (show _ ≤ 40000 by omega) (by decide)
    · rw [upd_same, List.take_add_one, hc']
      simp
  · rintro H2 ⟨hs, hd⟩
    have hz : (S l).cps.size = l.length := S_len l
    rw [hz, List.take_length] at hd
    have hm : (l.map fun c => S (tsig c)) = (l.map tsig).map S := by rw [List.map_map] <;> rfl
    refine ⟨_, D, l.map fun c => S (tsig c), rfl, rfl, .inl (SqL.of hd), ?_, ?_⟩
    · rw [lit_e]
      have : ((l.map fun c => S (tsig c)).map (·.length)).sum = (turn l).length := by
        unfold turn
        rw [List.length_flatMap, List.map_map]
        congr 1
      rw [this]
      have := turn_len l
      have e0 : (S ([] : List Nat)).length = 0 := rfl
      rw [e0, Nat.mul_zero]
      omega
    · rw [hm, join0 lit_e]
      exact q H2 hs
end
end My
namespace My
open PySem L2 SX C8
section
variable {P : Program} {w : World} {K : PySem.W.Frag} {mg : Str → Option Value} {base : Heap}
theorem ok_word_text {f : Addr} {fd : FuncData} (F : Def K mg "word_text" s_word_text f fd) (b : Binds K fd ["word"] []) (T : Txt mg) (c_turned : Cal P w K mg base 2 "turned" spTurned []) (c_can_stand_in_braces : Cal P w K mg base 2 "can_stand_in_braces" spStand []) : Cal P w K mg base 3 "word_text" spWtext [] := by
  refine cal0 F b .nil sc_word_text (fun vs H Q E h => ?_) (fun cdv A outer s H vs Q E hr h => ?_)
  · obtain ⟨l, rfl, _⟩ := h
    rfl
  obtain ⟨l, rfl, hl, q⟩ := h
  refine ⟨_, pss_cons (ps_set (i := 1) sc_word_text.nd rfl (Or.inl rfl) (pe_op op_add_str (pe_op op_add_str pe_str (pv 0)) pe_str))
    (pss_cons (ps_if (pt_cmpR op_eq (pv 0) pe_str (nomark _))
      (pss_one (ps_ret (pv 1)))
      (pss_nil))
    (pss_cons (ps_set (i := 2) sc_word_text.nd rfl (Or.inl rfl) (pe_c c_turned hr (by first | decide | assumption | omega) rfl (pa_cons (pv 0) pa_nil)))
    (pss_cons (ps_if (PW.pt (pw_and (pt_cmpR op_le (pe_callB call_len (by rfl) T.len (by decide +kernel) (pa_cons (pv 1) pa_nil)) (pe_callB call_len (by rfl) T.len (by decide +kernel) (pa_cons (pv 2) pa_nil)) (nomark _)) (pw_and1 (pt_val (pe_c c_can_stand_in_braces hr (by first | decide | assumption | omega) rfl (pa_cons (pv 0) pa_nil))))))
      (pss_one (ps_ret (pv 1)))
      (pss_nil))
    (pss_one (ps_ret (pv 2)))))), ?_⟩
  have hz : (S l).length ≤ sizeLine := size_S (by omega)
  have h1 : (Str.ofString "{").length + (S l).length ≤ sizeLine := by
    rw [lit_ob, S_len, S_len]; exact Nat.le_trans (show _ ≤ 100000 by simp; omega) (by decide)
  have e1 : Str.ofString "{" ++ S l ++ Str.ofString "}" = S (123 :: (l ++ [125])) := by
    rw [lit_ob, lit_cb, S_cat, S_cat] <;> rfl
  have h2 : (Str.ofString "{" ++ S l).length + (Str.ofString "}").length ≤ sizeLine := by
    rw [lit_ob, lit_cb, S_cat, S_len, S_len]; exact Nat.le_trans (show _ ≤ 100000 by simp; omega) (by decide)
  refine ⟨_, rfl, _, _, rfl, rfl, h1, _, _, rfl, rfl, h2, ?_⟩
  rw [e1]
  refine ⟨_, rfl, rfl, _, rfl, ite_S lit_e (fun e2 => ?_) (fun n2 => ?_)⟩
  · refine ⟨_, rfl, ?_⟩
    have := q H (Same.refl H)
    subst e2
    exact this
  · refine ⟨_, rfl, l, rfl, hl, fun H1 s1 => ?_⟩
    have hz1 : (S (123 :: (l ++ [125]))).length ≤ sizeLine := size_S (by simp; omega)
    have ht : (turn l).length ≤ 80000 := by have := turn_len l; omega
    have hz2 : (S (turn l)).length ≤ sizeLine := size_S (by omega)
    refine ⟨_, rfl, _, _, rfl, ⟨hz1, rfl⟩, _, rfl, _, _, rfl, ⟨hz2, rfl⟩, _, _, rfl, rfl, _, rfl, ?_⟩
    have el : (S (123 :: (l ++ [125]))).length = l.length + 2 := by rw [S_len]; simp
    have et : (S (turn l)).length = (turn l).length := S_len _
    rw [el, et]
    refine iteD (fun e3 => ?_) (fun n3 => ?_)
    · refine ⟨_, rfl, l, rfl, by omega, _, rfl, ?_⟩
      cases hp : Pairs l with
      | true =>
        refine iteT ⟨_, rfl, ?_⟩
        have := q H1 s1
        unfold wtext at this
        rw [if_neg n2, if_pos ⟨by omega, hp⟩] at this
        exact this
      | false =>
        refine iteF ⟨_, rfl, ?_⟩
        have := q H1 s1
        unfold wtext at this
        rw [if_neg n2, if_neg (fun z => by rw [hp] at z; cases z.2)] at this
        exact this
    · refine iteF ⟨_, rfl, ?_⟩
      have := q H1 s1
      unfold wtext at this
      rw [if_neg n2, if_neg (fun z => n3 (by have := z.1; omega))] at this
      exact this
end
end My
namespace My
open PySem L2 SX C8
theorem lit_sp : (Str.ofString " ") = S [32] := by decide +kernel
/-- ' '.join of written words: the list that the comprehension has made -/
theorem join_words {ws : List (List Nat)} : Txt.join (Str.ofString " ") ((ws.map wtext).map S) = S (ltext ws) := by
  rw [lit_sp, join_S]
  rfl
theorem sum_le {k : Nat} : ∀ (ws : List (List Nat)), (∀ w ∈ ws, w.length ≤ k) → (((ws.map wtext).map S).map (·.length)).sum ≤ ws.length * (2 * k + 2)
  | [], _ => by simp
  | w :: r, h => by
    have ih := sum_le r fun x hx => h x (List.mem_cons_of_mem _ hx)
    have h1 := wtext_len w
    have h2 := h w List.mem_cons_self
    have e : (w :: r).length * (2 * k + 2) = r.length * (2 * k + 2) + (2 * k + 2) := by rw [List.length_cons, Nat.succ_mul]
    have e2 : (S (wtext w)).length = (wtext w).length := S_len _
    rw [e]
    simp only [List.map_cons, List.sum_cons]
    omega
section
variable {P : Program} {w : World} {K : PySem.W.Frag} {mg : Str → Option Value} {base : Heap}
theorem join_ok {H : Hp} {D : Addr} {ws : List (List Nat)} {Q : VK} (hl : ws.length ≤ 100) (hw : ∀ w ∈ ws, w.length ≤ 1000) (hd : H D = some (.lst (txs (ws.map wtext)))) (q : Q (.str (S (ltext ws))) H) :
    ∃ a p, ∃ ys : List Str, V.str (Str.ofString " ") = .str a ∧ [V.ref D] = [.ref p] ∧ (SqL K H p (ys.map V.str) ∨ SqT K H p (ys.map V.str)) ∧ (ys.map (·.length)).sum + ys.length * a.length ≤ 16777216 ∧ Q (.str (Txt.join a ys)) H := by
  rw [txs_map] at hd
  refine ⟨_, D, (ws.map wtext).map S, rfl, rfl, .inl (SqL.of hd), ?_, by rw [join_words]; exact q⟩
  have h1 := sum_le ws hw
  have h2 : ws.length * (2 * 1000 + 2) ≤ 100 * (2 * 1000 + 2) := Nat.mul_le_mul_right _ hl
  have h3 : (Str.ofString " ").length = 1 := by rw [lit_sp, S_len]; rfl
  rw [h3]
  simp only [List.length_map]
  omega
end
end My
namespace My
open PySem L2 SX C8
section
variable {P : Program} {w : World} {K : PySem.W.Frag} {mg : Str → Option Value} {base : Heap}
theorem ok_list_text {f : Addr} {fd : FuncData} (F : Def K mg "list_text" s_list_text f fd) (b : Binds K fd ["words"] []) (T : Txt mg) (c_word_text : Cal P w K mg base 3 "word_text" spWtext []) : Cal P w K mg base 4 "list_text" (spLtext K) [] := by
  refine cal0 F b .nil sc_list_text (fun vs H Q E h => ?_) (fun cdv A outer s H vs Q E hr h => ?_)
  · obtain ⟨a, ws, rfl, _⟩ := h
    rfl
  obtain ⟨a, ws, rfl, hS, hl, hw, q⟩ := h
  refine ⟨_, pss_one (ps_ret (pe_join pe_str (pe_lc (own := [("word", 1)]) (g := gName 1) (by rfl) sc_list_text.nd (pi_list (pv 0)) (blkOk_by (own := [("word", 1)]) (N := N_list_text) (sc := fnScope s_list_text) (by decide +kernel)) (fun _ _ _ _ _ => pg_name (i := 1) sc_list_text.nd rfl (Or.inl rfl)) (fun _ _ _ _ _ => pts_nil) (fun _ _ _ _ _ => (pe_c c_word_text hr (by first | decide | assumption | omega) rfl (pa_cons (pv 1) pa_nil)))))), ?_⟩
  refine ⟨⟨_, rfl⟩, _, rfl, a, rfl, ⟨_, hS⟩, fun D hD => lc_list (K := K) (a := a) (xs := txs ws) (fun i H2 => Same H H2 ∧ H2 D = some (.lst (txs ((ws.take i).map wtext)))) ⟨same_new hD _, upd_same⟩ (fun _ _ _ h => Same.seq h.1 hS) ?_ ?_⟩
  · rintro i x H2 hi ⟨hs, hd⟩
    unfold txs at hi
    rw [List.getElem?_map] at hi
    obtain ⟨u, hu, rfl⟩ : ∃ u, ws[i]? = some u ∧ x = V.str (S u) := by
      cases e : ws[i]? with
      | none => rw [e] at hi; cases hi
      | some u => rw [e] at hi; exact ⟨u, rfl, (Option.some.inj hi).symm⟩
    have hul := hw u (List.mem_of_getElem? hu)
    refine ⟨rfl, _, rfl, u, rfl, by omega, fun H3 s3 => ⟨_, s3 _ _ hd, ?_, same_mut (hs.trans s3) hD, ?_⟩⟩
    · rw [txs_len, List.length_map, List.length_take]
      exact Nat.lt_of_le_of_lt (show _ ≤ 100 by omega) (by decide)
    · rw [upd_same, List.take_add_one, hu, List.map_append, ← txs_snoc]
      rfl
  · rintro H2 ⟨hs, hd⟩
    rw [txs_len, List.take_length] at hd
    exact join_ok hl hw hd (q H2 hs)
end
end My
namespace My
open PySem L2 SX C8
section
variable {P : Program} {w : World} {K : PySem.W.Frag} {mg : Str → Option Value} {base : Heap}
theorem ok_behind_white {f : Addr} {fd : FuncData} (F : Def K mg "behind_white" s_behind_white f fd) (b : Binds K fd ["text", "start"] []) (T : Txt mg) : Cal P w K mg base 1 "behind_white" spBehind [] := by
  refine cal0 F b .nil sc_behind_white (fun vs H Q E h => ?_) (fun cdv A outer s H vs Q E hr h => ?_)
  · obtain ⟨l, i, rfl, _⟩ := h
    rfl
  obtain ⟨l, i, rfl, hl, hi, q⟩ := h
  refine ⟨_, pss_cons (ps_set (i := 2) sc_behind_white.nd rfl (Or.inl rfl) (pv 1))
    (pss_cons (ps_while PassesOwn.never (PW.pt (pw_and (pt_cmpR op_lt (pv 2) (pe_callB call_len (by rfl) T.len (by decide +kernel) (pa_cons (pv 0) pa_nil)) (nomark _)) (pw_and1 (pt_cmpR op_in_sign (pe_ix ix_str (pv 0) (pv 2) (fun _ _ => rfl)) (pe_gc rfl T.g_WHITE) rfl))))
      (pss_one (ps_aug (i := 2) sc_behind_white.nd rfl (Or.inl rfl) pe_int ip_add)))
    (pss_one (ps_ret (pv 2)))), ?_⟩
  have hz : (S l).length ≤ sizeLine := size_S (by omega)
  refine ⟨_, rfl, fun m σ H2 => ∃ k : Nat, σ = [some (.str (S l)), some (.int (i : Int)), some (.int ((i + k : Nat) : Int))] ∧ H2 = H ∧ m = l.length - (i + k) ∧ i + k ≤ l.length ∧ k + skipW (l.drop (i + k)) = skipW (l.drop i), ⟨_, 0, rfl, rfl, rfl, hi, by simp⟩, ?_⟩
  rintro m σ H2 ⟨k, rfl, rfl, rfl, hk, e⟩
  refine ⟨_, rfl, _, rfl, _, _, rfl, ⟨hz, rfl⟩, _, _, rfl, rfl, _, rfl, iteD (fun lt => ?_) (fun nlt => iteF ?_)⟩
  · rw [S_len] at lt
    have hlt : i + k < l.length := by omega
    have hd := List.drop_eq_getElem_cons hlt
    refine ⟨_, rfl, _, rfl, _, _, _, rfl, rfl, hz, atS' hlt, l[i + k], _, rfl, rfl, _, rfl, ?_⟩
    rw [lit_white]
    refine iteD (fun hw => ?_) (fun nw => ?_)
    · have hw' : White l[i + k] := (mem_white _).mp hw
      have e2 : skipW (l.drop (i + k)) = skipW (l.drop (i + (k + 1))) + 1 := by rw [hd, skipW, if_pos hw', Nat.add_assoc]
      refine ⟨fun σ' H' => ∃ m', m' < l.length - (i + k) ∧ ∃ k : Nat, σ' = [some (.str (S l)), some (.int (i : Int)), some (.int ((i + k : Nat) : Int))] ∧ H' = H2 ∧ m' = l.length - (i + k) ∧ i + k ≤ l.length ∧ k + skipW (l.drop (i + k)) = skipW (l.drop i), fun _ _ h => h, ?_⟩
      refine ⟨_, rfl, _, _, rfl, rfl, l.length - (i + (k + 1)), by omega, k + 1, ?_, rfl, rfl, by omega, by omega⟩
      have e3 : (((i + k : Nat) : Int) + 1) = ((i + (k + 1) : Nat) : Int) := by omega
      rw [← e3]
      rfl
    · have nw' : ¬ White l[i + k] := fun h => nw ((mem_white _).mpr h)
      have e2 : skipW (l.drop (i + k)) = 0 := by rw [hd, skipW, if_neg nw']
      refine ⟨_, rfl, ?_⟩
      have e3 : skipW (l.drop i) = k := by omega
      rw [e3] at q
      exact q
  · rw [S_len] at nlt
    have e2 : skipW (l.drop (i + k)) = 0 := by rw [List.drop_eq_nil_of_le (by omega)]; rfl
    refine ⟨_, rfl, ?_⟩
    have e3 : skipW (l.drop i) = k := by omega
    rw [e3] at q
    exact q
theorem ok_read_braced {f : Addr} {fd : FuncData} (F : Def K mg "read_braced" s_read_braced f fd) (b : Binds K fd ["text", "start"] []) (T : Txt mg) (c_pair_end : Cal P w K mg base 1 "pair_end" spPend []) : Cal P w K mg base 2 "read_braced" spBraced [] := by
  refine cal0 F b .nil sc_read_braced (fun vs H Q E h => ?_) (fun cdv A outer s H vs Q E hr h => ?_)
  · obtain ⟨l, i, e, rfl, _⟩ := h
    rfl
  obtain ⟨l, i, e, rfl, hl, hi, he, he1, hw, q⟩ := h
  refine ⟨_, pss_cons (ps_set (i := 2) sc_read_braced.nd rfl (Or.inl rfl) (pe_c c_pair_end hr (by first | decide | assumption | omega) rfl (pa_cons (pv 0) (pa_cons (pv 1) pa_nil))))
    (pss_cons (ps_if (pt_cmpR op_isN (pv 2) pe_non (nomark _))
      (pss_one (ps_never))
      (pss_nil))
    (pss_cons (ps_set (i := 3) sc_read_braced.nd rfl (Or.inl rfl) (pe_op op_add (pv 2) pe_int))
    (pss_cons (ps_if (PW.pt (pw_and (pt_cmpR op_lt (pv 3) (pe_callB call_len (by rfl) T.len (by decide +kernel) (pa_cons (pv 0) pa_nil)) (nomark _)) (pw_and1 (pt_cmpR op_notIn_sign (pe_ix ix_str (pv 0) (pv 3) (fun _ _ => rfl)) (pe_gc rfl T.g_WHITE) rfl))))
      (pss_one (ps_never))
      (pss_nil))
    (pss_one (ps_ret (pe_tup (pa_cons (pe_slice sl_str (pv 0) (po_some (pe_op op_add (pv 1) pe_int)) (po_some (pv 2))) (pa_cons (pv 3) pa_nil)))))))), ?_⟩
  have hz : (S l).length ≤ sizeLine := size_S (by omega)
  have hlt := pend_lt _ _ _ _ he
  rw [List.length_drop] at hlt
  refine ⟨_, rfl, _, rfl, l, i, rfl, by omega, by omega, ?_⟩
  rw [pend_i he]
  refine ⟨_, rfl, rfl, _, rfl, iteF ?_⟩
  refine ⟨_, rfl, _, _, rfl, rfl, ?_⟩
  have e1 : (((i + e : Nat) : Int) + 1) = ((i + (e + 1) : Nat) : Int) := by omega
  have fin : ∀ σ, σ = [some (.str (S l)), some (.int (i : Int)), some (.int ((i + e : Nat) : Int)), some (.int (((i + e : Nat) : Int) + 1))] → tRet (tTup (tCons (tSl rSlS (tVar 0) (tPart (tOp (rI0 fun i j => V.int (i + j)) (tVar 1) (tC (V.int 1)))) (tPart (tVar 2))) (tCons (tVar 3) tNil))) { nx := fun _ H' => Q .non H', rt := Q } σ H := by
    rintro σ rfl
    refine ⟨_, rfl, _, rfl, _, _, rfl, rfl, _, rfl, _, rfl, _, rfl, _, rfl, hz, _, rfl, (by show 2 ≤ sizeLine; decide), fun p hp => ?_⟩
    have e2 : ((i : Int) + 1) = ((i + 1 : Nat) : Int) := by omega
    rw [e2, slice_nn l (i + 1) (i + e) (by omega) (by omega), e1]
    refine q p _ (same_new hp _) hp ?_
    rw [upd_same, List.drop_drop, show i + e - (i + 1) = e - 1 by omega]
  refine ⟨_, rfl, _, rfl, _, _, rfl, ⟨hz, rfl⟩, _, _, rfl, rfl, _, rfl, iteD (fun lt => ?_) (fun nlt => iteF (fin _ rfl))⟩
  rw [S_len] at lt
  have hlt2 : i + (e + 1) < l.length := by omega
  have ha : atI (S l).cps.toList (((i + e : Nat) : Int) + 1) = some l[i + (e + 1)] := by rw [e1]; exact atS' hlt2
  refine ⟨_, rfl, _, rfl, _, _, _, rfl, rfl, hz, ha, l[i + (e + 1)], _, rfl, rfl, _, rfl, ?_⟩
  rw [lit_white]
  refine iteN (fun nw => ?_) (fun _ => fin _ rfl)
  rw [List.drop_drop, List.drop_eq_getElem_cons hlt2] at hw
  exact absurd ((mem_white _).mpr hw) nw
theorem ok_read_bare {f : Addr} {fd : FuncData} (F : Def K mg "read_bare" s_read_bare f fd) (b : Binds K fd ["text", "start"] []) (T : Txt mg) (c_meant : Cal P w K mg base 1 "meant" spMean []) : Cal P w K mg base 2 "read_bare" spBare [] := by
  refine cal0 F b .nil sc_read_bare (fun vs H Q E h => ?_) (fun cdv A outer s H vs Q E hr h => ?_)
  · obtain ⟨l, i, w, n, rfl, _⟩ := h
    rfl
  obtain ⟨l, i, w, n, rfl, hl, hi, hrd, q⟩ := h
  refine ⟨_, pss_cons (ps_set (i := 2) sc_read_bare.nd rfl (Or.inl rfl) (pe_lst pa_nil))
    (pss_cons (ps_set (i := 3) sc_read_bare.nd rfl (Or.inl rfl) (pv 1))
    (pss_cons (ps_while PassesOwn.never (PW.pt (pw_and (pt_cmpR op_lt (pv 3) (pe_callB call_len (by rfl) T.len (by decide +kernel) (pa_cons (pv 0) pa_nil)) (nomark _)) (pw_and1 (pt_cmpR op_notIn_sign (pe_ix ix_str (pv 0) (pv 3) (fun _ _ => rfl)) (pe_gc rfl T.g_WHITE) rfl))))
      (pss_one (ps_if (pt_cmpR op_ne (pe_ix ix_str (pv 0) (pv 3) (fun _ _ => rfl)) (pe_gc rfl T.g_TURN) (nomark _))
        (pss_cons (ps_expr (pe_bm PySem.F.plainAttrs_list PySem.F.slot_list_append PySem.F.type_list_append mt_append (pv 2) (pa_cons (pe_ix ix_str (pv 0) (pv 3) (fun _ _ => rfl)) pa_nil)))
        (pss_one (ps_aug (i := 3) sc_read_bare.nd rfl (Or.inl rfl) pe_int ip_add)))
        (pss_one (ps_if (pt_cmpR op_lt (pe_op op_add (pv 3) pe_int) (pe_callB call_len (by rfl) T.len (by decide +kernel) (pa_cons (pv 0) pa_nil)) (nomark _))
          (pss_cons (ps_expr (pe_bm PySem.F.plainAttrs_list PySem.F.slot_list_append PySem.F.type_list_append mt_append (pv 2) (pa_cons (pe_c c_meant hr (by first | decide | assumption | omega) rfl (pa_cons (pe_ix ix_str (pv 0) (pe_op op_add (pv 3) pe_int) (fun _ _ => rfl)) pa_nil)) pa_nil)))
          (pss_one (ps_aug (i := 3) sc_read_bare.nd rfl (Or.inl rfl) pe_int ip_add)))
          (pss_one (ps_never)))))))
    (pss_one (ps_ret (pe_tup (pa_cons (pe_join pe_str (pv 2)) (pa_cons (pv 3) pa_nil))))))), ?_⟩
  have hz : (S l).length ≤ sizeLine := size_S (by omega)
  refine ⟨(by show 0 ≤ sizeLine; decide), fun p hp => ⟨_, rfl, ?_⟩⟩
  let W : Nat → L2.St → Hp → Prop := fun m σ H2 => ∃ (k : Nat) (acc : List Nat), σ = [some (.str (S l)), some (.int (i : Int)), some (.ref p), some (.int ((i + k : Nat) : Int))] ∧ Same H H2 ∧ H2 p = some (.lst (txs (acc.map fun c => [c]))) ∧ m = l.length - (i + k) ∧ i + k ≤ l.length ∧ acc.length ≤ k ∧
    ∃ (w' : List Nat) (n' : Nat), rdBare (l.drop (i + k)) = some (w', n') ∧ acc ++ w' = w ∧ k + n' = n
  refine ⟨W, ⟨_, 0, [], rfl, same_new hp _, upd_same, rfl, hi, Nat.le_refl _, w, n, hrd, rfl, by omega⟩, ?_⟩
  rintro m σ H2 ⟨k, acc, rfl, hs, hd, rfl, hk, hacc, w', n', hr', hw, hn⟩
  have fin : w' = [] → n' = 0 → tRet (tTup (tCons (tM1 (fun x xs H Q => ∃ a p, ∃ ys : List Str, x = .str a ∧ xs = [.ref p] ∧ (SqL K H p (ys.map V.str) ∨ SqT K H p (ys.map V.str)) ∧ (ys.map (·.length)).sum + ys.length * a.length ≤ 16777216 ∧ Q (.str (Txt.join a ys)) H) (tC (.str (Str.ofString ""))) (tVar 2)) (tCons (tVar 3) tNil))) { nx := fun _ H' => Q .non H', rt := Q } [some (.str (S l)), some (.int (i : Int)), some (.ref p), some (.int ((i + k : Nat) : Int))] H2 := by
    rintro rfl rfl
    rw [List.append_nil] at hw
    subst hw
    rw [txs_map] at hd
    refine ⟨⟨_, rfl⟩, _, rfl, _, p, (acc.map fun c => [c]).map S, rfl, rfl, .inl (SqL.of hd), ?_, _, rfl, (by show 2 ≤ sizeLine; decide), fun p2 hp2 => ?_⟩
    · rw [lit_e]
      have e0 : (S ([] : List Nat)).length = 0 := rfl
      have e1 : ∀ u : List Nat, ((((u.map fun c => [c]).map S)).map (·.length)).sum = u.length := fun u => by
        induction u with
        | nil => rfl
        | cons c r ih => simp only [List.map_cons, List.sum_cons, ih, List.length_cons]; rw [S_len]; simp; omega
      rw [e0, Nat.mul_zero, e1]
      omega
    · have ef : ∀ u : List Nat, (u.map fun c => [c]).flatten = u := fun u => by
        induction u with
        | nil => rfl
        | cons c r ih => simp only [List.map_cons, List.flatten_cons, ih]; rfl
      rw [join0 lit_e, ef]
      have en : i + k = i + n := by omega
      rw [en]
      exact q p2 _ (hs.trans (same_new hp2 _)) (Same.free hs hp2) upd_same
  refine ⟨_, rfl, _, rfl, _, _, rfl, ⟨hz, rfl⟩, _, _, rfl, rfl, _, rfl, iteD (fun lt => ?_) (fun nlt => iteF ?_)⟩
  · rw [S_len] at lt
    have hlt : i + k < l.length := by omega
    have hdr := List.drop_eq_getElem_cons hlt
    rw [hdr] at hr'
    unfold rdBare at hr'
    refine ⟨_, rfl, _, rfl, _, _, _, rfl, rfl, hz, atS' hlt, l[i + k], _, rfl, rfl, _, rfl, ?_⟩
    rw [lit_white]
    refine iteN (fun nw => ?_) (fun hw2 => ?_)
    · have nw' : ¬ White l[i + k] := fun h => nw ((mem_white _).mpr h)
      rw [if_neg nw'] at hr'
      refine ⟨fun σ' H' => ∃ m', m' < l.length - (i + k) ∧ W m' σ' H', fun _ _ h => h, ?_⟩
      refine ⟨_, rfl, _, rfl, _, _, _, rfl, rfl, hz, atS' hlt, rfl, _, rfl, iteNS lit_bs (fun n92 => ?_) (fun e92 => ?_)⟩
      · have n92' : ¬ l[i + k] = 92 := fun h => n92 (by rw [h])
        rw [if_neg n92'] at hr'
        simp only [Option.map_eq_some_iff] at hr'
        obtain ⟨⟨w2, n2⟩, h3, h4⟩ := hr'
        cases h4
        refine ⟨_, rfl, .inl ⟨rfl, _, SqL.of hd⟩, _, rfl, _, rfl, _, _, _, rfl, rfl, hz, atS' hlt, p, _, _, rfl, rfl, hd, ?_, ?_⟩
        · rw [txs_len, List.length_map]
          exact Nat.lt_of_le_of_lt (show _ ≤ 2000 by omega) (by decide)
        · have e3 : (((i + k : Nat) : Int) + 1) = ((i + (k + 1) : Nat) : Int) := by omega
          refine ⟨_, rfl, _, _, rfl, rfl, l.length - (i + (k + 1)), by omega, k + 1, acc ++ [l[i + k]], by rw [← e3]; rfl, same_mut hs hp, ?_, rfl, by omega, by simp; omega, w2, n2, h3, by rw [List.append_assoc]; exact hw, by omega⟩
          rw [upd_same, List.map_append, ← txs_snoc]
          rfl
      · have e92' : l[i + k] = 92 := List.head_eq_of_cons_eq e92
        rw [if_pos e92'] at hr'
        refine ⟨_, rfl, _, _, rfl, rfl, _, rfl, _, _, rfl, ⟨hz, rfl⟩, _, _, rfl, rfl, _, rfl, iteD (fun lt2 => ?_) (fun nlt2 => ?_)⟩
        · rw [S_len] at lt2
          have hlt2 : i + k + 1 < l.length := by omega
          rw [List.drop_eq_getElem_cons hlt2] at hr'
          simp only [Option.map_eq_some_iff] at hr'
          obtain ⟨⟨w2, n2⟩, h3, h4⟩ := hr'
          cases h4
          have e4 : (((i + k : Nat) : Int) + 1) = ((i + k + 1 : Nat) : Int) := by omega
          have ha : atI (S l).cps.toList (((i + k : Nat) : Int) + 1) = some l[i + k + 1] := by rw [e4]; exact atS' hlt2
          refine ⟨_, rfl, .inl ⟨rfl, _, SqL.of hd⟩, _, rfl, _, rfl, _, _, rfl, rfl, _, _, _, rfl, rfl, hz, ha, l[i + k + 1], rfl, p, _, _, rfl, rfl, hd, ?_, ?_⟩
          · rw [txs_len, List.length_map]
            exact Nat.lt_of_le_of_lt (show _ ≤ 2000 by omega) (by decide)
          · have e3 : (((i + k : Nat) : Int) + 2) = ((i + (k + 2) : Nat) : Int) := by omega
            refine ⟨_, rfl, _, _, rfl, rfl, l.length - (i + (k + 2)), by omega, k + 2, acc ++ [mean l[i + k + 1]], by rw [← e3]; rfl, same_mut hs hp, ?_, rfl, by omega, by simp; omega, w2, n2, h3, by rw [List.append_assoc]; exact hw, by omega⟩
            rw [upd_same, List.map_append, ← txs_snoc]
            rfl
        · rw [S_len] at nlt2
          rw [List.drop_eq_nil_of_le (show l.length ≤ i + k + 1 by omega)] at hr'
          cases hr'
    · rw [if_pos ((mem_white _).mp hw2)] at hr'
      cases hr'
      exact fin rfl rfl
  · rw [S_len] at nlt
    rw [List.drop_eq_nil_of_le (by omega)] at hr'
    cases hr'
    exact fin rfl rfl
theorem ok_read_word {f : Addr} {fd : FuncData} (F : Def K mg "read_word" s_read_word f fd) (b : Binds K fd ["text", "start"] []) (T : Txt mg) (c_read_braced : Cal P w K mg base 2 "read_braced" spBraced []) (c_read_bare : Cal P w K mg base 2 "read_bare" spBare []) : Cal P w K mg base 3 "read_word" spWord [] := by
  refine cal0 F b .nil sc_read_word (fun vs H Q E h => ?_) (fun cdv A outer s H vs Q E hr h => ?_)
  · obtain ⟨l, i, w, n, rfl, _⟩ := h
    rfl
  obtain ⟨l, i, w, n, rfl, hl, hi, hrd, q⟩ := h
  refine ⟨_, pss_cons (ps_if (pt_cmpR op_eq (pe_ix ix_str (pv 0) (pv 1) (fun _ _ => rfl)) pe_str (nomark _))
      (pss_one (ps_ret (pe_c c_read_braced hr (by first | decide | assumption | omega) rfl (pa_cons (pv 0) (pa_cons (pv 1) pa_nil)))))
      (pss_nil))
    (pss_one (ps_ret (pe_c c_read_bare hr (by first | decide | assumption | omega) rfl (pa_cons (pv 0) (pa_cons (pv 1) pa_nil))))), ?_⟩
  have hz : (S l).length ≤ sizeLine := size_S (by omega)
  have hdr := List.drop_eq_getElem_cons hi
  refine ⟨_, rfl, _, rfl, _, _, _, rfl, rfl, hz, atS' hi, rfl, _, rfl, ite_S lit_ob (fun e1 => ?_) (fun n1 => ?_)⟩
  · have e1' : l[i] = 123 := List.head_eq_of_cons_eq e1
    generalize hL : l.drop i = L at hrd hdr
    cases hrd with
    | @braced r e h he =>
      have he1 : 1 ≤ e := by
        have := pend_lt r (0 + 1) (0 + 1) e (by simpa [pend] using h)
        omega
      refine ⟨_, rfl, _, rfl, l, i, e, rfl, hl, hi, by rw [hL]; exact h, he1, by rw [hL]; exact he, fun p H' s' n' h' => ?_⟩
      rw [hL] at h'
      exact q p H' s' n' h'
    | @bare c r w n h1 h2 h =>
      cases hdr
      exact absurd e1' h1
  · have n1' : l[i] ≠ 123 := fun h => n1 (by rw [h])
    generalize hL : l.drop i = L at hrd hdr
    cases hrd with
    | @braced r e h he =>
      rw [List.cons.injEq] at hdr
      exact absurd hdr.1.symm n1'
    | @bare c r w n h1 h2 h =>
      exact ⟨_, rfl, _, rfl, l, i, w, n, rfl, hl, by omega, by rw [hL]; exact h, q⟩
theorem ok_read_words {f : Addr} {fd : FuncData} (F : Def K mg "read_words" s_read_words f fd) (b : Binds K fd ["text"] []) (T : Txt mg) (c_behind_white : Cal P w K mg base 1 "behind_white" spBehind []) (c_read_word : Cal P w K mg base 3 "read_word" spWord []) : Cal P w K mg base 4 "read_words" spRead [] := by
  refine cal0 F b .nil sc_read_words (fun vs H Q E h => ?_) (fun cdv A outer s H vs Q E hr h => ?_)
  · obtain ⟨l, ws, rfl, _⟩ := h
    rfl
  obtain ⟨l, ws, rfl, hl, hrd, q⟩ := h
  refine ⟨_, pss_cons (ps_set (i := 1) sc_read_words.nd rfl (Or.inl rfl) (pe_lst pa_nil))
    (pss_cons (ps_set (i := 2) sc_read_words.nd rfl (Or.inl rfl) (pe_c c_behind_white hr (by first | decide | assumption | omega) rfl (pa_cons (pv 0) (pa_cons pe_int pa_nil))))
    (pss_cons (ps_while PassesOwn.never (pt_cmpR op_lt (pv 2) (pe_callB call_len (by rfl) T.len (by decide +kernel) (pa_cons (pv 0) pa_nil)) (nomark _))
      (pss_cons (ps_asg (pe_c c_read_word hr (by first | decide | assumption | omega) rfl (pa_cons (pv 0) (pa_cons (pv 2) pa_nil))) (pg_tup rfl (pgs_cons (pg_name (i := 3) sc_read_words.nd rfl (Or.inl rfl)) (pgs_cons (pg_name (i := 4) sc_read_words.nd rfl (Or.inl rfl)) pgs_nil))))
      (pss_cons (ps_expr (pe_bm PySem.F.plainAttrs_list PySem.F.slot_list_append PySem.F.type_list_append mt_append (pv 1) (pa_cons (pv 3) pa_nil)))
      (pss_one (ps_set (i := 2) sc_read_words.nd rfl (Or.inl rfl) (pe_c c_behind_white hr (by first | decide | assumption | omega) rfl (pa_cons (pv 0) (pa_cons (pv 4) pa_nil))))))))
    (pss_one (ps_ret (pv 1))))), ?_⟩
  have hz : (S l).length ≤ sizeLine := size_S (by omega)
  refine ⟨(by show 0 ≤ sizeLine; decide), fun p hp => ⟨_, rfl, l, 0, rfl, hl, Nat.zero_le _, ?_⟩⟩
  let W : Nat → L2.St → Hp → Prop := fun m σ H2 => ∃ (k : Nat) (acc vs : List (List Nat)) (x y : Option V), σ = [some (.str (S l)), some (.ref p), some (.int ((k + skipW (l.drop k) : Nat) : Int)), x, y] ∧ Same H H2 ∧ H2 p = some (.lst (txs acc)) ∧ m = l.length - k ∧ k ≤ l.length ∧ acc.length ≤ k ∧ Reads (l.drop k) vs ∧ acc ++ vs = ws
  refine ⟨W, ⟨_, 0, [], ws, none, none, by simp; rfl, same_new hp _, upd_same, rfl, Nat.zero_le _, Nat.le_refl _, hrd, rfl⟩, ?_⟩
  rintro m σ H2 ⟨k, acc, vs, x, y, rfl, hs, hd, rfl, hk, hacc, hv, hw⟩
  have hsk := skipW_le (l.drop k)
  rw [List.length_drop] at hsk
  refine ⟨_, rfl, _, rfl, _, _, rfl, ⟨hz, rfl⟩, _, _, rfl, rfl, _, rfl, iteD (fun lt => ?_) (fun nlt => ?_)⟩
  · rw [S_len] at lt
    have hlt : k + skipW (l.drop k) < l.length := by omega
    refine ⟨fun σ' H' => ∃ m', m' < l.length - k ∧ W m' σ' H', fun _ _ h => h, ?_⟩
    cases hv with
    | nil h =>
      rw [List.drop_drop, List.drop_eq_nil_iff] at h
      omega
    | @cons _ u n us h hn hr2 =>
      rw [List.drop_drop] at h
      rw [List.drop_drop, List.drop_drop, ← Nat.add_assoc] at hr2
      refine ⟨_, rfl, _, rfl, l, k + skipW (l.drop k), u, n, rfl, hl, hlt, h, fun t H3 s3 ht h3 => ?_⟩
      have hn2 : k + skipW (l.drop k) + n ≤ l.length := by
        have := rdWord_le h
        rw [List.length_drop] at this
        omega
      refine ⟨t, _, rfl, SqT.of h3, rfl, _, _, rfl, _, _, rfl, rfl, ?_⟩
      have hp3 := s3 _ _ hd
      refine ⟨_, rfl, .inl ⟨rfl, _, SqL.of hp3⟩, _, rfl, p, _, _, rfl, rfl, hp3, ?_, ?_⟩
      · rw [txs_len]
        exact Nat.lt_of_le_of_lt (show _ ≤ 2000 by omega) (by decide)
      · refine ⟨_, rfl, _, rfl, l, k + skipW (l.drop k) + n, rfl, hl, hn2, ?_⟩
        exact ⟨l.length - (k + skipW (l.drop k) + n), by omega, k + skipW (l.drop k) + n, acc ++ [u], us, _, _, rfl, same_mut (hs.trans s3) hp, by rw [upd_same, txs_snoc], rfl, hn2, by simp; omega, hr2, by rw [List.append_assoc]; exact hw⟩
  · rw [S_len] at nlt
    refine ⟨_, rfl, ?_⟩
    cases hv with
    | nil h =>
      rw [List.append_nil] at hw
      subst hw
      exact q p H2 hs hp hd
    | @cons _ u n us h hn hr2 =>
      rw [List.drop_drop, List.drop_eq_nil_of_le (by omega)] at h
      cases h
theorem ok_read_list {f : Addr} {fd : FuncData} (F : Def K mg "read_list" s_read_list f fd) (b : Binds K fd ["text"] []) (T : Txt mg) (c_refuse_long : Cal P w K mg base 1 "refuse_long" spRefuse []) (c_read_words : Cal P w K mg base 4 "read_words" spRead []) : Cal P w K mg base 5 "read_list" spRead [] := by
  refine cal0 F b .nil sc_read_list (fun vs H Q E h => ?_) (fun cdv A outer s H vs Q E hr h => ?_)
  · obtain ⟨l, ws, rfl, _⟩ := h
    rfl
  obtain ⟨l, ws, rfl, hl, hrd, q⟩ := h
  refine ⟨_, pss_cons (ps_expr (pe_c c_refuse_long hr (by first | decide | assumption | omega) rfl (pa_cons (pv 0) pa_nil)))
    (pss_one (ps_ret (pe_c c_read_words hr (by first | decide | assumption | omega) rfl (pa_cons (pv 0) pa_nil)))), ?_⟩
  exact ⟨_, rfl, l, rfl, hl, _, rfl, l, ws, rfl, hl, hrd, q⟩
end
end My
namespace My
open PySem L2 SX C8
/-! ### a Reader -/
theorem nAS : ¬ (("at" : Str) = "source") := by decide +kernel
theorem nWS : ¬ (("within" : Str) = "source") := by decide +kernel
theorem nWA : ¬ (("within" : Str) = "at") := by decide +kernel
theorem nSA : ¬ (("source" : Str) = "at") := by decide +kernel
theorem nSW : ¬ (("source" : Str) = "within") := by decide +kernel
theorem nAW : ¬ (("at" : Str) = "within") := by decide +kernel
def rf (l : List Nat) (i w : Nat) : List (Str × V) := [("source", .str (S l)), ("at", .int (i : Int)), ("within", .int (w : Int))]
theorem lk_cons (f g : Str) (y : V) (fs : List (Str × V)) : ((f, y) :: fs).lookup g = if g = f then some y else fs.lookup g := lookup_put f g y fs
theorem rf_src (l : List Nat) (i w : Nat) : (rf l i w).lookup ("source" : Str) = some (.str (S l)) := by
  unfold rf; rw [lk_cons, if_pos rfl]
theorem rf_at (l : List Nat) (i w : Nat) : (rf l i w).lookup ("at" : Str) = some (.int (i : Int)) := by
  unfold rf; rw [lk_cons, if_neg nAS, lk_cons, if_pos rfl]
theorem rf_wi (l : List Nat) (i w : Nat) : (rf l i w).lookup ("within" : Str) = some (.int (w : Int)) := by
  unfold rf; rw [lk_cons, if_neg nWS, lk_cons, if_neg nWA, lk_cons, if_pos rfl]
theorem rf_no (l : List Nat) (i w : Nat) {m : Str} (h1 : ¬ m = "source") (h2 : ¬ m = "at") (h3 : ¬ m = "within") : (rf l i w).lookup m = none := by
  unfold rf; rw [lk_cons, if_neg h1, lk_cons, if_neg h2, lk_cons, if_neg h3]; rfl
theorem putF_cons (f g : Str) (x y : V) (fs : List (Str × V)) : putF f x ((g, y) :: fs) = if g = f then (g, x) :: fs else (g, y) :: putF f x fs := rfl
theorem rf_putat (l : List Nat) (i w : Nat) (j : Nat) {z : Int} (hz : z = (j : Int)) : putF "at" (.int z) (rf l i w) = rf l j w := by
  subst hz
  unfold rf
  rw [putF_cons, if_neg nSA, putF_cons, if_pos rfl]
theorem rf_putwi (l : List Nat) (i w : Nat) (j : Nat) {z : Int} (hz : z = (j : Int)) : putF "within" (.int z) (rf l i w) = rf l i j := by
  subst hz
  unfold rf
  rw [putF_cons, if_neg nSW, putF_cons, if_neg nAW, putF_cons, if_pos rfl]
/-- a Reader of the text l, at place i, within w runs, stands at p -/
def RdAt (C : Addr) (H : Hp) (p : Addr) (l : List Nat) (i w : Nat) : Prop := l.length ≤ 1000 ∧ i ≤ l.length ∧ ∃ dx, H p = some (.ins C dx (rf l i w))
theorem RdAt.notup {C : Addr} {H : Hp} {p : Addr} {l : List Nat} {i w : Nat} (h : RdAt C H p l i w) : ∀ xs, H p ≠ some (.tup xs) := fun xs e => by
  obtain ⟨_, _, dx, h⟩ := h
  rw [h] at e
  cases e
/-- what the walk asks of the class -/
structure RdC (K : PySem.W.Frag) (mg : Str → Option Value) (C : Addr) : Prop where
  cl : Cls K C
  nS : NoAttr K C "source"
  nA : NoAttr K C "at"
  nW : NoAttr K C "within"
  mgC : mg "Reader" = some (.ref C)
def spEnds (C : Addr) (f : Nat → List Nat → Bool) : Sp := fun vs H Q _ => ∃ (p : Addr) (l : List Nat) (i w : Nat), vs = [.ref p] ∧ RdAt C H p l i w ∧ Q (.bl (f w (l.drop i))) H
/-- a step on -/
def spMove (C : Addr) (f : List Nat → List Nat) : Sp := fun vs H Q _ => ∃ (p : Addr) (l : List Nat) (i w : Nat), vs = [.ref p] ∧ RdAt C H p l i w ∧ ∀ (j : Nat) H', But p H H' → RdAt C H' p l j w → l.drop j = f (l.drop i) → Q .non H'
section
variable {P : Program} {w : World} {K : PySem.W.Frag} {mg : Str → Option Value} {base : Heap} {C : Addr}
theorem ok_ends_text {f : Addr} {fd : FuncData} (R : RdC K mg C) (me : Meth K C "ends_text" f) (F : C8.Fun K "ends_text" "Reader.ends_text" s_Reader_ends_text f fd) (b : Binds K fd ["self"] []) (T : Txt mg) : Met P w K mg base 1 C "ends_text" (spEnds C fun _ r => r.isEmpty) [] := by
  refine met0 R.cl me F b sc_Reader_ends_text (fun vs H Q E h => ?_) (fun cdv A outer s H vs Q E hr h => ?_)
  · obtain ⟨p, l, i, w, rfl, _⟩ := h
    rfl
  obtain ⟨p, l, i, w, rfl, ⟨hl, hi, dx, hp⟩, q⟩ := h
  refine ⟨_, pss_one (ps_ret (pe_cmpR op_eq (pe_fld (pv 0) rfl) (pe_callB call_len (by rfl) T.len (by decide +kernel) (pa_cons (pe_fld (pv 0) rfl) pa_nil)) (nomark _))), ?_⟩
  refine ⟨_, rfl, p, C, dx, _, _, rfl, hp, R.cl, R.nA, rf_at _ _ _, _, rfl, p, C, dx, _, _, rfl, hp, R.cl, R.nS, rf_src _ _ _, _, _, rfl, ⟨size_S (by omega), rfl⟩, rfl, ?_⟩
  rw [dec_int, S_len]
  have e : ((i : Int) == (l.length : Int)) = (l.drop i).isEmpty := by
    by_cases h : i = l.length
    · subst h; simp
    · have h1 : l.drop i ≠ [] := fun z => h (by have := List.drop_eq_nil_iff.mp z; omega)
      have h2 : (l.drop i).isEmpty = false := by simpa using h1
      rw [h2]
      exact beq_eq_false_iff_ne.mpr (by omega)
  rw [e]
  exact q
theorem drop_cases {l : List Nat} {i : Nat} (h : i ≤ l.length) : l.drop i = [] ∨ ∃ (hl : i < l.length), l.drop i = l[i] :: l.drop (i + 1) := by
  by_cases e : i < l.length
  · exact .inr ⟨e, List.drop_eq_getElem_cons e⟩
  · exact .inl (List.drop_eq_nil_of_le (by omega))
theorem lit_cl : (Str.ofString "]") = S [93] := by decide +kernel
theorem lit_ce : (Str.ofString "\n;") = S [10, 59] := by decide +kernel
theorem lit_bl : (Str.ofString " ") = S [32] := by decide +kernel
theorem lit_hash : (Str.ofString "#") = S [35] := by decide +kernel
theorem dec_1 (a b : Nat) : decide (V.str (S [a]) = V.str (S [b])) = decide (a = b) := by
  rw [dec_S]
  by_cases h : a = b
  · subst h; simp
  · rw [decide_eq_false h, decide_eq_false fun z => h (List.head_eq_of_cons_eq z)]
theorem ok_ends_script {f : Addr} {fd : FuncData} (R : RdC K mg C) (me : Meth K C "ends_script" f) (F : C8.Fun K "ends_script" "Reader.ends_script" s_Reader_ends_script f fd) (b : Binds K fd ["self"] []) (T : Txt mg) (c_ends_text : Met P w K mg base 1 C "ends_text" (spEnds C fun _ r => r.isEmpty) []) : Met P w K mg base 2 C "ends_script" (spEnds C bS) [] := by
  refine met0 R.cl me F b sc_Reader_ends_script (fun vs H Q E h => ?_) (fun cdv A outer s H vs Q E hr h => ?_)
  · obtain ⟨p, l, i, w, rfl, _⟩ := h
    rfl
  obtain ⟨p, l, i, w, rfl, hR, q⟩ := h
  obtain ⟨hl, hi, dx, hp⟩ := id hR
  refine ⟨_, pss_one (ps_ret (pe_or (pe_mt0 c_ends_text hr (by first | decide | assumption | omega) (pv 0)) (pe_one (pe_and (pe_cmpR op_gt (pe_fld (pv 0) rfl) pe_int (nomark _)) (pe_one (pe_cmpR op_eq (pe_ix ix_str (pe_fld (pv 0) rfl) (pe_fld (pv 0) rfl) (fun _ _ => rfl)) pe_str (nomark _))))))), ?_⟩
  refine ⟨_, rfl, p, dx, _, rfl, hp, rf_no _ _ _ (by decide +kernel) (by decide +kernel) (by decide +kernel), p, l, i, w, rfl, hR, _, rfl, ?_⟩
  rcases drop_cases hi with e | ⟨hlt, e⟩
  · rw [e] at q ⊢
    exact iteT q
  · rw [e] at q ⊢
    refine iteF ⟨_, rfl, p, C, dx, _, _, rfl, hp, R.cl, R.nW, rf_wi _ _ _, _, _, rfl, rfl, _, rfl, iteD (fun h0 => ?_) (fun h0 => ?_)⟩
    · refine ⟨_, rfl, p, C, dx, _, _, rfl, hp, R.cl, R.nS, rf_src _ _ _, _, rfl, p, C, dx, _, _, rfl, hp, R.cl, R.nA, rf_at _ _ _, _, _, _, rfl, rfl, size_S (by omega), at_S (List.getElem?_eq_getElem hlt), rfl, ?_⟩
      rw [lit_cl, dec_1]
      have : bS w (l[i] :: l.drop (i + 1)) = decide (l[i] = 93) := by
        show (decide (0 < w) && decide (l[i] = 93)) = _
        rw [decide_eq_true (show 0 < w by omega), Bool.true_and]
      rw [this] at q
      exact q
    · have : bS w (l[i] :: l.drop (i + 1)) = false := by
        show (decide (0 < w) && decide (l[i] = 93)) = _
        rw [decide_eq_false (show ¬ 0 < w by omega), Bool.false_and]
      rw [this] at q
      exact q
theorem ok_ends_command {f : Addr} {fd : FuncData} (R : RdC K mg C) (me : Meth K C "ends_command" f) (F : C8.Fun K "ends_command" "Reader.ends_command" s_Reader_ends_command f fd) (b : Binds K fd ["self"] []) (T : Txt mg) (c_ends_script : Met P w K mg base 2 C "ends_script" (spEnds C bS) []) : Met P w K mg base 3 C "ends_command" (spEnds C bC) [] := by
  refine met0 R.cl me F b sc_Reader_ends_command (fun vs H Q E h => ?_) (fun cdv A outer s H vs Q E hr h => ?_)
  · obtain ⟨p, l, i, w, rfl, _⟩ := h
    rfl
  obtain ⟨p, l, i, w, rfl, hR, q⟩ := h
  obtain ⟨hl, hi, dx, hp⟩ := id hR
  refine ⟨_, pss_one (ps_ret (pe_or (pe_mt0 c_ends_script hr (by first | decide | assumption | omega) (pv 0)) (pe_one (pe_cmpR op_in_sign (pe_ix ix_str (pe_fld (pv 0) rfl) (pe_fld (pv 0) rfl) (fun _ _ => rfl)) (pe_gc rfl T.g_COMMAND_ENDS) rfl)))), ?_⟩
  refine ⟨_, rfl, p, dx, _, rfl, hp, rf_no _ _ _ (by decide +kernel) (by decide +kernel) (by decide +kernel), p, l, i, w, rfl, hR, _, rfl, ?_⟩
  rcases drop_cases hi with e | ⟨hlt, e⟩
  · rw [e] at q ⊢
    exact iteT q
  · rw [e] at q ⊢
    have hb : bC w (l[i] :: l.drop (i + 1)) = (bS w (l[i] :: l.drop (i + 1)) || (decide (l[i] = 10) || decide (l[i] = 59))) := rfl
    cases hs : bS w (l[i] :: l.drop (i + 1)) with
    | true =>
      rw [hb, hs] at q
      exact iteT q
    | false =>
      rw [hb, hs, Bool.false_or] at q
      refine iteF ⟨_, rfl, p, C, dx, _, _, rfl, hp, R.cl, R.nS, rf_src _ _ _, _, rfl, p, C, dx, _, _, rfl, hp, R.cl, R.nA, rf_at _ _ _, _, _, _, rfl, rfl, size_S (by omega), at_S (List.getElem?_eq_getElem hlt), l[i], _, rfl, rfl, ?_⟩
      rw [lit_ce]
      have : decide (l[i] ∈ (S [10, 59]).cps.toList) = (decide (l[i] = 10) || decide (l[i] = 59)) := by
        rw [Bool.eq_iff_iff]
        simp
      rw [this]
      exact q
theorem ok_ends_word {f : Addr} {fd : FuncData} (R : RdC K mg C) (me : Meth K C "ends_word" f) (F : C8.Fun K "ends_word" "Reader.ends_word" s_Reader_ends_word f fd) (b : Binds K fd ["self"] []) (T : Txt mg) (c_ends_command : Met P w K mg base 3 C "ends_command" (spEnds C bC) []) : Met P w K mg base 4 C "ends_word" (spEnds C bW) [] := by
  refine met0 R.cl me F b sc_Reader_ends_word (fun vs H Q E h => ?_) (fun cdv A outer s H vs Q E hr h => ?_)
  · obtain ⟨p, l, i, w, rfl, _⟩ := h
    rfl
  obtain ⟨p, l, i, w, rfl, hR, q⟩ := h
  obtain ⟨hl, hi, dx, hp⟩ := id hR
  refine ⟨_, pss_one (ps_ret (pe_or (pe_mt0 c_ends_command hr (by first | decide | assumption | omega) (pv 0)) (pe_one (pe_cmpR op_eq (pe_ix ix_str (pe_fld (pv 0) rfl) (pe_fld (pv 0) rfl) (fun _ _ => rfl)) pe_str (nomark _))))), ?_⟩
  refine ⟨_, rfl, p, dx, _, rfl, hp, rf_no _ _ _ (by decide +kernel) (by decide +kernel) (by decide +kernel), p, l, i, w, rfl, hR, _, rfl, ?_⟩
  rcases drop_cases hi with e | ⟨hlt, e⟩
  · rw [e] at q ⊢
    exact iteT q
  · rw [e] at q ⊢
    have hb : bW w (l[i] :: l.drop (i + 1)) = (bC w (l[i] :: l.drop (i + 1)) || decide (l[i] = 32)) := rfl
    cases hs : bC w (l[i] :: l.drop (i + 1)) with
    | true =>
      rw [hb, hs] at q
      exact iteT q
    | false =>
      rw [hb, hs, Bool.false_or] at q
      refine iteF ⟨_, rfl, p, C, dx, _, _, rfl, hp, R.cl, R.nS, rf_src _ _ _, _, rfl, p, C, dx, _, _, rfl, hp, R.cl, R.nA, rf_at _ _ _, _, _, _, rfl, rfl, size_S (by omega), at_S (List.getElem?_eq_getElem hlt), rfl, ?_⟩
      rw [lit_bl, dec_1]
      exact q
end
end My
namespace My
open PySem L2 SX C8
theorem lit_a : (Str.ofString "a") = S [97] := by decide +kernel
theorem lit_z : (Str.ofString "z") = S [122] := by decide +kernel
theorem lt1 (a b : Nat) : decide ((S [a]).cps.toList < (S [b]).cps.toList) = decide (a < b) := by
  show decide ([a] < [b]) = _
  by_cases h : a < b
  · rw [decide_eq_true h, decide_eq_true]
    exact List.cons_lt_cons_iff.mpr (.inl h)
  · rw [decide_eq_false h, decide_eq_false]
    intro z
    rcases List.cons_lt_cons_iff.mp z with z | ⟨_, z⟩
    · exact h z
    · cases z
def spLetter : Sp := fun vs H Q _ => ∃ (c : Nat), vs = [.str (S [c])] ∧ Q (.bl (low c)) H
def isName (n : List Nat) : Bool := decide (1 ≤ n.length) && decide (n.length ≤ 8) && n.all low
def spName : Sp := fun vs H Q _ => ∃ (n : List Nat), vs = [.str (S n)] ∧ n.length ≤ 1000 ∧ ∀ H', Same H H' → Q (.bl (isName n)) H'
def spLetters (C : Addr) : Sp := fun vs H Q _ => ∃ (p : Addr) (l : List Nat) (i w : Nat), vs = [.ref p] ∧ RdAt C H p l i w ∧ ∀ (j : Nat) H', But p H H' → RdAt C H' p l j w → l.drop j = (l.drop i).dropWhile low → Q (.str (S ((l.drop i).takeWhile low))) H'
section
variable {P : Program} {w : World} {K : PySem.W.Frag} {mg : Str → Option Value} {base : Heap} {C : Addr}
theorem ok_is_letter {f : Addr} {fd : FuncData} (F : Def K mg "is_letter" s_is_letter f fd) (b : Binds K fd ["sign"] []) (T : Txt mg) : Cal P w K mg base 1 "is_letter" spLetter [] := by
  refine cal0 F b .nil sc_is_letter (fun vs H Q E h => ?_) (fun cdv A outer s H vs Q E hr h => ?_)
  · obtain ⟨l, rfl, _⟩ := h
    rfl
  obtain ⟨c, rfl, q⟩ := h
  refine ⟨_, pss_one (ps_ret (pe_chain op_le_str op_le_str pe_str (pv 0) pe_str)), ?_⟩
  refine ⟨_, rfl, _, _, rfl, rfl, _, rfl, ?_⟩
  rw [lit_a, lt1]
  unfold low at q
  by_cases h : c < 97
  · rw [decide_eq_true h]
    rw [decide_eq_false (show ¬ 97 ≤ c by omega), Bool.false_and] at q
    exact iteF q
  · rw [decide_eq_false h]
    rw [decide_eq_true (show 97 ≤ c by omega), Bool.true_and] at q
    refine iteT ⟨_, _, rfl, rfl, ?_⟩
    rw [lit_z, lt1]
    have : (!decide (122 < c)) = decide (c ≤ 122) := by
      by_cases h2 : c ≤ 122
      · rw [decide_eq_true h2, decide_eq_false (by omega)]; rfl
      · rw [decide_eq_false h2, decide_eq_true (by omega)]; rfl
    rw [this]
    exact q
theorem allMap (bs : List Nat) : (bs.map low).all id = bs.all low := by
  induction bs with
  | nil => rfl
  | cons c r ih => simp only [List.map_cons, List.all_cons, ih, id]
theorem ok_is_name {f : Addr} {fd : FuncData} (F : Def K mg "is_name" s_is_name f fd) (b : Binds K fd ["text"] []) (T : Txt mg) (c_is_letter : Cal P w K mg base 1 "is_letter" spLetter []) : Cal P w K mg base 2 "is_name" spName [] := by
  refine cal0 F b .nil sc_is_name (fun vs H Q E h => ?_) (fun cdv A outer s H vs Q E hr h => ?_)
  · obtain ⟨l, rfl, _⟩ := h
    rfl
  obtain ⟨n, rfl, hl, q⟩ := h
  refine ⟨_, pss_one (ps_ret (pe_and (pe_chain op_le op_le pe_int (pe_callB call_len (by rfl) T.len (by decide +kernel) (pa_cons (pv 0) pa_nil)) (pe_gc rfl T.g_LONGEST_NAME)) (pe_one (pe_callB (cr_all rfl) (by rfl) T.all (by decide +kernel) (pa_cons (pe_lc (own := [("sign", 1)]) (g := gName 1) (by rfl) sc_is_name.nd (pi_str (pv 0)) (blkOk_by (own := [("sign", 1)]) (N := N_is_name) (sc := fnScope s_is_name) (by decide +kernel)) (fun _ _ _ _ _ => pg_name (i := 1) sc_is_name.nd rfl (Or.inl rfl)) (fun _ _ _ _ _ => pts_nil) (fun _ _ _ _ _ => (pe_c c_is_letter hr (by first | decide | assumption | omega) rfl (pa_cons (pv 1) pa_nil)))) pa_nil))))), ?_⟩
  have hz : (S n).length ≤ sizeLine := size_S (by omega)
  refine ⟨_, rfl, _, _, rfl, ⟨hz, rfl⟩, _, _, rfl, rfl, _, rfl, ?_⟩
  have e1 : decide ((1 : Int) ≤ ((S n).length : Int)) = decide (1 ≤ n.length) := by
    rw [S_len]
    by_cases h : 1 ≤ n.length
    · rw [decide_eq_true h, decide_eq_true (by omega)]
    · rw [decide_eq_false h, decide_eq_false (by omega)]
  rw [e1]
  unfold isName at q
  cases h1 : decide (1 ≤ n.length) with
  | false =>
    rw [h1] at q
    exact iteF ⟨_, rfl, iteF (q H (Same.refl H))⟩
  | true =>
    rw [h1, Bool.true_and] at q
    refine iteT ⟨_, _, rfl, rfl, _, rfl, ?_⟩
    have e2 : decide (((S n).length : Int) ≤ 8) = decide (n.length ≤ 8) := by
      rw [S_len]
      by_cases h : n.length ≤ 8
      · rw [decide_eq_true h, decide_eq_true (by omega)]
      · rw [decide_eq_false h, decide_eq_false (by omega)]
    rw [e2]
    cases h2 : decide (n.length ≤ 8) with
    | false =>
      rw [h2] at q
      exact iteF (q H (Same.refl H))
    | true =>
      rw [h2, Bool.true_and] at q
      refine iteT ⟨_, rfl, _, rfl, fun D hD => lc_it walk_str (fun i H2 => Same H H2 ∧ H2 D = some (.lst (((n.take i).map low).map V.bl))) ⟨same_new hD _, upd_same⟩ (fun _ _ _ _ => trivial) ?_ ?_⟩
      · rintro i x H2 H3 hi ⟨hs, hd⟩ ⟨rfl, c, hc, rfl⟩
        have hc' : n[i]? = some c := by
          have : (S n).cps.toList[i]? = some c := by rw [Array.getElem?_toList]; exact hc
          exact this
        refine ⟨rfl, _, rfl, c, rfl, _, hd, ?_, same_mut hs hD, ?_⟩
        · rw [List.length_map, List.length_map, List.length_take]
          exact Nat.lt_of_le_of_lt (show _ ≤ 2000 by omega) (by decide)
        · rw [upd_same, List.take_add_one, hc']
          simp
      · rintro H2 ⟨hs, hd⟩
        have hz : (S n).cps.size = n.length := S_len n
        rw [hz, List.take_length] at hd
        refine ⟨D, _, rfl, SqL.of hd, ?_⟩
        rw [allMap]
        exact q H2 hs
theorem rd_step {H : Hp} {p : Addr} {l : List Nat} {i w : Nat} {dx : Addr} (hl : l.length ≤ 1000) (hi : i + 1 ≤ l.length) : RdAt C (upd H p (.ins C dx (putF "at" (.int ((i : Int) + 1)) (rf l i w)))) p l (i + 1) w :=
  ⟨hl, hi, dx, by rw [upd_same, rf_putat l i w (i + 1) (by omega)]⟩
theorem ok_pass_remark {f : Addr} {fd : FuncData} (R : RdC K mg C) (me : Meth K C "pass_remark" f) (F : C8.Fun K "pass_remark" "Reader.pass_remark" s_Reader_pass_remark f fd) (b : Binds K fd ["self"] []) (T : Txt mg) (c_ends_text : Met P w K mg base 1 C "ends_text" (spEnds C fun _ r => r.isEmpty) []) : Met P w K mg base 2 C "pass_remark" (spMove C dropRem) [] := by
  refine met0 R.cl me F b sc_Reader_pass_remark (fun vs H Q E h => ?_) (fun cdv A outer s H vs Q E hr h => ?_)
  · obtain ⟨p, l, i, w, rfl, _⟩ := h
    rfl
  obtain ⟨p, l, i, w, rfl, hR, q⟩ := h
  refine ⟨_, pss_one (ps_while PassesOwn.never (PW.pt (pw_and (pt_not (pt_val (pe_mt0 c_ends_text hr (by first | decide | assumption | omega) (pv 0)))) (pw_and1 (pt_cmpR op_ne (pe_ix ix_str (pe_fld (pv 0) rfl) (pe_fld (pv 0) rfl) (fun _ _ => rfl)) pe_str (nomark _)))))
      (pss_one (ps_fldaug (pv 0) pe_int in_add))), ?_⟩
  let W : Nat → L2.St → Hp → Prop := fun m σ H2 => ∃ k : Nat, σ = [some (.ref p)] ∧ But p H H2 ∧ RdAt C H2 p l k w ∧ dropRem (l.drop k) = dropRem (l.drop i) ∧ m = l.length - k
  refine ⟨W, ⟨_, i, rfl, But.refl p H, hR, rfl, rfl⟩, ?_⟩
  rintro m σ H2 ⟨k, rfl, hb, hR2, e, rfl⟩
  obtain ⟨hl, hk, dx, hp⟩ := id hR2
  refine ⟨_, rfl, p, dx, _, rfl, hp, rf_no _ _ _ (by decide +kernel) (by decide +kernel) (by decide +kernel), p, l, k, w, rfl, hR2, _, rfl, ?_⟩
  rcases drop_cases hk with e0 | ⟨hlt, e0⟩
  · refine (?_ : if (!(l.drop k).isEmpty) = true then _ else _)
    rw [e0]
    rw [e0] at e
    refine iteF ?_
    exact q k H2 hb hR2 (by rw [e0, ← e]; rfl)
  · have ne : (!(l.drop k).isEmpty) = true := by rw [e0]; rfl
    refine (?_ : if (!(l.drop k).isEmpty) = true then _ else _)
    rw [ne]
    refine iteT ⟨_, rfl, p, C, dx, _, _, rfl, hp, R.cl, R.nS, rf_src _ _ _, _, rfl, p, C, dx, _, _, rfl, hp, R.cl, R.nA, rf_at _ _ _, _, _, _, rfl, rfl, size_S (by omega), at_S (List.getElem?_eq_getElem hlt), rfl, _, rfl, iteNS lit_nl (fun n10 => ?_) (fun e10 => ?_)⟩
    · have n10' : ¬ l[k] = 10 := fun z => n10 (by rw [z])
      refine ⟨fun σ' H' => ∃ m', m' < l.length - k ∧ W m' σ' H', fun _ _ h => h, ?_⟩
      refine ⟨_, rfl, p, C, dx, _, _, rfl, hp, R.cl, R.nA, rf_at _ _ _, _, _, rfl, rfl, dx, _, hp, (by show 3 < 1000; decide), ?_⟩
      exact ⟨l.length - (k + 1), by omega, k + 1, rfl, but_upd hb, rd_step hl (by omega), by rw [← e, e0, dropRem, if_neg n10'], rfl⟩
    · have e10' : l[k] = 10 := List.head_eq_of_cons_eq e10
      exact q k H2 hb hR2 (by rw [← e, e0, dropRem, if_pos e10'])
theorem okr_read_letters {f : Addr} {fd : FuncData} (R : RdC K mg C) (me : Meth K C "read_letters" f) (F : C8.Fun K "read_letters" "Reader.read_letters" s_Reader_read_letters f fd) (b : Binds K fd ["self"] []) (T : Txt mg) (c_ends_text : Met P w K mg base 1 C "ends_text" (spEnds C fun _ r => r.isEmpty) []) (c_is_letter : Cal P w K mg base 1 "is_letter" spLetter []) : Met P w K mg base 2 C "read_letters" (spLetters C) [] := by
  refine met0 R.cl me F b sc_Reader_read_letters (fun vs H Q E h => ?_) (fun cdv A outer s H vs Q E hr h => ?_)
  · obtain ⟨p, l, i, w, rfl, _⟩ := h
    rfl
  obtain ⟨p, l, i, w, rfl, hR, q⟩ := h
  obtain ⟨hl, hi, dx0, hp0⟩ := id hR
  refine ⟨_, pss_cons (ps_set (i := 1) sc_Reader_read_letters.nd rfl (Or.inl rfl) (pe_fld (pv 0) rfl))
    (pss_cons (ps_while PassesOwn.never (PW.pt (pw_and (pt_not (pt_val (pe_mt0 c_ends_text hr (by first | decide | assumption | omega) (pv 0)))) (pw_and1 (pt_val (pe_c c_is_letter hr (by first | decide | assumption | omega) rfl (pa_cons (pe_ix ix_str (pe_fld (pv 0) rfl) (pe_fld (pv 0) rfl) (fun _ _ => rfl)) pa_nil))))))
      (pss_one (ps_fldaug (pv 0) pe_int in_add)))
    (pss_one (ps_ret (pe_slice sl_str (pe_fld (pv 0) rfl) (po_some (pv 1)) (po_some (pe_fld (pv 0) rfl)))))), ?_⟩
  refine ⟨_, rfl, p, C, dx0, _, _, rfl, hp0, R.cl, R.nA, rf_at _ _ _, ?_⟩
  let W : Nat → L2.St → Hp → Prop := fun m σ H2 => ∃ k : Nat, σ = [some (.ref p), some (.int (i : Int))] ∧ But p H H2 ∧ RdAt C H2 p l k w ∧ i ≤ k ∧ (l.drop i).takeWhile low = (l.drop i).take (k - i) ++ (l.drop k).takeWhile low ∧ (l.drop i).dropWhile low = (l.drop k).dropWhile low ∧ m = l.length - k
  refine ⟨W, ⟨_, i, rfl, But.refl p H, hR, Nat.le_refl _, by simp, rfl, rfl⟩, ?_⟩
  rintro m σ H2 ⟨k, rfl, hb, hR2, hik, et, ed, rfl⟩
  obtain ⟨_, hk, dx, hp⟩ := id hR2
  have fin : (l.drop k).takeWhile low = [] → (l.drop k).dropWhile low = l.drop k → tRet (tSl rSlS (tFld K (tVar 0) "source") (tPart (tVar 1)) (tPart (tFld K (tVar 0) "at"))) { nx := fun _ H' => Q .non H', rt := Q } [some (.ref p), some (.int (i : Int))] H2 := fun h1 h2 => by
    refine ⟨_, rfl, p, C, dx, _, _, rfl, hp, R.cl, R.nS, rf_src _ _ _, _, rfl, _, rfl, _, rfl, p, C, dx, _, _, rfl, hp, R.cl, R.nA, rf_at _ _ _, _, rfl, _, rfl, size_S (by omega), ?_⟩
    rw [slice_nn l i k hi hk]
    have := q k H2 hb hR2 (by rw [ed, h2])
    rw [et, h1, List.append_nil] at this
    exact this
  refine ⟨_, rfl, p, dx, _, rfl, hp, rf_no _ _ _ (by decide +kernel) (by decide +kernel) (by decide +kernel), p, l, k, w, rfl, hR2, _, rfl, ?_⟩
  rcases drop_cases hk with e0 | ⟨hlt, e0⟩
  · refine (?_ : if (!(l.drop k).isEmpty) = true then _ else _)
    have ne : (!(l.drop k).isEmpty) = false := by rw [e0]; rfl
    rw [ne]
    exact iteF (fin (by rw [e0]; rfl) (by rw [e0]; rfl))
  · have ne : (!(l.drop k).isEmpty) = true := by rw [e0]; rfl
    refine (?_ : if (!(l.drop k).isEmpty) = true then _ else _)
    rw [ne]
    refine iteT ⟨_, rfl, p, C, dx, _, _, rfl, hp, R.cl, R.nS, rf_src _ _ _, _, rfl, p, C, dx, _, _, rfl, hp, R.cl, R.nA, rf_at _ _ _, _, _, _, rfl, rfl, size_S (by omega), at_S (List.getElem?_eq_getElem hlt), l[k], rfl, _, rfl, ?_⟩
    cases hw : low l[k] with
    | true =>
      refine iteT ⟨fun σ' H' => ∃ m', m' < l.length - k ∧ W m' σ' H', fun _ _ h => h, ?_⟩
      refine ⟨_, rfl, p, C, dx, _, _, rfl, hp, R.cl, R.nA, rf_at _ _ _, _, _, rfl, rfl, dx, _, hp, (by show 3 < 1000; decide), ?_⟩
      refine ⟨l.length - (k + 1), by omega, k + 1, rfl, but_upd hb, rd_step hl (by omega), by omega, ?_, ?_, rfl⟩
      · rw [et, e0, List.takeWhile_cons, hw]
        have e3 : (l.drop i).take (k + 1 - i) = (l.drop i).take (k - i) ++ [l[k]] := by
          rw [show k + 1 - i = (k - i) + 1 by omega, List.take_add_one]
          rw [List.getElem?_drop, show i + (k - i) = k by omega, List.getElem?_eq_getElem hlt]
          rfl
        rw [e3, List.append_assoc]
        rfl
      · rw [ed, e0, List.dropWhile_cons, hw]
        rfl
    | false =>
      refine iteF (fin ?_ ?_)
      · rw [e0, List.takeWhile_cons, hw]; rfl
      · rw [e0, List.dropWhile_cons, hw]; rfl
end
end My
namespace My
open PySem L2 SX C8
theorem TrAt.inv_n {H : Hp} {v : V} {ts : List Tr} (h : TrAt H v (.n ts)) : ∃ a vs, v = .ref a ∧ H a = some (.tup vs) ∧ TrsAt H vs ts := by
  cases h with
  | n h hl hk => exact ⟨_, _, rfl, h, hl, hk⟩
theorem TrAt.inv_s {H : Hp} {v : V} {w : List Nat} (h : TrAt H v (.s w)) : v = .str (S w) := by
  cases h with
  | s w => rfl
theorem TrAt.two {H : Hp} {v : V} {k : List Nat} {t : Tr} (h : TrAt H v (.n [.s k, t])) : ∃ a y, v = .ref a ∧ H a = some (.tup [.str (S k), y]) ∧ TrAt H y t := by
  obtain ⟨a, vs, rfl, h1, h2, h3⟩ := h.inv_n
  match vs, h2 with
  | [x, y], _ =>
    have e1 := (h3 0 x (.s k) rfl rfl).inv_s
    subst e1
    exact ⟨a, y, rfl, h1, h3 1 y t rfl rfl⟩
theorem TrAt.mk2 {H : Hp} {a : Addr} {k : List Nat} {y : V} {t : Tr} (h : H a = some (.tup [.str (S k), y])) (hy : TrAt H y t) : TrAt H (.ref a) (.n [.s k, t]) := by
  refine .n h rfl fun i u t' hu ht => ?_
  match i, hu, ht with
  | 0, hu, ht => cases hu; cases ht; exact .s k
  | 1, hu, ht => cases hu; cases ht; exact hy
theorem nNT : wName ≠ wText := by decide
theorem nRT : wRun ≠ wText := by decide
theorem merge_nil (p : Tr) : merge [] p = [p] := rfl
theorem merge_tx (rows : List Tr) (u w : List Nat) : merge (rows ++ [tx u]) (tx w) = rows ++ [tx (u ++ w)] := by
  unfold merge
  rw [List.getLast?_concat]
  show (if wText = wText ∧ wText = wText then (rows ++ [tx u]).dropLast ++ [tx (u ++ w)] else _) = _
  rw [if_pos ⟨rfl, rfl⟩, List.dropLast_concat]
theorem merge_no {rows : List Tr} {q p : Tr} (hq : IsPc q) (hp : IsPc p) (h : (∀ w, p ≠ tx w) ∨ ∀ w, q ≠ tx w) : merge (rows ++ [q]) p = rows ++ [q] ++ [p] := by
  unfold merge
  rw [List.getLast?_concat]
  rcases hp with ⟨w, rfl⟩ | ⟨w, rfl⟩ | ⟨cs, rfl⟩
  · rcases hq with ⟨u, rfl⟩ | ⟨u, rfl⟩ | ⟨ds, rfl⟩
    · rcases h with h | h
      · exact absurd rfl (h w)
      · exact absurd rfl (h u)
    · show (if wName = wText ∧ wText = wText then _ else _) = _
      rw [if_neg fun z => nNT z.1]
    · rfl
  · rcases hq with ⟨u, rfl⟩ | ⟨u, rfl⟩ | ⟨ds, rfl⟩
    · show (if wText = wText ∧ wName = wText then _ else _) = _
      rw [if_neg fun z => nNT z.2]
    · show (if wName = wText ∧ wName = wText then _ else _) = _
      rw [if_neg fun z => nNT z.2]
    · rfl
  · rcases hq with ⟨u, rfl⟩ | ⟨u, rfl⟩ | ⟨ds, rfl⟩
    · rfl
    · rfl
    · rfl
/-- a piece with a text of at most so many signs -/
def PcLe (k : Nat) (t : Tr) : Prop := IsPc t ∧ ∀ w, t = tx w → w.length ≤ k
theorem tx_inj {u w : List Nat} (h : tx u = tx w) : u = w := by
  unfold tx at h
  injection h with h
  injection h with _ h
  injection h with h _
  injection h
theorem nm_tx {u w : List Nat} : nm u ≠ tx w := fun h => by
  unfold nm tx at h
  injection h with h
  injection h with h _
  injection h with h
  exact nNT h
theorem rn_tx {cs : List Tr} {w : List Nat} : rn cs ≠ tx w := fun h => by
  unfold rn tx at h
  injection h with h
  injection h with h _
  injection h with h
  exact nRT h
/-- a piece as it stands -/
theorem pc_at {H : Hp} {v : V} {t : Tr} (h : TrAt H v t) (hp : IsPc t) : ∃ a k y, v = .ref a ∧ H a = some (.tup [.str (S k), y]) ∧ ((k = wText ∧ ∃ w, t = tx w ∧ y = .str (S w)) ∨ (k ≠ wText ∧ ∀ w, t ≠ tx w)) := by
  rcases hp with ⟨w, rfl⟩ | ⟨w, rfl⟩ | ⟨cs, rfl⟩
  · obtain ⟨a, y, h1, h2, h3⟩ := TrAt.two h
    exact ⟨a, wText, y, h1, h2, .inl ⟨rfl, w, rfl, h3.inv_s⟩⟩
  · obtain ⟨a, y, h1, h2, h3⟩ := TrAt.two h
    exact ⟨a, wName, y, h1, h2, .inr ⟨nNT, fun _ => nm_tx⟩⟩
  · obtain ⟨a, y, h1, h2, h3⟩ := TrAt.two h
    exact ⟨a, wRun, y, h1, h2, .inr ⟨nRT, fun _ => rn_tx⟩⟩
/-- the same piece told anew -/
theorem pc_new {H : Hp} {v : V} {t : Tr} {a b : Addr} {k : List Nat} {y : V} (h : TrAt H v t) (hv : v = .ref a) (ha : H a = some (.tup [.str (S k), y])) (hp : IsPc t) (hb : H b = some (.tup [.str (S k), y])) : TrAt H (.ref b) t := by
  subst hv
  have key : ∀ {k' : List Nat} {t' : Tr}, TrAt H (.ref a) (.n [.s k', t']) → TrAt H (.ref b) (.n [.s k', t']) := fun {k' t'} h => by
    obtain ⟨a', y', e, h2, h3⟩ := TrAt.two h
    cases e
    rw [ha] at h2
    injection h2 with h2
    injection h2 with h2
    injection h2 with h4 h5
    injection h5 with h5 _
    rw [h4, h5] at hb
    exact TrAt.mk2 hb h3
  rcases hp with ⟨w, rfl⟩ | ⟨w, rfl⟩ | ⟨cs, rfl⟩
  · exact key h
  · exact key h
  · exact key h
def spJoined : Sp := fun vs H Q _ => ∃ (a : Addr) (us : List V) (ps : List Tr), vs = [.ref a] ∧ H a = some (.lst us) ∧ TrsAt H us ps ∧ (∀ t ∈ ps, PcLe 1000 t) ∧ ps.length ≤ 1000 ∧ ∀ (p : Addr) H', Same H H' → TrAt H' (.ref p) (.n (joinP ps)) → Q (.ref p) H'
theorem joinP_snoc (ps : List Tr) (p : Tr) : joinP (ps ++ [p]) = merge (joinP ps) p := by
  unfold joinP
  rw [List.foldl_append]
  rfl
theorem snoc_or_nil {α : Type} (l : List α) : l = [] ∨ ∃ r x, l = r ++ [x] := by
  cases h : l.getLast? with
  | none => exact .inl (List.getLast?_eq_none_iff.mp h)
  | some x =>
    obtain ⟨r, e⟩ := List.getLast?_eq_some_iff.mp h
    exact .inr ⟨r, x, e⟩
theorem name_cases (r : List Nat) : nameOf r = (let br := decide (r.head? = some 123); let q := if br then r.tail else r; if 1 ≤ (q.takeWhile low).length ∧ (q.takeWhile low).length ≤ 8 then (if br then (match q.dropWhile low with | 125 :: r' => some (q.takeWhile low, r') | _ => none) else some (q.takeWhile low, q.dropWhile low)) else none) := by
  cases r with
  | nil => rfl
  | cons c r =>
    by_cases h : c = 123
    · subst h; rfl
    · have hb : decide ((c :: r).head? = some 123) = false := decide_eq_false (fun z => h (Option.some.inj z))
      simp only [hb]
      unfold nameOf
      split
      · rename_i e; cases e; exact absurd rfl h
      · rfl
theorem name_parts (r : List Nat) (br : Bool) (hbr : br = decide (r.take 1 = [123])) (q : List Nat) (hq : q = r.drop (if br then 1 else 0)) :
    (((1 ≤ (q.takeWhile low).length ∧ (q.takeWhile low).length ≤ 8) ∧ (br = true → (q.dropWhile low).take 1 = [125])) → nameOf r = some (q.takeWhile low, (q.dropWhile low).drop (if br then 1 else 0))) ∧
    (¬ ((1 ≤ (q.takeWhile low).length ∧ (q.takeWhile low).length ≤ 8) ∧ (br = true → (q.dropWhile low).take 1 = [125])) → nameOf r = none) := by
  have hb2 : decide (r.head? = some 123) = br := by
    rw [hbr]
    cases r with
    | nil => rfl
    | cons c r =>
      show decide (some c = some 123) = decide ([c] = [123])
      by_cases h : c = 123
      · subst h; rfl
      · rw [decide_eq_false (fun z => h (Option.some.inj z)), decide_eq_false (fun z => h (List.head_eq_of_cons_eq z))]
  rw [name_cases]
  simp only [hb2]
  cases br with
  | false =>
    have hq' : q = r := hq
    subst hq'
    constructor
    · rintro ⟨h, _⟩
      simp only [Bool.false_eq_true, if_false, if_pos h]
      rfl
    · intro h
      have h' : ¬ (1 ≤ (q.takeWhile low).length ∧ (q.takeWhile low).length ≤ 8) := fun z => h ⟨z, fun y => by cases y⟩
      simp only [Bool.false_eq_true, if_false, if_neg h']
  | true =>
    have hq' : q = r.tail := by rw [hq]; exact List.drop_one
    rw [← hq']
    constructor
    · rintro ⟨h, h2⟩
      have h3 := h2 rfl
      simp only [if_true, if_pos h]
      cases hd : q.dropWhile low with
      | nil => rw [hd] at h3; cases h3
      | cons c t =>
        rw [hd] at h3
        have : c = 125 := List.head_eq_of_cons_eq h3
        subst this
        rfl
    · intro h
      simp only [if_true]
      by_cases h1 : 1 ≤ (q.takeWhile low).length ∧ (q.takeWhile low).length ≤ 8
      · rw [if_pos h1]
        cases hd : q.dropWhile low with
        | nil => rfl
        | cons c t =>
          by_cases hc : c = 125
          · subst hc
            exact absurd ⟨h1, fun _ => by rw [hd]; rfl⟩ h
          · split
            · rename_i e; cases e; exact absurd rfl hc
            · rfl
      · rw [if_neg h1]
end My
namespace My
open PySem L2 SX C8
section
variable {P : Program} {w : World} {K : PySem.W.Frag} {mg : Str → Option Value} {base : Heap} {C : Addr}
theorem ok_joined {f : Addr} {fd : FuncData} (F : Def K mg "joined" s_joined f fd) (b : Binds K fd ["pieces"] []) (T : Txt mg) : Cal P w K mg base 1 "joined" spJoined [] := by
  refine cal0 F b .nil sc_joined (fun vs H Q E h => ?_) (fun cdv A outer s H vs Q E hr h => ?_)
  · obtain ⟨a, us, ps, rfl, _⟩ := h
    rfl
  obtain ⟨a, us, ps, rfl, ha, hT, hpc, hlen, q⟩ := h
  refine ⟨_, pss_cons (ps_set (i := 1) sc_joined.nd rfl (Or.inl rfl) (pe_lst pa_nil))
    (pss_cons (ps_for PassesOwn.never rfl (pi_list (pv 0)) (pg_tup rfl (pgs_cons (pg_name (i := 2) sc_joined.nd rfl (Or.inl rfl)) (pgs_cons (pg_name (i := 3) sc_joined.nd rfl (Or.inl rfl)) pgs_nil)))
      (pss_one (ps_if (PW.pt (pw_and (pt_cmpR op_eq (pv 2) pe_str (nomark _)) (pw_and (pt_truth (pv 1) (fun _ => rfl)) (pw_and1 (pt_cmpR op_eq (pe_ix ix_seq (pe_ix ix_list (pv 1) (pe_un un_neg pe_int) (fun _ _ => rfl)) pe_int (fun _ _ => rfl)) pe_str (nomark _))))))
        (pss_one (ps_asg (pe_tup (pa_cons pe_str (pa_cons (pe_op op_add_str (pe_ix ix_seq (pe_ix ix_list (pv 1) (pe_un un_neg pe_int) (fun _ _ => rfl)) pe_int (fun _ _ => rfl)) (pv 3)) pa_nil))) (pg_sub (pv 1) (pe_un un_neg pe_int) set_list)))
        (pss_one (ps_expr (pe_bm PySem.F.plainAttrs_list PySem.F.slot_list_append PySem.F.type_list_append mt_append (pv 1) (pa_cons (pe_tup (pa_cons (pv 2) (pa_cons (pv 3) pa_nil))) pa_nil)))))))
    (pss_one (ps_ret (pe_callTy call_tuple_of (by rfl) T.tuple (by decide +kernel) (pa_cons (pv 1) pa_nil))))), ?_⟩
  refine ⟨(by show 0 ≤ sizeLine; decide), fun r0 hr0 => ?_⟩
  have nar : a ≠ r0 := ne_of_none ha hr0
  have hlu := hT.1
  refine ⟨_, rfl, a, rfl, ⟨us, SqL.of (by rw [upd_ne nar]; exact ha)⟩, for_list (K := K) (a := a) (xs := us) (fun i σ H2 => ∃ x y rv, σ = [some (.ref a), some (.ref r0), x, y] ∧ Same H H2 ∧ H2 r0 = some (.lst rv) ∧ TrsAt H2 rv (joinP (ps.take i)) ∧ (∀ t ∈ joinP (ps.take i), PcLe (1000 * (i + 1)) t) ∧ rv.length ≤ i)
    ⟨none, none, [], rfl, same_new hr0 _, upd_same, TrsAt.nil _, by simp [joinP], Nat.le_refl _⟩ (fun _ _ _ _ ⟨_, _, _, _, h, _⟩ => SqL.of (h _ _ ha)) ?_ ?_⟩
  · rintro i v σ H2 hi ⟨x0, y0, rv, rfl, hs, hd, hR, hB, hl2⟩
    have hi1 : i < ps.length := by have := (List.getElem?_eq_some_iff.mp hi).1; omega
    have hpi : ps[i]? = some ps[i] := List.getElem?_eq_getElem hi1
    have hvp := (hT.2 i v _ hi hpi).mono (Same.tups hs)
    have hpp := hpc _ (List.mem_of_getElem? hpi)
    obtain ⟨pa, k, y, rfl, hpa, hk⟩ := pc_at hvp hpp.1
    have etake : joinP (ps.take (i + 1)) = merge (joinP (ps.take i)) ps[i] := by
      rw [List.take_add_one, hpi]
      exact joinP_snoc _ _
    -- the piece is appended
    have app : merge (joinP (ps.take i)) ps[i] = joinP (ps.take i) ++ [ps[i]] → ∀ H3, Same H2 H3 → ∀ t, H3 t = none → ∃ (x' y' : Option V) (rv' : List V), [some (V.ref a), some (.ref r0), some (.str (S k)), some y] = [some (.ref a), some (.ref r0), x', y'] ∧ Same H (upd (upd H3 t (.tup [.str (S k), y])) r0 (.lst (rv ++ [.ref t]))) ∧ (upd (upd H3 t (.tup [.str (S k), y])) r0 (.lst (rv ++ [.ref t]))) r0 = some (.lst rv') ∧
        TrsAt (upd (upd H3 t (.tup [.str (S k), y])) r0 (.lst (rv ++ [.ref t]))) rv' (joinP (ps.take (i + 1))) ∧ (∀ t ∈ joinP (ps.take (i + 1)), PcLe (1000 * (i + 1 + 1)) t) ∧ rv'.length ≤ i + 1 := fun em H3 s3 t ht => by
      have s4 := s3.trans (same_new ht (HO.tup [.str (S k), y]))
      have u5 : Tups (upd H3 t (.tup [.str (S k), y])) (upd (upd H3 t (.tup [.str (S k), y])) r0 (.lst (rv ++ [.ref t]))) := Tups.upd fun xs e => by rw [s4 _ _ hd] at e; cases e
      refine ⟨_, _, _, rfl, same_mut (hs.trans s4) hr0, upd_same, ?_, ?_, by simp; omega⟩
      · rw [etake, em]
        exact ((hR.mono (Same.tups s4)).mono u5).snoc ((pc_new (hvp.mono (Same.tups s4)) rfl (s4 _ _ hpa) hpp.1 upd_same).mono u5)
      · rw [etake, em]
        intro t' ht'
        rcases List.mem_append.mp ht' with h | h
        · exact ⟨(hB t' h).1, fun w e => Nat.le_trans ((hB t' h).2 w e) (by omega)⟩
        · rw [List.mem_singleton.mp h]
          exact ⟨hpp.1, fun w e => Nat.le_trans (hpp.2 w e) (by omega)⟩
    have small : rv.length < sizeLine := Nat.lt_of_le_of_lt (show _ ≤ 2000 by omega) (by decide)
    refine ⟨pa, _, rfl, SqT.of hpa, rfl, .str (S k), [y], rfl, y, [], rfl, rfl, ?_⟩
    refine ⟨_, rfl, rfl, _, rfl, ite_S lit_text (fun ek => ?_) (fun nk => ?_)⟩
    · subst ek
      obtain ⟨w, ew, rfl⟩ : ∃ w, ps[i] = tx w ∧ y = .str (S w) := by
        rcases hk with ⟨_, w, h1, h2⟩ | ⟨h, _⟩
        · exact ⟨w, h1, h2⟩
        · exact absurd rfl h
      rcases snoc_or_nil rv with rfl | ⟨r, lv, rfl⟩
      · refine ⟨_, rfl, false, .inl ⟨_, SqL.of hd, rfl⟩, ?_⟩
        have e0 : joinP (ps.take i) = [] := List.length_eq_zero_iff.mp hR.1.symm
        refine iteF (iteF ⟨_, rfl, .inl ⟨rfl, _, SqL.of hd⟩, _, rfl, _, rfl, (by show 2 ≤ sizeLine; decide), fun t ht => ?_⟩)
        exact ⟨r0, _, _, rfl, rfl, (by rw [upd_ne (ne_of_none hd ht)]; exact hd), small, app (by rw [e0]; rfl) H2 (Same.refl _) t ht⟩
      · have hne : joinP (ps.take i) ≠ [] := fun z => by rw [z] at hR; have := hR.1; simp at this
        obtain ⟨jr, q0, ej⟩ : ∃ jr q0, joinP (ps.take i) = jr ++ [q0] := by
          rcases snoc_or_nil (joinP (ps.take i)) with h | h
          · exact absurd h hne
          · exact h
        have hlj : r.length = jr.length := by have := hR.1; rw [ej] at this; simp at this; omega
        have hq0 : TrAt H2 lv q0 := hR.2 r.length lv q0 (by simp) (by rw [ej, hlj]; simp)
        have hB0 := hB q0 (by rw [ej]; simp)
        obtain ⟨qa, k0, y0, rfl, hqa, hk0⟩ := pc_at hq0 hB0.1
        have hlast : atI (r ++ [V.ref qa]) (-1) = some (.ref qa) := atI_last _ _
        refine ⟨_, rfl, true, .inl ⟨_, SqL.of hd, by simp⟩, iteT ?_⟩
        refine ⟨_, rfl, _, rfl, _, _, _, _, rfl, rfl, SqL.of hd, hlast, .inr (.inl ⟨_, _, _, _, rfl, rfl, SqT.of hqa, rfl, rfl, _, rfl, ite_S lit_text (fun ek0 => ?_) (fun nk0 => ?_)⟩)⟩
        · subst ek0
          obtain ⟨u, eu, rfl⟩ : ∃ u, q0 = tx u ∧ y0 = .str (S u) := by
            rcases hk0 with ⟨_, u, h1, h2⟩ | ⟨h, _⟩
            · exact ⟨u, h1, h2⟩
            · exact absurd rfl h
          have lu := hB0.2 u eu
          have lw := hpp.2 w ew
          refine ⟨_, rfl, _, rfl, _, _, _, _, rfl, rfl, SqL.of hd, hlast, .inr (.inl ⟨_, _, _, _, rfl, rfl, SqT.of hqa, rfl, _, rfl, _, _, rfl, rfl, ?_, (by show 2 ≤ sizeLine; decide), fun t ht => ?_⟩)⟩
          · rw [S_len, S_len]
            exact Nat.le_trans (show _ ≤ 2000000 by omega) (by decide)
          · rw [S_cat, lit_text]
            have s4 := same_new ht (HO.tup [.str (S wText), .str (S (u ++ w))])
            have hix : ixN (r ++ [V.ref qa]).length (-1) = some r.length := by
              unfold ixN
              rw [if_neg (by decide), if_pos (by simp; omega)]
              congr 1
              simp
              omega
            refine ⟨_, rfl, _, rfl, r0, _, _, r.length, rfl, rfl, s4 _ _ hd, hix, ?_⟩
            have u5 : Tups (upd H2 t (.tup [.str (S wText), .str (S (u ++ w))])) (upd (upd H2 t (.tup [.str (S wText), .str (S (u ++ w))])) r0 (.lst ((r ++ [V.ref qa]).set r.length (.ref t)))) := Tups.upd fun xs e => by rw [s4 _ _ hd] at e; cases e
            have eset : (r ++ [V.ref qa]).set r.length (.ref t) = r ++ [.ref t] := by simp
            have emer : joinP (ps.take (i + 1)) = jr ++ [tx (u ++ w)] := by rw [etake, ej, eu, ew, merge_tx]
            refine ⟨_, _, _, rfl, same_mut (hs.trans s4) hr0, upd_same, ?_, ?_, by simp at hl2 ⊢; omega⟩
            · rw [eset, emer]
              rw [eset] at u5
              have hRr : TrsAt H2 r jr := ⟨hlj, fun j v' t' hv' ht' => hR.2 j v' t' (by rw [List.getElem?_append_left (List.getElem?_eq_some_iff.mp hv').1]; exact hv') (by rw [ej, List.getElem?_append_left (List.getElem?_eq_some_iff.mp ht').1]; exact ht')⟩
              exact ((hRr.mono (Same.tups s4)).mono u5).snoc ((TrAt.mk2 upd_same (.s _)).mono u5)
            · rw [emer]
              intro t' ht'
              rcases List.mem_append.mp ht' with h | h
              · have := hB t' (by rw [ej]; exact List.mem_append_left _ h)
                exact ⟨this.1, fun w e => Nat.le_trans (this.2 w e) (by omega)⟩
              · rw [List.mem_singleton.mp h]
                refine ⟨.inl ⟨_, rfl⟩, fun w' e => ?_⟩
                rw [← tx_inj e, List.length_append]
                omega
        · have nq : ∀ w, q0 ≠ tx w := by
            rcases hk0 with ⟨h, _⟩ | ⟨_, h⟩
            · exact absurd h nk0
            · exact h
          refine ⟨_, rfl, .inl ⟨rfl, _, SqL.of hd⟩, _, rfl, _, rfl, (by show 2 ≤ sizeLine; decide), fun t ht => ?_⟩
          exact ⟨r0, _, _, rfl, rfl, (by rw [upd_ne (ne_of_none hd ht)]; exact hd), small, app (by rw [ej]; exact merge_no hB0.1 hpp.1 (.inr nq)) H2 (Same.refl _) t ht⟩
    · have np : ∀ w, ps[i] ≠ tx w := by
        rcases hk with ⟨h, _⟩ | ⟨_, h⟩
        · exact absurd h nk
        · exact h
      refine iteF ⟨_, rfl, .inl ⟨rfl, _, SqL.of hd⟩, _, rfl, _, rfl, (by show 2 ≤ sizeLine; decide), fun t ht => ?_⟩
      refine ⟨r0, _, _, rfl, rfl, (by rw [upd_ne (ne_of_none hd ht)]; exact hd), small, app ?_ H2 (Same.refl _) t ht⟩
      rcases snoc_or_nil (joinP (ps.take i)) with e0 | ⟨jr, q0, ej⟩
      · rw [e0]; rfl
      · rw [ej]
        exact merge_no (hB q0 (by rw [ej]; simp)).1 hpp.1 (.inl np)
  · rintro σ H2 ⟨x0, y0, rv, rfl, hs, hd, hR, hB, hl2⟩
    refine ⟨_, rfl, r0, _, rfl, .inl ⟨SqL.of hd, fun t ht => ?_⟩⟩
    have et : ps.take us.length = ps := by rw [hlu]; exact List.take_length
    rw [et] at hR
    have s4 := same_new ht (HO.tup rv)
    exact q t _ (hs.trans s4) (TrsAt.tup upd_same (hR.mono (Same.tups s4)))
end
end My
namespace My
open PySem L2 SX C8
/-- how a reading goes on: behind it the Reader stands at j, s signs on at least, or an error of the class at CB tells the place -/
def Goes (C CB : Addr) (s : Nat) (Val : Hp → V → List Tr → Prop) (p : Addr) (l : List Nat) (i w : Nat) (H : Hp) (Q : VK) (E : XK) : Out → Prop
  | .ok ts r => ∀ (v : V) (j : Nat) H', But p H H' → RdAt C H' p l j w → l.drop j = r → i + s ≤ j → Val H' v ts → Q v H'
  | .er k => ∀ (d : Addr) H', But p H H' → H' d = some (.xd [("place", .int ((l.length - k : Nat) : Int))]) → E (.ref CB) (some d) H'
/-- the promise of a method that reads, where 12 - m runs at least are around it -/
def spRd (C CB : Addr) (D : Nat → List Nat → Out → Prop) (s : Nat) (Val : Hp → V → List Tr → Prop) (m : Nat) : Sp := fun vs H Q E => ∃ (p : Addr) (l : List Nat) (i w : Nat) (o : Out), vs = [.ref p] ∧ RdAt C H p l i w ∧ 12 ≤ w + m ∧ D w (l.drop i) o ∧ Goes C CB s Val p l i w H Q E o
def ValS : Hp → V → List Tr → Prop := fun _ v ts => ∃ u, ts = [.s u] ∧ v = .str (S u)
def ValP : Hp → V → List Tr → Prop := fun H v ts => ∃ (a : Addr) (vs : List V), v = .ref a ∧ H a = some (.lst vs) ∧ TrsAt H vs ts ∧ (∀ t ∈ ts, PcLe 1000 t) ∧ ts.length ≤ 1000
def Val1 : Hp → V → List Tr → Prop := fun H v ts => ∃ t, ts = [t] ∧ TrAt H v t
def ValPc : Hp → V → List Tr → Prop := fun H v ts => ∃ t, ts = [t] ∧ TrAt H v t ∧ PcLe 1000 t
def ValT : Hp → V → List Tr → Prop := fun H v ts => TrAt H v (.n ts)
def ValL : Hp → V → List Tr → Prop := fun H v ts => ∃ (a : Addr) (vs : List V), v = .ref a ∧ H a = some (.lst vs) ∧ TrsAt H vs ts
def DTurn : Nat → List Nat → Out → Prop := fun _ r o => (∃ d r', r = 92 :: d :: r' ∧ o = .ok [.s [mean d]] r') ∨ (r = [92] ∧ o = .er 1)
def DName : Nat → List Nat → Out → Prop := fun _ r o => ∃ r1, r = 36 :: r1 ∧ ((∃ n r', nameOf r1 = some (n, r') ∧ o = .ok [.s n] r') ∨ (nameOf r1 = none ∧ o = .er (r1.length + 1)))
def DBrc : Nat → List Nat → Out → Prop := fun _ r o => ∃ r1, r = 123 :: r1 ∧ ((∃ e, pend 0 0 r = some e ∧ o = .ok (if e = 1 then [] else [tx (r1.take (e - 1))]) (r1.drop e)) ∨ (pend 0 0 r = none ∧ o = .er (r1.length + 1)))
theorem er_at {l : List Nat} {i k : Nat} (hi : i ≤ l.length) (h : (l.drop i).length = k) : ((l.length - k : Nat) : Int) = (i : Int) := by
  rw [List.length_drop] at h
  omega
theorem drop_tail {l r : List Nat} {i c : Nat} (h : l.drop i = c :: r) : i < l.length ∧ l.drop (i + 1) = r ∧ l[i]? = some c := by
  have hi : i < l.length := by
    have := congrArg List.length h
    rw [List.length_drop, List.length_cons] at this
    omega
  rw [List.drop_eq_getElem_cons hi] at h
  injection h with h1 h2
  exact ⟨hi, h2, by rw [List.getElem?_eq_getElem hi, h1]⟩
theorem lit_dollar : (Str.ofString "$") = S [36] := by decide +kernel
theorem lit_q : (Str.ofString "\"") = S [34] := by decide +kernel
theorem lit_op : (Str.ofString "[") = S [91] := by decide +kernel
theorem starts3 (l : List Nat) (c i : Nat) : Txt.startswith3 (S l) (S [c]) (i : Int) = decide (l[i]? = some c) := by
  unfold Txt.startswith3
  have e : PySem.fromIndex (S l).length (i : Int) = i := by
    unfold PySem.fromIndex
    rw [if_neg (by omega)]
    omega
  rw [e, Bool.eq_iff_iff, Bool.and_eq_true, decide_eq_true_eq, decide_eq_true_eq]
  exact StrLaws.subAt_one (S l) c i
theorem head_dec (l : List Nat) (c i : Nat) : decide (l[i]? = some c) = match l.drop i with | [] => false | d :: _ => decide (d = c) := by
  by_cases h : i < l.length
  · rw [List.drop_eq_getElem_cons h, List.getElem?_eq_getElem h]
    simp
  · rw [List.drop_eq_nil_of_le (by omega), List.getElem?_eq_none (by omega)]
    simp
section
variable {P : Program} {w : World} {K : PySem.W.Frag} {mg : Str → Option Value} {base : Heap} {C CB : Addr}
theorem rd_put {H : Hp} {p : Addr} {l : List Nat} {i w j : Nat} {dx : Addr} {z : Int} (hl : l.length ≤ 1000) (hj : j ≤ l.length) (hz : z = (j : Int)) : RdAt C (upd H p (.ins C dx (putF "at" (.int z) (rf l i w)))) p l j w :=
  ⟨hl, hj, dx, by rw [upd_same, rf_putat l i w j hz]⟩
theorem told_but {H : Hp} {p : Addr} {H1 : Hp} {l : List Nat} {k i : Nat} {E : XK} (hi : i ≤ l.length) (hk : (l.drop i).length = k) (hb : But p H H1)
    (q : ∀ (d : Addr) H', But p H H' → H' d = some (.xd [("place", .int ((l.length - k : Nat) : Int))]) → E (.ref CB) (some d) H') : ∀ (d : Addr) H', Same H1 H' → H1 d = none → H' d = some (.xd [("place", .int (i : Int))]) → E (.ref CB) (some d) H' := fun d H' s n h =>
  q d H' (hb.trans (Same.but s)) (by rw [er_at hi hk]; exact h)
theorem okr_read_turned {f : Addr} {fd : FuncData} (R : RdC K mg C) (me : Meth K C "read_turned" f) (F : C8.Fun K "read_turned" "Reader.read_turned" s_Reader_read_turned f fd) (b : Binds K fd ["self"] []) (T : Txt mg) (x_BadScript : PlaceC P w K mg base "BadScript" CB) (c_meant : Cal P w K mg base 1 "meant" spMean []) (m : Nat) : MetX P w K mg base 3 C "read_turned" (spRd C CB DTurn 1 ValS m) := by
  refine metX R.cl me F b sc_Reader_read_turned (fun vs H Q E h => ?_) (fun cdv A outer s H vs Q E hr h => ?_)
  · obtain ⟨p, l, i, w, o, rfl, _⟩ := h
    rfl
  obtain ⟨p, l, i, w, o, rfl, hR, hm, hD, q⟩ := h
  obtain ⟨hl, hi, dx, hp⟩ := id hR
  refine ⟨_, pss_cons (ps_set (i := 1) sc_Reader_read_turned.nd rfl (Or.inl rfl) (pe_op op_add (pe_fld (pv 0) rfl) pe_int))
    (pss_cons (ps_if (pt_cmpR op_eq (pv 1) (pe_callB call_len (by rfl) T.len (by decide +kernel) (pa_cons (pe_fld (pv 0) rfl) pa_nil)) (nomark _))
      (pss_one (ps_place rfl x_BadScript hr (by first | decide | assumption | omega) (takes_of rfl rfl rfl rfl) rfl (pe_fld (pv 0) rfl)))
      (pss_nil))
    (pss_cons (ps_fld (pv 0) (pe_op op_add (pv 1) pe_int) rfl)
    (pss_one (ps_ret (pe_c c_meant hr (by first | decide | assumption | omega) rfl (pa_cons (pe_ix ix_str (pe_fld (pv 0) rfl) (pv 1) (fun _ _ => rfl)) pa_nil)))))), ?_⟩
  have hz : (S l).length ≤ sizeLine := size_S (by omega)
  refine ⟨_, rfl, p, C, dx, _, _, rfl, hp, R.cl, R.nA, rf_at _ _ _, _, _, rfl, rfl, ?_⟩
  refine ⟨_, rfl, _, rfl, p, C, dx, _, _, rfl, hp, R.cl, R.nS, rf_src _ _ _, _, _, rfl, ⟨hz, rfl⟩, rfl, _, rfl, iteI (fun e => ?_) (fun ne => ?_)⟩
  · rw [S_len] at e
    rcases hD with ⟨d, r', e1, rfl⟩ | ⟨e1, rfl⟩
    · have := congrArg List.length e1
      rw [List.length_drop] at this
      simp at this
      omega
    · refine ⟨_, rfl, p, C, dx, _, _, rfl, hp, R.cl, R.nA, rf_at _ _ _, ?_⟩
      exact place_ok (told_but hi (by rw [e1]; rfl) (But.refl p H) q)
  · rw [S_len] at ne
    rcases hD with ⟨d, r', e1, rfl⟩ | ⟨e1, rfl⟩
    · obtain ⟨h1, h2, h3⟩ := drop_tail e1
      obtain ⟨h4, h5, h6⟩ := drop_tail h2
      have ei : ((i : Int) + 1) = ((i + 1 : Nat) : Int) := by omega
      refine ⟨_, rfl, _, _, rfl, rfl, _, rfl, p, C, dx, _, rfl, hp, R.cl, R.nA, (by show 3 < 1000; decide), ?_⟩
      have hR2 : RdAt C (upd H p (.ins C dx (putF "at" (.int ((i : Int) + 1 + 1)) (rf l i w)))) p l (i + 1 + 1) w := rd_put hl (by omega) (by omega)
      obtain ⟨_, _, dx2, hp2⟩ := id hR2
      refine ⟨_, rfl, p, C, dx2, _, _, rfl, hp2, R.cl, R.nS, rf_src _ _ _, _, rfl, _, _, _, rfl, rfl, hz, ?_, d, rfl, ?_⟩
      · show atI (S l).cps.toList ((i : Int) + 1) = some d
        rw [ei]
        exact at_S h6
      · exact q _ (i + 1 + 1) _ (but_upd (But.refl p H)) hR2 h5 (by omega) ⟨_, rfl, rfl⟩
    · have := congrArg List.length e1
      rw [List.length_drop] at this
      simp at this
      omega
theorem okr_read_braced {f : Addr} {fd : FuncData} (R : RdC K mg C) (me : Meth K C "read_braced" f) (F : C8.Fun K "read_braced" "Reader.read_braced" s_Reader_read_braced f fd) (b : Binds K fd ["self"] []) (T : Txt mg) (x_BadScript : PlaceC P w K mg base "BadScript" CB) (c_pair_end : Cal P w K mg base 1 "pair_end" spPend []) (m : Nat) : MetX P w K mg base 3 C "read_braced" (spRd C CB DBrc 1 ValP m) := by
  refine metX R.cl me F b sc_Reader_read_braced (fun vs H Q E h => ?_) (fun cdv A outer s H vs Q E hr h => ?_)
  · obtain ⟨p, l, i, w, o, rfl, _⟩ := h
    rfl
  obtain ⟨p, l, i, w, o, rfl, hR, hm, hD, q⟩ := h
  obtain ⟨hl, hi, dx, hp⟩ := id hR
  refine ⟨_, pss_cons (ps_set (i := 1) sc_Reader_read_braced.nd rfl (Or.inl rfl) (pe_fld (pv 0) rfl))
    (pss_cons (ps_set (i := 2) sc_Reader_read_braced.nd rfl (Or.inl rfl) (pe_c c_pair_end hr (by first | decide | assumption | omega) rfl (pa_cons (pe_fld (pv 0) rfl) (pa_cons (pv 1) pa_nil))))
    (pss_cons (ps_if (pt_cmpR op_isN (pv 2) pe_non (nomark _))
      (pss_one (ps_place rfl x_BadScript hr (by first | decide | assumption | omega) (takes_of rfl rfl rfl rfl) rfl (pv 1)))
      (pss_nil))
    (pss_cons (ps_fld (pv 0) (pe_op op_add (pv 2) pe_int) rfl)
    (pss_cons (ps_if (pt_cmpR op_eq (pv 2) (pe_op op_add (pv 1) pe_int) (nomark _))
      (pss_one (ps_ret (pe_lst pa_nil)))
      (pss_nil))
    (pss_one (ps_ret (pe_lst (pa_cons (pe_tup (pa_cons pe_str (pa_cons (pe_slice sl_str (pe_fld (pv 0) rfl) (po_some (pe_op op_add (pv 1) pe_int)) (po_some (pv 2))) pa_nil))) pa_nil)))))))), ?_⟩
  have hz : (S l).length ≤ sizeLine := size_S (by omega)
  refine ⟨_, rfl, p, C, dx, _, _, rfl, hp, R.cl, R.nA, rf_at _ _ _, ?_⟩
  refine ⟨_, rfl, p, C, dx, _, _, rfl, hp, R.cl, R.nS, rf_src _ _ _, _, rfl, l, i, rfl, by omega, hi, ?_⟩
  obtain ⟨r1, e1, ⟨e, he, rfl⟩ | ⟨he, rfl⟩⟩ := hD
  · have hlt := pend_lt _ _ _ _ he
    have he1 : 1 ≤ e := by
      rw [e1] at he
      have := (pend_lt r1 (0 + 1) (0 + 1) e he).1
      omega
    rw [List.length_drop] at hlt
    obtain ⟨h1, h2, h3⟩ := drop_tail e1
    rw [pend_i he]
    refine ⟨_, rfl, rfl, _, rfl, iteF ?_⟩
    refine ⟨_, rfl, _, _, rfl, rfl, _, rfl, p, C, dx, _, rfl, hp, R.cl, R.nA, (by show 3 < 1000; decide), ?_⟩
    have hR2 : RdAt C (upd H p (.ins C dx (putF "at" (.int (((i + e : Nat) : Int) + 1)) (rf l i w)))) p l (i + (e + 1)) w := rd_put hl (by omega) (by omega)
    obtain ⟨_, _, dx2, hp2⟩ := id hR2
    have hdr : l.drop (i + (e + 1)) = r1.drop e := by rw [← h2, List.drop_drop]; congr 1; omega
    refine ⟨_, rfl, _, rfl, _, _, rfl, rfl, rfl, _, rfl, iteI (fun ee => ?_) (fun ne => ?_)⟩
    · have e11 : e = 1 := by omega
      subst e11
      refine ⟨(by show 0 ≤ sizeLine; decide), fun a ha => ?_⟩
      have sa := same_new ha (HO.lst [])
      refine q _ _ _ ((but_upd (But.refl p H)).trans (Same.but sa)) ⟨hl, by omega, dx2, sa _ _ hp2⟩ hdr (by omega) ?_
      rw [if_pos rfl]
      exact ⟨a, [], rfl, upd_same, TrsAt.nil _, by simp, by decide⟩
    · have e11 : e ≠ 1 := by omega
      have ei : ((i : Int) + 1) = ((i + 1 : Nat) : Int) := by omega
      refine ⟨_, rfl, p, C, dx2, _, _, rfl, hp2, R.cl, R.nS, rf_src _ _ _, _, rfl, _, _, rfl, rfl, _, rfl, _, rfl, _, rfl, _, rfl, hz, (by show 2 ≤ sizeLine; decide), fun t ht => ⟨(by show 1 ≤ sizeLine; decide), fun a ha => ?_⟩⟩
      rw [ei, slice_nn l (i + 1) (i + e) (by omega) (by omega), h2, lit_text, show i + e - (i + 1) = e - 1 by omega]
      have st := same_new ht (HO.tup [.str (Str.ofString "text"), .str (cutS (S l) (some ((i : Int) + 1)) (some ((i + e : Nat) : Int)))])
      rw [ei, slice_nn l (i + 1) (i + e) (by omega) (by omega), h2, lit_text, show i + e - (i + 1) = e - 1 by omega] at st
      have sa := same_new (H := upd (upd H p (.ins C dx (putF "at" (.int (((i + e : Nat) : Int) + 1)) (rf l i w)))) t (.tup [.str (S wText), .str (S (r1.take (e - 1)))])) (p := a) (by rw [← ha]; rw [ei, slice_nn l (i + 1) (i + e) (by omega) (by omega), h2, lit_text, show i + e - (i + 1) = e - 1 by omega]) (HO.lst [.ref t])
      refine q _ _ _ ((but_upd (But.refl p H)).trans (Same.but (st.trans sa))) ⟨hl, by omega, dx2, sa _ _ (st _ _ hp2)⟩ hdr (by omega) ?_
      rw [if_neg e11]
      refine ⟨a, [.ref t], rfl, upd_same, (TrsAt.nil _).snoc ((TrAt.mk2 upd_same (.s _)).mono (Same.tups sa)), ?_, (by show 1 ≤ 1000; decide)⟩
      intro t' ht'
      rw [List.mem_singleton.mp ht']
      refine ⟨.inl ⟨_, rfl⟩, fun w' ew => ?_⟩
      rw [← tx_inj ew, List.length_take]
      have := congrArg List.length e1
      rw [List.length_drop, List.length_cons] at this
      omega
  · have hpn : pend 0 i (l.drop i) = none := by
      have := pend_shift (l.drop i) 0 0 i
      rw [Nat.zero_add, he] at this
      exact this
    rw [hpn]
    refine ⟨_, rfl, rfl, _, rfl, iteT ⟨_, rfl, ?_⟩⟩
    exact place_ok (told_but hi (by rw [e1]; rfl) (But.refl p H) q)
theorem nameOf_no {r : List Nat} (h : ∀ q, r ≠ 123 :: q) : nameOf r = if 1 ≤ (r.takeWhile low).length ∧ (r.takeWhile low).length ≤ 8 then some (r.takeWhile low, r.dropWhile low) else none := by
  unfold nameOf
  split
  · rename_i q
    exact absurd rfl (h q)
  · rfl
theorem name_low (r : List Nat) : isName (r.takeWhile low) = (decide (1 ≤ (r.takeWhile low).length) && decide ((r.takeWhile low).length ≤ 8)) := by
  unfold isName
  have : (r.takeWhile low).all low = true := by
    induction r with
    | nil => rfl
    | cons c q ih =>
      rw [List.takeWhile_cons]
      cases hc : low c with
      | true => simp [ih, hc]
      | false => rfl
  rw [this, Bool.and_true]
theorem okr_read_name {f : Addr} {fd : FuncData} (R : RdC K mg C) (me : Meth K C "read_name" f) (F : C8.Fun K "read_name" "Reader.read_name" s_Reader_read_name f fd) (b : Binds K fd ["self"] []) (T : Txt mg) (x_BadScript : PlaceC P w K mg base "BadScript" CB) (c_read_letters : Met P w K mg base 2 C "read_letters" (spLetters C) []) (c_is_name : Cal P w K mg base 2 "is_name" spName []) (m : Nat) : MetX P w K mg base 3 C "read_name" (spRd C CB DName 1 ValS m) := by
  refine metX R.cl me F b sc_Reader_read_name (fun vs H Q E h => ?_) (fun cdv A outer s H vs Q E hr h => ?_)
  · obtain ⟨p, l, i, w, o, rfl, _⟩ := h
    rfl
  obtain ⟨p, l, i, w, o, rfl, hR, hm, hD, q⟩ := h
  obtain ⟨hl, hi, dx, hp⟩ := id hR
  refine ⟨_, pss_cons (ps_set (i := 1) sc_Reader_read_name.nd rfl (Or.inl rfl) (pe_fld (pv 0) rfl))
    (pss_cons (ps_fldaug (pv 0) pe_int in_add)
    (pss_cons (ps_set (i := 2) sc_Reader_read_name.nd rfl (Or.inl rfl) (pe_bm PySem.F.plainAttrs_str PySem.F.slot_str_startswith PySem.F.type_str_startswith mt_startswith3 (pe_fld (pv 0) rfl) (pa_cons pe_str (pa_cons (pe_fld (pv 0) rfl) pa_nil))))
    (pss_cut (ps_if (pt_val (pv 2))
      (pss_one (ps_fldaug (pv 0) pe_int in_add))
      (pss_nil))
    (pss_cons (ps_set (i := 3) sc_Reader_read_name.nd rfl (Or.inl rfl) (pe_mt0 c_read_letters hr (by first | decide | assumption | omega) (pv 0)))
    (pss_cons (ps_if (pt_not (pt_val (pe_c c_is_name hr (by first | decide | assumption | omega) rfl (pa_cons (pv 3) pa_nil))))
      (pss_one (ps_place rfl x_BadScript hr (by first | decide | assumption | omega) (takes_of rfl rfl rfl rfl) rfl (pv 1)))
      (pss_nil))
    (pss_cons (ps_if (pt_val (pv 2))
      (pss_cons (ps_if (pt_not (pt_val (pe_bm PySem.F.plainAttrs_str PySem.F.slot_str_startswith PySem.F.type_str_startswith mt_startswith3 (pe_fld (pv 0) rfl) (pa_cons pe_str (pa_cons (pe_fld (pv 0) rfl) pa_nil)))))
        (pss_one (ps_place rfl x_BadScript hr (by first | decide | assumption | omega) (takes_of rfl rfl rfl rfl) rfl (pv 1)))
        (pss_nil))
      (pss_one (ps_fldaug (pv 0) pe_int in_add)))
      (pss_nil))
    (pss_one (ps_ret (pv 3))))))))), ?_⟩
  have hz : (S l).length ≤ sizeLine := size_S (by omega)
  obtain ⟨r1, e1, hD⟩ := hD
  obtain ⟨h1, h2, h3⟩ := drop_tail e1
  have er : (l.drop i).length = r1.length + 1 := by rw [e1]; rfl
  refine ⟨_, rfl, p, C, dx, _, _, rfl, hp, R.cl, R.nA, rf_at _ _ _, ?_⟩
  refine ⟨_, rfl, p, C, dx, _, _, rfl, hp, R.cl, R.nA, rf_at _ _ _, _, _, rfl, rfl, dx, _, hp, (by show 3 < 1000; decide), ?_⟩
  have hR2 : RdAt C (upd H p (.ins C dx (putF "at" (.int ((i : Int) + 1)) (rf l i w)))) p l (i + 1) w := rd_step hl (by omega)
  obtain ⟨_, _, dx2, hp2⟩ := id hR2
  have bb := but_upd (b := p) (o := HO.ins C dx (putF "at" (.int ((i : Int) + 1)) (rf l i w))) (But.refl p H)
  refine ⟨_, rfl, p, C, dx2, _, _, rfl, hp2, R.cl, R.nS, rf_src _ _ _, rfl, _, rfl, p, C, dx2, _, _, rfl, hp2, R.cl, R.nA, rf_at _ _ _, _, _, _, rfl, rfl, ?_⟩
  rw [lit_ob, starts3]
  -- what is told in the end
  have last : ∀ (j : Nat) H3 (br : Bool), But p H H3 → RdAt C H3 p l j w → i + 1 ≤ j → l.drop j = (if br = true then r1.tail else r1).dropWhile low → (br = true → ∃ q, r1 = 123 :: q) → (br = false → ∀ q, r1 ≠ 123 :: q) →
      tSeq (tIfS (tNot (tB (tCall spName [] C8.E0 (tCons (tVar 3) tNil)))) (fun _ σ H => tMkO CB (spPlace CB) [] (tCons (tVar 1) tNil) σ H fun cls d H' => E cls d H') tNext)
        (tSeq (tIfS (tB (tVar 2)) (tSeq (tIfS (tNot (tB (tBM K "str" (fun x xs H Q => ∃ (a b : Str) (i : Int), x = .str a ∧ xs = [.str b, .int i] ∧ Q (.bl (Txt.startswith3 a b i)) H) (tFld K (tVar 0) "source") (tCons (tC (.str (Str.ofString "}"))) (tCons (tFld K (tVar 0) "at") tNil))))) (fun _ σ H => tMkO CB (spPlace CB) [] (tCons (tVar 1) tNil) σ H fun cls d H' => E cls d H') tNext) (sFldAug K (tVar 0) (tC (.int 1)) rAdd "at")) tNext)
          (tRet (tVar 3))) { nx := fun _ H' => Q .non H', rt := Q } [some (.ref p), some (.int (i : Int)), some (.bl br), some (.str (S ((if br = true then r1.tail else r1).takeWhile low)))] H3 := by
    intro j H3 br b3 R3 hij hdj hb1 hb0
    obtain ⟨_, hj, dx3, hp3⟩ := id R3
    have hlen : ((if br = true then r1.tail else r1).takeWhile low).length ≤ 1000 := by
      have a1 := (List.takeWhile_sublist (l := (if br = true then r1.tail else r1)) low).length_le
      have a2 : (if br = true then r1.tail else r1).length ≤ r1.length := by cases br <;> simp
      have a3 := congrArg List.length h2
      rw [List.length_drop] at a3
      omega
    refine ⟨_, rfl, _, rfl, hlen, fun H4 s4 => ⟨_, rfl, ?_⟩⟩
    have b4 := b3.trans (Same.but s4)
    have hp4 := s4 _ _ hp3
    have R4 : RdAt C H4 p l j w := ⟨hl, hj, dx3, hp4⟩
    rw [name_low]
    by_cases hn : 1 ≤ ((if br = true then r1.tail else r1).takeWhile low).length ∧ ((if br = true then r1.tail else r1).takeWhile low).length ≤ 8
    · have hn' : (decide (1 ≤ ((if br = true then r1.tail else r1).takeWhile low).length) && decide (((if br = true then r1.tail else r1).takeWhile low).length ≤ 8)) = true := by
        rw [decide_eq_true hn.1, decide_eq_true hn.2]; rfl
      rw [hn']
      refine iteF ⟨_, rfl, br, rfl, ?_⟩
      cases br with
      | true =>
        obtain ⟨r, rfl⟩ := hb1 rfl
        have hno : nameOf (123 :: r) = (match r.dropWhile low with | 125 :: r' => some (r.takeWhile low, r') | _ => none) := by
          show (if _ then _ else _) = _
          rw [if_pos (show 1 ≤ (r.takeWhile low).length ∧ (r.takeWhile low).length ≤ 8 from hn)] <;> rfl
        have hdj' : l.drop j = r.dropWhile low := hdj
        refine iteT ⟨_, rfl, p, C, dx3, _, _, rfl, hp4, R.cl, R.nS, rf_src _ _ _, rfl, _, rfl, p, C, dx3, _, _, rfl, hp4, R.cl, R.nA, rf_at _ _ _, _, _, _, rfl, rfl, _, rfl, ?_⟩
        rw [lit_cb, starts3, head_dec, hdj']
        cases hd : r.dropWhile low with
        | nil =>
          rw [hd] at hno
          refine iteT ⟨_, rfl, ?_⟩
          rcases hD with ⟨n, r', e, rfl⟩ | ⟨e, rfl⟩
          · rw [hno] at e; cases e
          · exact place_ok (told_but hi er b4 q)
        | cons c t =>
          by_cases hc : c = 125
          · subst hc
            rw [hd] at hno
            refine iteF ⟨_, rfl, p, C, dx3, _, _, rfl, hp4, R.cl, R.nA, rf_at _ _ _, _, _, rfl, rfl, dx3, _, hp4, (by show 3 < 1000; decide), ?_⟩
            rw [hd] at hdj'
            obtain ⟨g1, g2, g3⟩ := drop_tail hdj'
            refine ⟨_, rfl, ?_⟩
            rcases hD with ⟨n, r', e, rfl⟩ | ⟨e, rfl⟩
            · rw [hno] at e
              cases e
              exact q _ (j + 1) _ (but_upd b4) (rd_step hl (by omega)) g2 (by omega) ⟨_, rfl, rfl⟩
            · rw [hno] at e; cases e
          · have hno' : nameOf (123 :: r) = none := by
              rw [hno, hd]
              split
              · rename_i h; cases h; exact absurd rfl hc
              · rfl
            have hf : decide (c = 125) = false := decide_eq_false hc
            refine (?_ : if (!decide (c = 125)) = true then _ else _)
            rw [hf]
            refine iteT ⟨_, rfl, ?_⟩
            rcases hD with ⟨n, r', e, rfl⟩ | ⟨e, rfl⟩
            · rw [hno'] at e; cases e
            · exact place_ok (told_but hi er b4 q)
      | false =>
        refine iteF ⟨_, rfl, ?_⟩
        have hno := nameOf_no (hb0 rfl)
        rw [if_pos (show 1 ≤ (r1.takeWhile low).length ∧ (r1.takeWhile low).length ≤ 8 from hn)] at hno
        rcases hD with ⟨n, r', e, rfl⟩ | ⟨e, rfl⟩
        · rw [hno] at e
          cases e
          exact q _ j _ b4 R4 hdj (by omega) ⟨_, rfl, rfl⟩
        · rw [hno] at e; cases e
    · have hn' : (decide (1 ≤ ((if br = true then r1.tail else r1).takeWhile low).length) && decide (((if br = true then r1.tail else r1).takeWhile low).length ≤ 8)) = false := by
        cases z : (decide (1 ≤ ((if br = true then r1.tail else r1).takeWhile low).length) && decide (((if br = true then r1.tail else r1).takeWhile low).length ≤ 8)) with
        | false => rfl
        | true =>
          rw [Bool.and_eq_true, decide_eq_true_eq, decide_eq_true_eq] at z
          exact absurd z hn
      rw [hn']
      refine iteT ⟨_, rfl, ?_⟩
      have hno : nameOf r1 = none := by
        cases br with
        | true =>
          obtain ⟨r, rfl⟩ := hb1 rfl
          show (if _ then _ else _) = _
          rw [if_neg (show ¬ (1 ≤ (r.takeWhile low).length ∧ (r.takeWhile low).length ≤ 8) from hn)]
        | false =>
          rw [nameOf_no (hb0 rfl), if_neg (show ¬ (1 ≤ (r1.takeWhile low).length ∧ (r1.takeWhile low).length ≤ 8) from hn)]
      rcases hD with ⟨n, r', e, rfl⟩ | ⟨e, rfl⟩
      · rw [hno] at e; cases e
      · exact place_ok (told_but hi er b4 q)
  rw [head_dec, h2]
  refine ⟨fun σ H2 => ∃ (j : Nat) (br : Bool), σ = [some (.ref p), some (.int (i : Int)), some (.bl br), none] ∧ But p H H2 ∧ RdAt C H2 p l j w ∧ i + 1 ≤ j ∧ l.drop j = (if br = true then r1.tail else r1) ∧ (br = true → ∃ q, r1 = 123 :: q) ∧ (br = false → ∀ q, r1 ≠ 123 :: q), ?_, ?_⟩
  · cases hr1 : r1 with
    | nil =>
      refine ⟨_, rfl, false, rfl, iteF ⟨i + 1, false, rfl, bb, hR2, Nat.le_refl _, ?_, fun z => (by cases z), fun _ q z => (by cases z)⟩⟩
      rw [h2, hr1]; rfl
    | cons c t =>
      rw [hr1] at h2
      by_cases hc : c = 123
      · subst hc
        obtain ⟨g1, g2, g3⟩ := drop_tail h2
        refine ⟨_, rfl, true, rfl, iteT ⟨_, rfl, p, C, dx2, _, _, rfl, hp2, R.cl, R.nA, rf_at _ _ _, _, _, rfl, rfl, dx2, _, hp2, (by show 3 < 1000; decide), ?_⟩⟩
        exact ⟨i + 1 + 1, true, rfl, but_upd bb, rd_step hl (by omega), by omega, g2, fun _ => ⟨t, rfl⟩, fun z => (by cases z)⟩
      · have hf : decide (c = 123) = false := decide_eq_false hc
        refine ⟨_, rfl, decide (c = 123), rfl, ?_⟩
        rw [hf]
        refine iteF ⟨i + 1, false, by show [some (V.ref p), some (.int (i : Int)), some (.bl (decide (c = 123))), none] = _; rw [hf], bb, hR2, Nat.le_refl _, by rw [h2]; rfl, fun z => (by cases z), fun _ q z => ?_⟩
        injection z with z _
        exact hc z
  · rintro σ H2 ⟨j, br, rfl, b2, R2, hij, hdj, hb1, hb0⟩
    obtain ⟨_, hj, dx3, hp3⟩ := id R2
    refine ⟨_, rfl, p, dx3, _, rfl, hp3, rf_no _ _ _ (by decide +kernel) (by decide +kernel) (by decide +kernel), p, l, j, w, rfl, R2, fun j2 H3 b3 R3 hj2 => ?_⟩
    rw [hdj] at hj2 ⊢
    have hij2 : i + 1 ≤ j2 := by
      have a1 := congrArg List.length hj2
      have a2 : ((if br = true then r1.tail else r1).dropWhile low).length ≤ (if br = true then r1.tail else r1).length := (List.dropWhile_sublist low).length_le
      have a3 := congrArg List.length hdj
      have a4 := R3.2.1
      rw [List.length_drop] at a1 a3
      omega
    exact last j2 H3 br (b2.trans b3) R3 hij2 hj2 hb1 hb0
end
end My
namespace My
open PySem L2 SX C8
def Out.app (acc : List Tr) : Out → Out
  | .ok ts r => .ok (acc ++ ts) r
  | .er k => .er k
theorem Out.app_cons (acc : List Tr) (t : Tr) (o : Out) : (o.cons t).app acc = o.app (acc ++ [t]) := by
  cases o with
  | ok ts r => show Out.ok (acc ++ t :: ts) r = .ok (acc ++ [t] ++ ts) r; simp
  | er k => rfl
theorem Out.app_nil (o : Out) : o.app [] = o := by cases o <;> rfl
def DRun : Nat → List Nat → Out → Prop := fun w r o => ∃ r1, r = 91 :: r1 ∧ ((w < 12 ∧ ∃ cs r2, DScr (w + 1) r1 (.ok cs (93 :: r2)) ∧ o = .ok cs r2) ∨ (w < 12 ∧ ∃ cs, DScr (w + 1) r1 (.ok cs []) ∧ o = .er (r1.length + 1)) ∨ (w < 12 ∧ ∃ k, DScr (w + 1) r1 (.er k) ∧ o = .er k) ∨ (w = 12 ∧ o = .er (r1.length + 1)))
def DQuoH : Nat → List Nat → Out → Prop := fun w r o => ∃ r1, r = 34 :: r1 ∧ DQuo w (r1.length + 1) r1 o
def DBarH : Nat → List Nat → Out → Prop := fun w r o => bW w r = false ∧ DBar w r o
def DWrdH : Nat → List Nat → Out → Prop := fun w r o => bW w r = false ∧ DWrd w r o
def spScr (C CB : Addr) : Nat → Sp
  | 0 => fun _ _ _ _ => False
  | m + 1 => spRd C CB DScr 0 ValL m
theorem lit_text0 : V.str (Str.ofString "text") = .str (S wText) := by rw [lit_text]
section
variable {P : Program} {w : World} {K : PySem.W.Frag} {mg : Str → Option Value} {base : Heap} {C CB : Addr}
theorem rd_same {H H' : Hp} {p : Addr} {l : List Nat} {i w : Nat} (h : RdAt C H p l i w) (s : Same H H') : RdAt C H' p l i w := by
  obtain ⟨hl, hi, dx, hp⟩ := h
  exact ⟨hl, hi, dx, s _ _ hp⟩
theorem rd_upd {H : Hp} {p a : Addr} {o : HO} {l : List Nat} {i w : Nat} (h : RdAt C H p l i w) (n : p ≠ a) : RdAt C (upd H a o) p l i w := by
  obtain ⟨hl, hi, dx, hp⟩ := h
  exact ⟨hl, hi, dx, by rw [upd_ne n]; exact hp⟩
theorem okr_read_run {f : Addr} {fd : FuncData} (R : RdC K mg C) (me : Meth K C "read_run" f) (F : C8.Fun K "read_run" "Reader.read_run" s_Reader_read_run f fd) (b : Binds K fd ["self"] []) (T : Txt mg) (x_BadScript : PlaceC P w K mg base "BadScript" CB) (c_ends_text : Met P w K mg base 1 C "ends_text" (spEnds C fun _ r => r.isEmpty) []) {n : Nat} (c_read_script : MetX P w K mg base (4 + 6 * n) C "read_script" (spScr C CB n)) : MetX P w K mg base (5 + 6 * n) C "read_run" (spRd C CB DRun 1 ValT n) := by
  rw [show 5 + 6 * n = (4 + 6 * n) + 1 by omega]
  refine metX R.cl me F b sc_Reader_read_run (fun vs H Q E h => ?_) (fun cdv A outer s H vs Q E hr h => ?_)
  · obtain ⟨p, l, i, w, o, rfl, _⟩ := h
    rfl
  obtain ⟨p, l, i, w, o, rfl, hR, hm, hD, q⟩ := h
  obtain ⟨hl, hi, dx, hp⟩ := id hR
  refine ⟨_, pss_cons (ps_set (i := 1) sc_Reader_read_run.nd rfl (Or.inl rfl) (pe_fld (pv 0) rfl))
    (pss_cons (ps_if (pt_cmpR op_eq (pe_fld (pv 0) rfl) (pe_gc rfl T.g_MOST_RUNS) (nomark _))
      (pss_one (ps_place rfl x_BadScript hr (by first | decide | assumption | omega) (takes_of rfl rfl rfl rfl) rfl (pv 1)))
      (pss_nil))
    (pss_cons (ps_fldaug (pv 0) pe_int in_add)
    (pss_cons (ps_fldaug (pv 0) pe_int in_add)
    (pss_cons (ps_set (i := 2) sc_Reader_read_run.nd rfl (Or.inl rfl) (pe_mx0 (E := E) c_read_script hr (by first | decide | assumption | omega) (passes_call (takes_of rfl rfl rfl rfl) (fun _ _ _ _ h => h)) (pv 0)))
    (pss_cons (ps_if (pt_val (pe_mt0 c_ends_text hr (by first | decide | assumption | omega) (pv 0)))
      (pss_one (ps_place rfl x_BadScript hr (by first | decide | assumption | omega) (takes_of rfl rfl rfl rfl) rfl (pv 1)))
      (pss_nil))
    (pss_cons (ps_fldaug (pv 0) pe_int in_add)
    (pss_cons (ps_fldaug (pv 0) pe_int in_sub)
    (pss_one (ps_ret (pe_callTy call_tuple_of (by rfl) T.tuple (by decide +kernel) (pa_cons (pv 2) pa_nil))))))))))), ?_⟩
  obtain ⟨r1, e1, hD⟩ := hD
  obtain ⟨h1, h2, h3⟩ := drop_tail e1
  have er : (l.drop i).length = r1.length + 1 := by rw [e1]; rfl
  refine ⟨_, rfl, p, C, dx, _, _, rfl, hp, R.cl, R.nA, rf_at _ _ _, ?_⟩
  refine ⟨_, rfl, p, C, dx, _, _, rfl, hp, R.cl, R.nW, rf_wi _ _ _, rfl, _, rfl, iteI (fun e12 => ?_) (fun ne => ?_)⟩
  · have e12' : w = 12 := by omega
    refine ⟨_, rfl, ?_⟩
    rcases hD with ⟨z, _⟩ | ⟨z, _⟩ | ⟨z, _⟩ | ⟨_, rfl⟩
    · omega
    · omega
    · omega
    · exact place_ok (told_but hi er (But.refl p H) q)
  · have ne' : w ≠ 12 := by omega
    have hw : w < 12 := by
      rcases hD with ⟨z, _⟩ | ⟨z, _⟩ | ⟨z, _⟩ | ⟨z, _⟩
      · exact z
      · exact z
      · exact z
      · exact absurd z ne'
    obtain ⟨m, rfl⟩ : ∃ m, n = m + 1 := ⟨n - 1, by omega⟩
    refine ⟨_, rfl, p, C, dx, _, _, rfl, hp, R.cl, R.nA, rf_at _ _ _, _, _, rfl, rfl, dx, _, hp, (by show 3 < 1000; decide), ?_⟩
    rw [rf_putat l i w (i + 1) (show ((i : Int) + 1) = ((i + 1 : Nat) : Int) by omega)]
    refine ⟨_, rfl, p, C, dx, _, _, rfl, upd_same, R.cl, R.nW, rf_wi _ _ _, _, _, rfl, rfl, dx, _, upd_same, (by show 3 < 1000; decide), ?_⟩
    rw [rf_putwi l (i + 1) w (w + 1) (show ((w : Int) + 1) = ((w + 1 : Nat) : Int) by omega)]
    have b2 : But p H (upd (upd H p (.ins C dx (rf l (i + 1) w))) p (.ins C dx (rf l (i + 1) (w + 1)))) := but_upd (but_upd (But.refl p H))
    have R2 : RdAt C (upd (upd H p (.ins C dx (rf l (i + 1) w))) p (.ins C dx (rf l (i + 1) (w + 1)))) p l (i + 1) (w + 1) := ⟨hl, by omega, dx, upd_same⟩
    generalize upd (upd H p (.ins C dx (rf l (i + 1) w))) p (.ins C dx (rf l (i + 1) (w + 1))) = H2 at b2 R2 ⊢
    obtain ⟨_, _, dx2, hp2⟩ := id R2
    -- the script read, then the closing
    obtain ⟨o', d, hok, her⟩ : ∃ o', DScr (w + 1) r1 o' ∧ (∀ cs r, o' = .ok cs r → (r = [] ∧ o = .er (r1.length + 1)) ∨ ∃ r2, r = 93 :: r2 ∧ o = .ok cs r2) ∧ ∀ k, o' = .er k → o = .er k := by
      rcases hD with ⟨_, cs, r2, d, rfl⟩ | ⟨_, cs, d, rfl⟩ | ⟨_, k, d, rfl⟩ | ⟨z, _⟩
      · exact ⟨_, d, fun cs' r e => (by cases e; exact .inr ⟨r2, rfl, rfl⟩), fun k e => (by cases e)⟩
      · exact ⟨_, d, fun cs' r e => (by cases e; exact .inl ⟨rfl, rfl⟩), fun k e => (by cases e)⟩
      · exact ⟨_, d, fun cs' r e => (by cases e), fun k e => (by cases e; rfl)⟩
      · exact absurd z ne'
    refine ⟨_, rfl, p, dx2, _, rfl, hp2, rf_no _ _ _ (by decide +kernel) (by decide +kernel) (by decide +kernel), p, l, i + 1, w + 1, o', rfl, R2, by omega, by rw [h2]; exact d, ?_⟩
    cases o' with
    | er k =>
      have e := her k rfl
      subst e
      exact fun d' H' b' h' => q d' H' (b2.trans b') h'
    | ok cs r =>
      rintro v j H3 b3 R3 hj hij ⟨a, us, rfl, ha, hT⟩
      obtain ⟨_, hj3, dx3, hp3⟩ := id R3
      refine ⟨_, rfl, p, dx3, _, rfl, hp3, rf_no _ _ _ (by decide +kernel) (by decide +kernel) (by decide +kernel), p, l, j, w + 1, rfl, R3, _, rfl, ?_⟩
      rw [hj]
      rcases hok cs r rfl with ⟨rfl, rfl⟩ | ⟨r2, rfl, rfl⟩
      · refine iteT ⟨_, rfl, ?_⟩
        exact place_ok (told_but hi er (b2.trans b3) q)
      · obtain ⟨g1, g2, g3⟩ := drop_tail hj
        refine iteF ⟨_, rfl, p, C, dx3, _, _, rfl, hp3, R.cl, R.nA, rf_at _ _ _, _, _, rfl, rfl, dx3, _, hp3, (by show 3 < 1000; decide), ?_⟩
        rw [rf_putat l j (w + 1) (j + 1) (show ((j : Int) + 1) = ((j + 1 : Nat) : Int) by omega)]
        refine ⟨_, rfl, p, C, dx3, _, _, rfl, upd_same, R.cl, R.nW, rf_wi _ _ _, _, _, rfl, rfl, dx3, _, upd_same, (by show 3 < 1000; decide), ?_⟩
        rw [rf_putwi l (j + 1) (w + 1) w (show (((w + 1 : Nat) : Int) - 1) = ((w : Nat) : Int) by omega)]
        have nap : a ≠ p := ne_of ha hp3 (by intro z; cases z)
        refine ⟨_, rfl, a, us, rfl, .inl ⟨SqL.of (by rw [upd_ne nap, upd_ne nap]; exact ha), fun t ht => ?_⟩⟩
        have st := same_new ht (HO.tup us)
        have bb : But p H (upd (upd H3 p (.ins C dx3 (rf l (j + 1) (w + 1)))) p (.ins C dx3 (rf l (j + 1) w))) := but_upd (but_upd (b2.trans b3))
        have tt : Tups H3 (upd (upd H3 p (.ins C dx3 (rf l (j + 1) (w + 1)))) p (.ins C dx3 (rf l (j + 1) w))) := (Tups.upd R3.notup).trans (Tups.upd fun xs e => by rw [upd_same] at e; cases e)
        exact q (.ref t) (j + 1) _ (bb.trans (Same.but st)) ⟨hl, by omega, dx3, st _ _ upd_same⟩ g2 (by omega) (TrsAt.tup upd_same ((hT.mono tt).mono (Same.tups st)))
theorem okr_read_piece {f : Addr} {fd : FuncData} (R : RdC K mg C) (me : Meth K C "read_piece" f) (F : C8.Fun K "read_piece" "Reader.read_piece" s_Reader_read_piece f fd) (b : Binds K fd ["self"] []) (T : Txt mg) {n : Nat} (c_read_turned : MetX P w K mg base 3 C "read_turned" (spRd C CB DTurn 1 ValS n)) (c_read_name : MetX P w K mg base 3 C "read_name" (spRd C CB DName 1 ValS n)) (c_read_run : MetX P w K mg base (5 + 6 * n) C "read_run" (spRd C CB DRun 1 ValT n)) : MetX P w K mg base (6 + 6 * n) C "read_piece" (spRd C CB DPc 1 ValPc n) := by
  rw [show 6 + 6 * n = (5 + 6 * n) + 1 by omega]
  refine metX R.cl me F b sc_Reader_read_piece (fun vs H Q E h => ?_) (fun cdv A outer s H vs Q E hr h => ?_)
  · obtain ⟨p, l, i, w, o, rfl, _⟩ := h
    rfl
  obtain ⟨p, l, i, w, o, rfl, hR, hm, hD, q⟩ := h
  obtain ⟨hl, hi, dx, hp⟩ := id hR
  refine ⟨_, pss_cons (ps_set (i := 1) sc_Reader_read_piece.nd rfl (Or.inl rfl) (pe_ix ix_str (pe_fld (pv 0) rfl) (pe_fld (pv 0) rfl) (fun _ _ => rfl)))
    (pss_cons (ps_if (pt_cmpR op_eq (pv 1) (pe_gc rfl T.g_TURN) (nomark _))
      (pss_one (ps_ret (pe_tup (pa_cons pe_str (pa_cons (pe_mx0 (E := E) c_read_turned hr (by first | decide | assumption | omega) (passes_call (takes_of rfl rfl rfl rfl) (fun _ _ _ _ h => h)) (pv 0)) pa_nil)))))
      (pss_nil))
    (pss_cons (ps_if (pt_cmpR op_eq (pv 1) pe_str (nomark _))
      (pss_one (ps_ret (pe_tup (pa_cons pe_str (pa_cons (pe_mx0 (E := E) c_read_name hr (by first | decide | assumption | omega) (passes_call (takes_of rfl rfl rfl rfl) (fun _ _ _ _ h => h)) (pv 0)) pa_nil)))))
      (pss_nil))
    (pss_cons (ps_if (pt_cmpR op_eq (pv 1) pe_str (nomark _))
      (pss_one (ps_ret (pe_tup (pa_cons pe_str (pa_cons (pe_mx0 (E := E) c_read_run hr (by first | decide | assumption | omega) (passes_call (takes_of rfl rfl rfl rfl) (fun _ _ _ _ h => h)) (pv 0)) pa_nil)))))
      (pss_nil))
    (pss_cons (ps_fldaug (pv 0) pe_int in_add)
    (pss_one (ps_ret (pe_tup (pa_cons pe_str (pa_cons (pv 1) pa_nil))))))))), ?_⟩
  have hz : (S l).length ≤ sizeLine := size_S (by omega)
  obtain ⟨c, r, e1⟩ : ∃ c r, l.drop i = c :: r := by
    generalize l.drop i = L at hD
    cases hD <;> exact ⟨_, _, rfl⟩
  obtain ⟨h1, h2, h3⟩ := drop_tail e1
  rw [e1] at hD
  have lk : ∀ {m : Str}, ¬ m = "source" → ¬ m = "at" → ¬ m = "within" → (rf l i w).lookup m = none := fun a b c => rf_no _ _ _ a b c
  refine ⟨_, rfl, p, C, dx, _, _, rfl, hp, R.cl, R.nS, rf_src _ _ _, _, rfl, p, C, dx, _, _, rfl, hp, R.cl, R.nA, rf_at _ _ _, _, _, _, rfl, rfl, hz, at_S h3, ?_⟩
  -- a tuple of a kind and of what is told
  have mk : ∀ (k : List Nat) (v : V) (t : Tr) (j : Nat) (r' : List Nat) H', TrAt H' v t → PcLe 1000 (.n [.s k, t]) → But p H H' → RdAt C H' p l j w → l.drop j = r' → i + 1 ≤ j → o = .ok [.n [.s k, t]] r' → ∀ u, H' u = none → Q (.ref u) (upd H' u (.tup [.str (S k), v])) := fun k v t j r' H' hv hp' b' R' hj hij eo u hu => by
    subst eo
    have su := same_new hu (HO.tup [.str (S k), v])
    exact q (.ref u) j _ (b'.trans (Same.but su)) (rd_same R' su) hj hij ⟨_, rfl, TrAt.mk2 upd_same (hv.mono (Same.tups su)), hp'⟩
  refine ⟨_, rfl, rfl, _, rfl, ite_S lit_bs (fun e92 => ?_) (fun n92 => ?_)⟩
  · have e92' : c = 92 := List.head_eq_of_cons_eq e92
    subst e92'
    refine ⟨_, rfl, p, dx, _, rfl, hp, lk (by decide +kernel) (by decide +kernel) (by decide +kernel), p, l, i, w, ?_⟩
    cases hD with
    | @turn _ d r' =>
      refine ⟨.ok [.s [mean d]] r', rfl, hR, hm, .inl ⟨d, r', e1, rfl⟩, fun v j H' b' R' hj hij ⟨u, eu, ev⟩ => ?_⟩
      cases eu
      subst ev
      rw [lit_text]
      exact ⟨(by show 2 ≤ sizeLine; decide), mk wText _ _ j _ H' (.s _) ⟨.inl ⟨_, rfl⟩, fun w' e => by rw [← tx_inj e]; show 1 ≤ 1000; decide⟩ b' R' hj hij rfl⟩
    | turnE => exact ⟨.er 1, rfl, hR, hm, .inr ⟨e1, rfl⟩, fun d H' b' h' => q d H' b' h'⟩
    | sign g1 g2 g3 => exact absurd rfl g1
  · have n92' : c ≠ 92 := fun z => n92 (by rw [z])
    refine ⟨_, rfl, rfl, _, rfl, ite_S lit_dollar (fun e36 => ?_) (fun n36 => ?_)⟩
    · have e36' : c = 36 := List.head_eq_of_cons_eq e36
      subst e36'
      refine ⟨_, rfl, p, dx, _, rfl, hp, lk (by decide +kernel) (by decide +kernel) (by decide +kernel), p, l, i, w, ?_⟩
      cases hD with
      | @name _ _ nn r' h =>
        refine ⟨.ok [.s nn] r', rfl, hR, hm, ⟨r, e1, .inl ⟨nn, r', h, rfl⟩⟩, fun v j H' b' R' hj hij ⟨u, eu, ev⟩ => ?_⟩
        cases eu
        subst ev
        rw [lit_name]
        exact ⟨(by show 2 ≤ sizeLine; decide), mk wName _ _ j _ H' (.s _) ⟨.inr (.inl ⟨_, rfl⟩), fun w' e => absurd e nm_tx⟩ b' R' hj hij rfl⟩
      | nameE h => exact ⟨_, rfl, hR, hm, ⟨r, e1, .inr ⟨h, rfl⟩⟩, fun d H' b' h' => q d H' b' h'⟩
      | sign g1 g2 g3 => exact absurd rfl g2
    · have n36' : c ≠ 36 := fun z => n36 (by rw [z])
      refine ⟨_, rfl, rfl, _, rfl, ite_S lit_op (fun e91 => ?_) (fun n91 => ?_)⟩
      · have e91' : c = 91 := List.head_eq_of_cons_eq e91
        subst e91'
        refine ⟨_, rfl, p, dx, _, rfl, hp, lk (by decide +kernel) (by decide +kernel) (by decide +kernel), p, l, i, w, ?_⟩
        cases hD with
        | @run _ _ r' cs hw d =>
          refine ⟨.ok cs r', rfl, hR, hm, ⟨r, e1, .inl ⟨hw, cs, r', d, rfl⟩⟩, fun v j H' b' R' hj hij hv => ?_⟩
          rw [lit_run]
          exact ⟨(by show 2 ≤ sizeLine; decide), mk wRun v (.n cs) j _ H' hv ⟨.inr (.inr ⟨_, rfl⟩), fun w' e => absurd e rn_tx⟩ b' R' hj hij rfl⟩
        | runB hw d => exact ⟨_, rfl, hR, hm, ⟨r, e1, .inr (.inl ⟨hw, _, d, rfl⟩)⟩, fun d H' b' h' => q d H' b' h'⟩
        | runE hw d => exact ⟨_, rfl, hR, hm, ⟨r, e1, .inr (.inr (.inl ⟨hw, _, d, rfl⟩))⟩, fun d H' b' h' => q d H' b' h'⟩
        | runM hw => exact ⟨_, rfl, hR, hm, ⟨r, e1, .inr (.inr (.inr ⟨hw, rfl⟩))⟩, fun d H' b' h' => q d H' b' h'⟩
        | sign g1 g2 g3 => exact absurd rfl g3
      · have n91' : c ≠ 91 := fun z => n91 (by rw [z])
        refine ⟨_, rfl, p, C, dx, _, _, rfl, hp, R.cl, R.nA, rf_at _ _ _, _, _, rfl, rfl, dx, _, hp, (by show 3 < 1000; decide), ?_⟩
        have R2 : RdAt C (upd H p (.ins C dx (putF "at" (.int ((i : Int) + 1)) (rf l i w)))) p l (i + 1) w := rd_step hl (by omega)
        have eo : o = .ok [tx [c]] r := by
          cases hD with
          | turn => exact absurd rfl n92'
          | turnE => exact absurd rfl n92'
          | name _ => exact absurd rfl n36'
          | nameE _ => exact absurd rfl n36'
          | run _ _ => exact absurd rfl n91'
          | runB _ _ => exact absurd rfl n91'
          | runE _ _ => exact absurd rfl n91'
          | runM _ => exact absurd rfl n91'
          | sign _ _ _ => rfl
        refine ⟨_, rfl, ?_⟩
        rw [lit_text]
        exact ⟨(by show 2 ≤ sizeLine; decide), mk wText _ _ (i + 1) r _ (.s [c]) ⟨.inl ⟨_, rfl⟩, fun w' e => by rw [← tx_inj e]; show 1 ≤ 1000; decide⟩ (but_upd (But.refl p H)) R2 h2 (by omega) eo⟩
end
end My
namespace My
open PySem L2 SX C8
section
variable {P : Program} {w : World} {K : PySem.W.Frag} {mg : Str → Option Value} {base : Heap} {C CB : Addr}
/-- the list that is being made, the Reader and what is left -/
theorem acc_put {H H2 H3 : Hp} {p a : Addr} {us : List V} {v : V} (hb : But p H H2) (b3 : But p H2 H3) (ha : H a = none) : But p H (upd H3 a (.lst (us ++ [v]))) := but_mut (hb.trans b3) ha
theorem okr_read_quoted {f : Addr} {fd : FuncData} (R : RdC K mg C) (me : Meth K C "read_quoted" f) (F : C8.Fun K "read_quoted" "Reader.read_quoted" s_Reader_read_quoted f fd) (b : Binds K fd ["self"] []) (T : Txt mg) (x_BadScript : PlaceC P w K mg base "BadScript" CB) (c_ends_text : Met P w K mg base 1 C "ends_text" (spEnds C fun _ r => r.isEmpty) []) {n : Nat} (c_read_piece : MetX P w K mg base (6 + 6 * n) C "read_piece" (spRd C CB DPc 1 ValPc n)) : MetX P w K mg base (7 + 6 * n) C "read_quoted" (spRd C CB DQuoH 1 ValP n) := by
  rw [show 7 + 6 * n = (6 + 6 * n) + 1 by omega]
  refine metX R.cl me F b sc_Reader_read_quoted (fun vs H Q E h => ?_) (fun cdv A outer s H vs Q E hr h => ?_)
  · obtain ⟨p, l, i, w, o, rfl, _⟩ := h
    rfl
  obtain ⟨p, l, i, w, o, rfl, hR, hm, hD, q⟩ := h
  obtain ⟨hl, hi, dx, hp⟩ := id hR
  refine ⟨_, pss_cons (ps_set (i := 1) sc_Reader_read_quoted.nd rfl (Or.inl rfl) (pe_fld (pv 0) rfl))
    (pss_cons (ps_fldaug (pv 0) pe_int in_add)
    (pss_cons (ps_set (i := 2) sc_Reader_read_quoted.nd rfl (Or.inl rfl) (pe_lst pa_nil))
    (pss_cons (ps_while (passes_of rfl) (pt_not (pt_val (pe_mt0 c_ends_text hr (by first | decide | assumption | omega) (pv 0))))
      (pss_cons (ps_if (pt_cmpR op_eq (pe_ix ix_str (pe_fld (pv 0) rfl) (pe_fld (pv 0) rfl) (fun _ _ => rfl)) pe_str (nomark _))
        (pss_cons (ps_fldaug (pv 0) pe_int in_add)
        (pss_one (ps_ret (pv 2))))
        (pss_nil))
      (pss_one (ps_expr (pe_bm PySem.F.plainAttrs_list PySem.F.slot_list_append PySem.F.type_list_append mt_append (pv 2) (pa_cons (pe_mx0 (E := E) c_read_piece hr (by first | decide | assumption | omega) (passes_call (takes_of rfl rfl rfl rfl) (fun _ _ _ _ h => h)) (pv 0)) pa_nil))))))
    (pss_one (ps_place rfl x_BadScript hr (by first | decide | assumption | omega) (takes_of rfl rfl rfl rfl) rfl (pv 1)))))), ?_⟩
  have hz : (S l).length ≤ sizeLine := size_S (by omega)
  obtain ⟨r1, e1, hD⟩ := hD
  obtain ⟨h1, h2, h3⟩ := drop_tail e1
  have er : (l.drop i).length = r1.length + 1 := by rw [e1]; rfl
  refine ⟨_, rfl, p, C, dx, _, _, rfl, hp, R.cl, R.nA, rf_at _ _ _, ?_⟩
  refine ⟨_, rfl, p, C, dx, _, _, rfl, hp, R.cl, R.nA, rf_at _ _ _, _, _, rfl, rfl, dx, _, hp, (by show 3 < 1000; decide), ?_⟩
  rw [rf_putat l i w (i + 1) (show ((i : Int) + 1) = ((i + 1 : Nat) : Int) by omega)]
  refine ⟨(by show 0 ≤ sizeLine; decide), fun a ha1 => ?_⟩
  have npa : p ≠ a := ne_of_none (show (upd H p (.ins C dx (rf l (i + 1) w))) p = some _ from upd_same) ha1
  have ha : H a = none := by rw [upd_ne npa.symm] at ha1; exact ha1
  have sa := same_new ha1 (HO.lst [])
  have R1 : RdAt C (upd H p (.ins C dx (rf l (i + 1) w))) p l (i + 1) w := ⟨hl, by omega, dx, upd_same⟩
  let W : Nat → L2.St → Hp → Prop := fun m σ H2 => ∃ (k : Nat) (us : List V) (acc : List Tr) (o' : Out), σ = [some (.ref p), some (.int (i : Int)), some (.ref a)] ∧ But p H H2 ∧ RdAt C H2 p l k w ∧ H2 a = some (.lst us) ∧ TrsAt H2 us acc ∧ (∀ t ∈ acc, PcLe 1000 t) ∧ acc.length + i + 1 ≤ k ∧ DQuo w (r1.length + 1) (l.drop k) o' ∧ o = o'.app acc ∧ m = l.length - k
  refine ⟨W, ⟨_, i + 1, [], [], o, rfl, (but_upd (But.refl p H)).trans (Same.but sa), rd_same R1 sa, upd_same, TrsAt.nil _, by simp, by simp, by rw [h2]; exact hD, (Out.app_nil o).symm, rfl⟩, ?_⟩
  rintro m σ H2 ⟨k, us, acc, o', rfl, hb, R2, hd, hT, hP, hk, d, eo, rfl⟩
  obtain ⟨_, hkl, dx2, hp2⟩ := id R2
  refine ⟨_, rfl, p, dx2, _, rfl, hp2, rf_no _ _ _ (by decide +kernel) (by decide +kernel) (by decide +kernel), p, l, k, w, rfl, R2, _, rfl, ?_⟩
  rcases drop_cases hkl with e0 | ⟨hlt, e0⟩
  · have ne : (!(l.drop k).isEmpty) = false := by rw [e0]; rfl
    refine (?_ : if (!(l.drop k).isEmpty) = true then _ else _)
    rw [ne]
    refine iteF ⟨_, rfl, ?_⟩
    rw [e0] at d
    cases d with
    | lacks =>
      rw [eo] at q
      exact place_ok (told_but hi er hb q)
  · have ne : (!(l.drop k).isEmpty) = true := by rw [e0]; rfl
    refine (?_ : if (!(l.drop k).isEmpty) = true then _ else _)
    rw [ne]
    refine iteT ⟨fun σ' H' => ∃ m', m' < l.length - k ∧ W m' σ' H', fun _ _ h => h, ?_⟩
    refine ⟨_, rfl, p, C, dx2, _, _, rfl, hp2, R.cl, R.nS, rf_src _ _ _, _, rfl, p, C, dx2, _, _, rfl, hp2, R.cl, R.nA, rf_at _ _ _, _, _, _, rfl, rfl, hz, at_S (List.getElem?_eq_getElem hlt), rfl, _, rfl, ite_S lit_q (fun e34 => ?_) (fun n34 => ?_)⟩
    · have e34' : l[k] = 34 := List.head_eq_of_cons_eq e34
      refine ⟨_, rfl, p, C, dx2, _, _, rfl, hp2, R.cl, R.nA, rf_at _ _ _, _, _, rfl, rfl, dx2, _, hp2, (by show 3 < 1000; decide), ?_⟩
      rw [e0] at d
      refine ⟨_, rfl, ?_⟩
      have eo2 : o = .ok acc (l.drop (k + 1)) := by
        generalize l[k] = c at d e34'
        subst e34'
        cases d with
        | stop => rw [eo]; show Out.ok (acc ++ []) _ = _; rw [List.append_nil]
        | piece h _ _ => exact absurd rfl h
        | pieceE h _ => exact absurd rfl h
      rw [eo2] at q
      have nap : a ≠ p := npa.symm
      refine q _ (k + 1) _ (but_upd hb) (rd_step hl (by omega)) rfl (by omega) ⟨a, us, rfl, by rw [upd_ne nap]; exact hd, hT.mono (Tups.upd R2.notup), hP, by omega⟩
    · have n34' : l[k] ≠ 34 := fun z => n34 (by rw [z])
      rw [e0] at d
      have c : ∃ o1, DPc w (l.drop k) o1 ∧ ((∃ t r' o2, o1 = .ok [t] r' ∧ DQuo w (r1.length + 1) r' o2 ∧ o' = o2.cons t) ∨ ∃ j, o1 = .er j ∧ o' = .er j) := by
        rw [e0]
        generalize l[k] = c at d n34'
        cases d with
        | stop => exact absurd rfl n34'
        | piece h d1 d2 => exact ⟨_, d1, .inl ⟨_, _, _, rfl, d2, rfl⟩⟩
        | pieceE h d1 => exact ⟨_, d1, .inr ⟨_, rfl, rfl⟩⟩
      obtain ⟨o1, d1, c⟩ := c
      refine ⟨_, rfl, .inl ⟨rfl, _, SqL.of hd⟩, _, rfl, p, dx2, _, rfl, hp2, rf_no _ _ _ (by decide +kernel) (by decide +kernel) (by decide +kernel), p, l, k, w, o1, rfl, R2, hm, d1, ?_⟩
      rcases c with ⟨t, r', o2, rfl, d2, rfl⟩ | ⟨j, rfl, rfl⟩
      · rintro v j H3 b3 R3 hj hij ⟨t', et, hv, hpc⟩
        cases et
        have hd3 := b3 _ _ hd npa.symm
        have u3 : Tups H2 H3 := But.tups b3 R2.notup
        have u4 : Tups H3 (upd H3 a (.lst (us ++ [v]))) := Tups.upd fun xs e => by rw [hd3] at e; cases e
        have hj2 := R3.2.1
        refine ⟨a, us, v, rfl, rfl, hd3, ?_, l.length - j, by omega, j, us ++ [v], acc ++ [t], o2, rfl, but_mut (hb.trans b3) ha, rd_upd R3 npa, upd_same, ((hT.mono u3).mono u4).snoc (hv.mono u4), ?_, by simp; omega, by rw [hj]; exact d2, by rw [eo, Out.app_cons], rfl⟩
        · rw [hT.1]
          exact Nat.lt_of_le_of_lt (show _ ≤ 2000 by omega) (by decide)
        · intro t' ht'
          rcases List.mem_append.mp ht' with h | h
          · exact hP t' h
          · rw [List.mem_singleton.mp h]; exact hpc
      · rw [eo] at q
        exact fun d' H' b' h' => q d' H' (hb.trans b') h'
theorem okr_read_bare {f : Addr} {fd : FuncData} (R : RdC K mg C) (me : Meth K C "read_bare" f) (F : C8.Fun K "read_bare" "Reader.read_bare" s_Reader_read_bare f fd) (b : Binds K fd ["self"] []) (T : Txt mg) (c_ends_word : Met P w K mg base 4 C "ends_word" (spEnds C bW) []) {n : Nat} (c_read_piece : MetX P w K mg base (6 + 6 * n) C "read_piece" (spRd C CB DPc 1 ValPc n)) : MetX P w K mg base (7 + 6 * n) C "read_bare" (spRd C CB DBarH 1 ValP n) := by
  rw [show 7 + 6 * n = (6 + 6 * n) + 1 by omega]
  refine metX R.cl me F b sc_Reader_read_bare (fun vs H Q E h => ?_) (fun cdv A outer s H vs Q E hr h => ?_)
  · obtain ⟨p, l, i, w, o, rfl, _⟩ := h
    rfl
  obtain ⟨p, l, i, w, o, rfl, hR, hm, hD, q⟩ := h
  obtain ⟨hl, hi, dx, hp⟩ := id hR
  refine ⟨_, pss_cons (ps_set (i := 1) sc_Reader_read_bare.nd rfl (Or.inl rfl) (pe_lst pa_nil))
    (pss_cons (ps_while (passes_of rfl) (pt_not (pt_val (pe_mt0 c_ends_word hr (by first | decide | assumption | omega) (pv 0))))
      (pss_one (ps_expr (pe_bm PySem.F.plainAttrs_list PySem.F.slot_list_append PySem.F.type_list_append mt_append (pv 1) (pa_cons (pe_mx0 (E := E) c_read_piece hr (by first | decide | assumption | omega) (passes_call (takes_of rfl rfl rfl rfl) (fun _ _ _ _ h => h)) (pv 0)) pa_nil)))))
    (pss_one (ps_ret (pv 1)))), ?_⟩
  obtain ⟨nw, hD⟩ := hD
  refine ⟨(by show 0 ≤ sizeLine; decide), fun a ha => ?_⟩
  have npa : p ≠ a := ne_of_none hp ha
  have sa := same_new ha (HO.lst [])
  let W : Nat → L2.St → Hp → Prop := fun m σ H2 => ∃ (k : Nat) (us : List V) (acc : List Tr) (o' : Out), σ = [some (.ref p), some (.ref a)] ∧ But p H H2 ∧ RdAt C H2 p l k w ∧ H2 a = some (.lst us) ∧ TrsAt H2 us acc ∧ (∀ t ∈ acc, PcLe 1000 t) ∧ acc.length + i ≤ k ∧ DBar w (l.drop k) o' ∧ o = o'.app acc ∧ m = l.length - k
  refine ⟨W, ⟨_, i, [], [], o, rfl, Same.but sa, rd_same hR sa, upd_same, TrsAt.nil _, by simp, by simp, hD, (Out.app_nil o).symm, rfl⟩, ?_⟩
  rintro m σ H2 ⟨k, us, acc, o', rfl, hb, R2, hd, hT, hP, hk, d, eo, rfl⟩
  obtain ⟨_, hkl, dx2, hp2⟩ := id R2
  refine ⟨_, rfl, p, dx2, _, rfl, hp2, rf_no _ _ _ (by decide +kernel) (by decide +kernel) (by decide +kernel), p, l, k, w, rfl, R2, _, rfl, ?_⟩
  refine (?_ : if (!(bW w (l.drop k))) = true then _ else _)
  cases hw : bW w (l.drop k) with
  | true =>
    refine iteF ⟨_, rfl, ?_⟩
    have eo2 : o = .ok acc (l.drop k) := by
      generalize l.drop k = L at d hw
      cases d with
      | stop _ => rw [eo]; show Out.ok (acc ++ []) _ = _; rw [List.append_nil]
      | piece h _ _ => rw [hw] at h; cases h
      | pieceE h _ => rw [hw] at h; cases h
    rw [eo2] at q
    have hik : i ≠ k := fun z => by rw [z, hw] at nw; cases nw
    exact q _ k _ hb R2 rfl (by omega) ⟨a, us, rfl, hd, hT, hP, by omega⟩
  | false =>
    refine iteT ⟨fun σ' H' => ∃ m', m' < l.length - k ∧ W m' σ' H', fun _ _ h => h, ?_⟩
    have c : ∃ o1, DPc w (l.drop k) o1 ∧ ((∃ t r' o2, o1 = .ok [t] r' ∧ DBar w r' o2 ∧ o' = o2.cons t) ∨ ∃ j, o1 = .er j ∧ o' = .er j) := by
      generalize l.drop k = L at d hw
      cases d with
      | stop h => rw [hw] at h; cases h
      | piece h d1 d2 => exact ⟨_, d1, .inl ⟨_, _, _, rfl, d2, rfl⟩⟩
      | pieceE h d1 => exact ⟨_, d1, .inr ⟨_, rfl, rfl⟩⟩
    obtain ⟨o1, d1, c⟩ := c
    refine ⟨_, rfl, .inl ⟨rfl, _, SqL.of hd⟩, _, rfl, p, dx2, _, rfl, hp2, rf_no _ _ _ (by decide +kernel) (by decide +kernel) (by decide +kernel), p, l, k, w, o1, rfl, R2, hm, d1, ?_⟩
    rcases c with ⟨t, r', o2, rfl, d2, rfl⟩ | ⟨j, rfl, rfl⟩
    · rintro v j H3 b3 R3 hj hij ⟨t', et, hv, hpc⟩
      cases et
      have hd3 := b3 _ _ hd npa.symm
      have u3 : Tups H2 H3 := But.tups b3 R2.notup
      have u4 : Tups H3 (upd H3 a (.lst (us ++ [v]))) := Tups.upd fun xs e => by rw [hd3] at e; cases e
      have hj2 := R3.2.1
      refine ⟨a, us, v, rfl, rfl, hd3, ?_, l.length - j, by omega, j, us ++ [v], acc ++ [t], o2, rfl, but_mut (hb.trans b3) ha, rd_upd R3 npa, upd_same, ((hT.mono u3).mono u4).snoc (hv.mono u4), ?_, by simp; omega, by rw [hj]; exact d2, by rw [eo, Out.app_cons], rfl⟩
      · rw [hT.1]
        exact Nat.lt_of_le_of_lt (show _ ≤ 2000 by omega) (by decide)
      · intro t' ht'
        rcases List.mem_append.mp ht' with h | h
        · exact hP t' h
        · rw [List.mem_singleton.mp h]; exact hpc
    · rw [eo] at q
      exact fun d' H' b' h' => q d' H' (hb.trans b') h'
theorem okr_read_word {f : Addr} {fd : FuncData} (R : RdC K mg C) (me : Meth K C "read_word" f) (F : C8.Fun K "read_word" "Reader.read_word" s_Reader_read_word f fd) (b : Binds K fd ["self"] []) (T : Txt mg) (x_BadScript : PlaceC P w K mg base "BadScript" CB) (c_ends_word : Met P w K mg base 4 C "ends_word" (spEnds C bW) []) (c_joined : Cal P w K mg base 1 "joined" spJoined []) {n : Nat}
    (c_read_braced : MetX P w K mg base 3 C "read_braced" (spRd C CB DBrc 1 ValP n)) (c_read_quoted : MetX P w K mg base (7 + 6 * n) C "read_quoted" (spRd C CB DQuoH 1 ValP n)) (c_read_bare : MetX P w K mg base (7 + 6 * n) C "read_bare" (spRd C CB DBarH 1 ValP n)) : MetX P w K mg base (8 + 6 * n) C "read_word" (spRd C CB DWrdH 1 Val1 n) := by
  rw [show 8 + 6 * n = (7 + 6 * n) + 1 by omega]
  refine metX R.cl me F b sc_Reader_read_word (fun vs H Q E h => ?_) (fun cdv A outer s H vs Q E hr h => ?_)
  · obtain ⟨p, l, i, w, o, rfl, _⟩ := h
    rfl
  obtain ⟨p, l, i, w, o, rfl, hR, hm, hD, q⟩ := h
  obtain ⟨hl, hi, dx, hp⟩ := id hR
  refine ⟨_, pss_cut (ps_if (pt_cmpR op_eq (pe_ix ix_str (pe_fld (pv 0) rfl) (pe_fld (pv 0) rfl) (fun _ _ => rfl)) pe_str (nomark _))
      (pss_one (ps_set (i := 1) sc_Reader_read_word.nd rfl (Or.inl rfl) (pe_mx0 (E := E) c_read_braced hr (by first | decide | assumption | omega) (passes_call (takes_of rfl rfl rfl rfl) (fun _ _ _ _ h => h)) (pv 0))))
      (pss_one (ps_if (pt_cmpR op_eq (pe_ix ix_str (pe_fld (pv 0) rfl) (pe_fld (pv 0) rfl) (fun _ _ => rfl)) pe_str (nomark _))
        (pss_one (ps_set (i := 1) sc_Reader_read_word.nd rfl (Or.inl rfl) (pe_mx0 (E := E) c_read_quoted hr (by first | decide | assumption | omega) (passes_call (takes_of rfl rfl rfl rfl) (fun _ _ _ _ h => h)) (pv 0))))
        (pss_one (ps_set (i := 1) sc_Reader_read_word.nd rfl (Or.inl rfl) (pe_mx0 (E := E) c_read_bare hr (by first | decide | assumption | omega) (passes_call (takes_of rfl rfl rfl rfl) (fun _ _ _ _ h => h)) (pv 0)))))))
    (pss_cons (ps_if (pt_not (pt_val (pe_mt0 c_ends_word hr (by first | decide | assumption | omega) (pv 0))))
      (pss_one (ps_place rfl x_BadScript hr (by first | decide | assumption | omega) (takes_of rfl rfl rfl rfl) rfl (pe_fld (pv 0) rfl)))
      (pss_nil))
    (pss_one (ps_ret (pe_c c_joined hr (by first | decide | assumption | omega) rfl (pa_cons (pv 1) pa_nil))))), ?_⟩
  have hz : (S l).length ≤ sizeLine := size_S (by omega)
  obtain ⟨nw, hD⟩ := hD
  obtain ⟨c, r, e1⟩ : ∃ c r, l.drop i = c :: r := by
    generalize l.drop i = L at hD
    cases hD <;> exact ⟨_, _, rfl⟩
  obtain ⟨h1, h2, h3⟩ := drop_tail e1
  -- the pieces, and what comes behind them
  let Mid : L2.St → Hp → Prop := fun σ H2 => ∃ (a : Addr) (us : List V) (ps : List Tr) (j : Nat), σ = [some (.ref p), some (.ref a)] ∧ But p H H2 ∧ RdAt C H2 p l j w ∧ i + 1 ≤ j ∧ H2 a = some (.lst us) ∧ TrsAt H2 us ps ∧ (∀ t ∈ ps, PcLe 1000 t) ∧ ps.length ≤ 1000 ∧
    ((bW w (l.drop j) = true ∧ o = .ok [.n (joinP ps)] (l.drop j)) ∨ (bW w (l.drop j) = false ∧ o = .er (l.drop j).length))
  have mid : ∀ ps r' , ((bW w r' = true ∧ o = .ok [.n (joinP ps)] r') ∨ (bW w r' = false ∧ o = .er r'.length)) → ∀ (v : V) (j : Nat) H', But p H H' → RdAt C H' p l j w → l.drop j = r' → i + 1 ≤ j → ValP H' v ps → Mid [some (.ref p), some v] H' := by
    rintro ps r' hc v j H' b' R' rfl hij ⟨a, us, rfl, ha, hT, hP, hn⟩
    exact ⟨a, us, ps, j, rfl, b', R', hij, ha, hT, hP, hn, hc⟩
  refine ⟨Mid, ?_, ?_⟩
  · refine ⟨_, rfl, p, C, dx, _, _, rfl, hp, R.cl, R.nS, rf_src _ _ _, _, rfl, p, C, dx, _, _, rfl, hp, R.cl, R.nA, rf_at _ _ _, _, _, _, rfl, rfl, hz, at_S h3, rfl, _, rfl, ite_S lit_ob (fun e123 => ?_) (fun n123 => ?_)⟩
    · have e123' : c = 123 := List.head_eq_of_cons_eq e123
      subst e123'
      refine ⟨_, rfl, p, dx, _, rfl, hp, rf_no _ _ _ (by decide +kernel) (by decide +kernel) (by decide +kernel), p, l, i, w, ?_⟩
      rw [e1] at hD
      cases hD with
      | @braced _ e _ h he =>
        refine ⟨_, rfl, hR, hm, ⟨r, e1, .inl ⟨e, by rw [e1]; exact h, rfl⟩⟩, mid _ _ (.inl ⟨he, ?_⟩)⟩
        by_cases h11 : e = 1
        · rw [if_pos h11]; rfl
        · rw [if_neg h11]; rfl
      | bracedE h => exact ⟨_, rfl, hR, hm, ⟨r, e1, .inr ⟨by rw [e1]; exact h, rfl⟩⟩, fun d H' b' h' => q d H' b' h'⟩
      | @bracedB _ e _ h he => exact ⟨_, rfl, hR, hm, ⟨r, e1, .inl ⟨e, by rw [e1]; exact h, rfl⟩⟩, mid _ _ (.inr ⟨he, rfl⟩)⟩
      | bare g1 _ _ _ => exact absurd rfl g1
      | bareE g1 _ _ => exact absurd rfl g1
    · have n123' : c ≠ 123 := fun z => n123 (by rw [z])
      refine ⟨_, rfl, p, C, dx, _, _, rfl, hp, R.cl, R.nS, rf_src _ _ _, _, rfl, p, C, dx, _, _, rfl, hp, R.cl, R.nA, rf_at _ _ _, _, _, _, rfl, rfl, hz, at_S h3, rfl, _, rfl, ite_S lit_q (fun e34 => ?_) (fun n34 => ?_)⟩
      · have e34' : c = 34 := List.head_eq_of_cons_eq e34
        subst e34'
        refine ⟨_, rfl, p, dx, _, rfl, hp, rf_no _ _ _ (by decide +kernel) (by decide +kernel) (by decide +kernel), p, l, i, w, ?_⟩
        rw [e1] at hD
        cases hD with
        | quoted d he => exact ⟨_, rfl, hR, hm, ⟨r, e1, d⟩, mid _ _ (.inl ⟨he, rfl⟩)⟩
        | quotedB d he => exact ⟨_, rfl, hR, hm, ⟨r, e1, d⟩, mid _ _ (.inr ⟨he, rfl⟩)⟩
        | quotedE d => exact ⟨_, rfl, hR, hm, ⟨r, e1, d⟩, fun d H' b' h' => q d H' b' h'⟩
        | bare _ g2 _ _ => exact absurd rfl g2
        | bareE _ g2 _ => exact absurd rfl g2
      · have n34' : c ≠ 34 := fun z => n34 (by rw [z])
        refine ⟨_, rfl, p, dx, _, rfl, hp, rf_no _ _ _ (by decide +kernel) (by decide +kernel) (by decide +kernel), p, l, i, w, ?_⟩
        have hD' := hD
        rw [e1] at hD'
        cases hD' with
        | braced _ _ => exact absurd rfl n123'
        | bracedE _ => exact absurd rfl n123'
        | bracedB _ _ => exact absurd rfl n123'
        | quoted _ _ => exact absurd rfl n34'
        | quotedB _ _ => exact absurd rfl n34'
        | quotedE _ => exact absurd rfl n34'
        | bare _ _ d he => exact ⟨.ok _ _, rfl, hR, hm, ⟨nw, by rw [e1]; exact d⟩, mid _ _ (.inl ⟨he, rfl⟩)⟩
        | bareE _ _ d => exact ⟨.er _, rfl, hR, hm, ⟨nw, by rw [e1]; exact d⟩, fun d H' b' h' => q d H' b' h'⟩
  · rintro σ H2 ⟨a, us, ps, j, rfl, hb, R2, hij, ha, hT, hP, hn, hc⟩
    obtain ⟨_, hj, dx2, hp2⟩ := id R2
    refine ⟨_, rfl, p, dx2, _, rfl, hp2, rf_no _ _ _ (by decide +kernel) (by decide +kernel) (by decide +kernel), p, l, j, w, rfl, R2, _, rfl, ?_⟩
    refine (?_ : if (!(bW w (l.drop j))) = true then _ else _)
    rcases hc with ⟨hw, rfl⟩ | ⟨hw, rfl⟩
    · rw [hw]
      refine iteF ⟨_, rfl, a, us, ps, rfl, ha, hT, hP, hn, fun p3 H3 s3 hv => ?_⟩
      exact q (.ref p3) j _ (hb.trans (Same.but s3)) (rd_same R2 s3) rfl hij ⟨_, rfl, hv⟩
    · rw [hw]
      refine iteT ⟨_, rfl, p, C, dx2, _, _, rfl, hp2, R.cl, R.nA, rf_at _ _ _, ?_⟩
      exact place_ok (told_but hj rfl hb q)
end
end My
namespace My
open PySem L2 SX C8
section
variable {P : Program} {w : World} {K : PySem.W.Frag} {mg : Str → Option Value} {base : Heap} {C CB : Addr}
theorem okr_read_command {f : Addr} {fd : FuncData} (R : RdC K mg C) (me : Meth K C "read_command" f) (F : C8.Fun K "read_command" "Reader.read_command" s_Reader_read_command f fd) (b : Binds K fd ["self"] []) (T : Txt mg) (c_ends_command : Met P w K mg base 3 C "ends_command" (spEnds C bC) []) (c_ends_word : Met P w K mg base 4 C "ends_word" (spEnds C bW) []) {n : Nat} (c_read_word : MetX P w K mg base (8 + 6 * n) C "read_word" (spRd C CB DWrdH 1 Val1 n)) : MetX P w K mg base (9 + 6 * n) C "read_command" (spRd C CB (fun w r o => bC w r = false ∧ DCmd w r o) 1 ValT n) := by
  rw [show 9 + 6 * n = (8 + 6 * n) + 1 by omega]
  refine metX R.cl me F b sc_Reader_read_command (fun vs H Q E h => ?_) (fun cdv A outer s H vs Q E hr h => ?_)
  · obtain ⟨p, l, i, w, o, rfl, _⟩ := h
    rfl
  obtain ⟨p, l, i, w, o, rfl, hR, hm, ⟨nc, hD⟩, q⟩ := h
  obtain ⟨hl, hi, dx, hp⟩ := id hR
  refine ⟨_, pss_cons (ps_set (i := 1) sc_Reader_read_command.nd rfl (Or.inl rfl) (pe_lst pa_nil))
    (pss_cons (ps_while (passes_of rfl) (pt_not (pt_val (pe_mt0 c_ends_command hr (by first | decide | assumption | omega) (pv 0))))
      (pss_one (ps_if (pt_val (pe_mt0 c_ends_word hr (by first | decide | assumption | omega) (pv 0)))
        (pss_one (ps_fldaug (pv 0) pe_int in_add))
        (pss_one (ps_expr (pe_bm PySem.F.plainAttrs_list PySem.F.slot_list_append PySem.F.type_list_append mt_append (pv 1) (pa_cons (pe_mx0 (E := E) c_read_word hr (by first | decide | assumption | omega) (passes_call (takes_of rfl rfl rfl rfl) (fun _ _ _ _ h => h)) (pv 0)) pa_nil)))))))
    (pss_one (ps_ret (pe_callTy call_tuple_of (by rfl) T.tuple (by decide +kernel) (pa_cons (pv 1) pa_nil))))), ?_⟩
  refine ⟨(by show 0 ≤ sizeLine; decide), fun a ha => ?_⟩
  have npa : p ≠ a := ne_of_none hp ha
  have sa := same_new ha (HO.lst [])
  let W : Nat → L2.St → Hp → Prop := fun m σ H2 => ∃ (k : Nat) (us : List V) (acc : List Tr) (o' : Out), σ = [some (.ref p), some (.ref a)] ∧ But p H H2 ∧ RdAt C H2 p l k w ∧ H2 a = some (.lst us) ∧ TrsAt H2 us acc ∧ acc.length + i ≤ k ∧ DCmd w (l.drop k) o' ∧ o = o'.app acc ∧ m = l.length - k
  refine ⟨W, ⟨_, i, [], [], o, rfl, Same.but sa, rd_same hR sa, upd_same, TrsAt.nil _, by simp, hD, (Out.app_nil o).symm, rfl⟩, ?_⟩
  rintro m σ H2 ⟨k, us, acc, o', rfl, hb, R2, hd, hT, hk, d, eo, rfl⟩
  obtain ⟨_, hkl, dx2, hp2⟩ := id R2
  refine ⟨_, rfl, p, dx2, _, rfl, hp2, rf_no _ _ _ (by decide +kernel) (by decide +kernel) (by decide +kernel), p, l, k, w, rfl, R2, _, rfl, ?_⟩
  refine (?_ : if (!(bC w (l.drop k))) = true then _ else _)
  cases hc : bC w (l.drop k) with
  | true =>
    have hwc : bW w (l.drop k) = true := by
      cases e : l.drop k with
      | nil => rfl
      | cons c r => rw [e] at hc; show (bC w (c :: r) || _) = true; rw [hc]; rfl
    have eo2 : o = .ok acc (l.drop k) := by
      generalize l.drop k = L at d hc hwc
      cases d with
      | stop _ => rw [eo]; show Out.ok (acc ++ []) _ = _; rw [List.append_nil]
      | skip h _ _ => rw [hc] at h; cases h
      | word h _ _ => rw [hwc] at h; cases h
      | wordE h _ => rw [hwc] at h; cases h
    rw [eo2] at q
    have hik : i ≠ k := fun z => by rw [z, hc] at nc; cases nc
    refine iteF ⟨_, rfl, a, us, rfl, .inl ⟨SqL.of hd, fun t ht => ?_⟩⟩
    have st := same_new ht (HO.tup us)
    exact q (.ref t) k _ (hb.trans (Same.but st)) (rd_same R2 st) rfl (by omega) (TrsAt.tup upd_same (hT.mono (Same.tups st)))
  | false =>
    refine iteT ⟨fun σ' H' => ∃ m', m' < l.length - k ∧ W m' σ' H', fun _ _ h => h, ?_⟩
    refine ⟨_, rfl, p, dx2, _, rfl, hp2, rf_no _ _ _ (by decide +kernel) (by decide +kernel) (by decide +kernel), p, l, k, w, rfl, R2, _, rfl, ?_⟩
    have hlt : k < l.length := by
      rcases drop_cases hkl with e | ⟨h, _⟩
      · rw [e] at hc; cases hc
      · exact h
    cases hw : bW w (l.drop k) with
    | true =>
      refine iteT ⟨_, rfl, p, C, dx2, _, _, rfl, hp2, R.cl, R.nA, rf_at _ _ _, _, _, rfl, rfl, dx2, _, hp2, (by show 3 < 1000; decide), ?_⟩
      have nap : a ≠ p := npa.symm
      have d2 : DCmd w (l.drop (k + 1)) o' := by
        have e0 := List.drop_eq_getElem_cons hlt
        rw [e0] at d hc hw
        cases d with
        | stop h => rw [hc] at h; cases h
        | skip _ _ d => exact d
        | word h _ _ => rw [hw] at h; cases h
        | wordE h _ => rw [hw] at h; cases h
      exact ⟨l.length - (k + 1), by omega, k + 1, us, acc, o', rfl, but_upd hb, rd_step hl (by omega), by rw [upd_ne nap]; exact hd, hT.mono (Tups.upd R2.notup), by omega, d2, eo, rfl⟩
    | false =>
      have c : ∃ o1, DWrd w (l.drop k) o1 ∧ ((∃ t r' o2, o1 = .ok [t] r' ∧ DCmd w r' o2 ∧ o' = o2.cons t) ∨ ∃ j, o1 = .er j ∧ o' = .er j) := by
        generalize l.drop k = L at d hc hw
        cases d with
        | stop h => rw [hc] at h; cases h
        | skip _ h _ => rw [hw] at h; cases h
        | word h d1 d2 => exact ⟨_, d1, .inl ⟨_, _, _, rfl, d2, rfl⟩⟩
        | wordE h d1 => exact ⟨_, d1, .inr ⟨_, rfl, rfl⟩⟩
      obtain ⟨o1, d1, c⟩ := c
      refine iteF ⟨_, rfl, .inl ⟨rfl, _, SqL.of hd⟩, _, rfl, p, dx2, _, rfl, hp2, rf_no _ _ _ (by decide +kernel) (by decide +kernel) (by decide +kernel), p, l, k, w, o1, rfl, R2, hm, ⟨hw, d1⟩, ?_⟩
      rcases c with ⟨t, r', o2, rfl, d2, rfl⟩ | ⟨j, rfl, rfl⟩
      · rintro v j H3 b3 R3 hj hij ⟨t', et, hv⟩
        cases et
        have hd3 := b3 _ _ hd npa.symm
        have u3 : Tups H2 H3 := But.tups b3 R2.notup
        have u4 : Tups H3 (upd H3 a (.lst (us ++ [v]))) := Tups.upd fun xs e => by rw [hd3] at e; cases e
        have hj2 := R3.2.1
        refine ⟨a, us, v, rfl, rfl, hd3, ?_, l.length - j, by omega, j, us ++ [v], acc ++ [t], o2, rfl, but_mut (hb.trans b3) ha, rd_upd R3 npa, upd_same, ((hT.mono u3).mono u4).snoc (hv.mono u4), by simp; omega, by rw [hj]; exact d2, by rw [eo, Out.app_cons], rfl⟩
        rw [hT.1]
        exact Nat.lt_of_le_of_lt (show _ ≤ 2000 by omega) (by decide)
      · rw [eo] at q
        exact fun d' H' b' h' => q d' H' (hb.trans b') h'
theorem dropRem_le (l : List Nat) : (dropRem l).length ≤ l.length := by
  induction l with
  | nil => exact Nat.le_refl _
  | cons c r ih =>
    unfold dropRem
    split
    · exact Nat.le_refl _
    · simp; omega
theorem okr_read_script {f : Addr} {fd : FuncData} (R : RdC K mg C) (me : Meth K C "read_script" f) (F : C8.Fun K "read_script" "Reader.read_script" s_Reader_read_script f fd) (b : Binds K fd ["self"] []) (T : Txt mg) (c_ends_script : Met P w K mg base 2 C "ends_script" (spEnds C bS) []) (c_ends_word : Met P w K mg base 4 C "ends_word" (spEnds C bW) []) (c_pass_remark : Met P w K mg base 2 C "pass_remark" (spMove C dropRem) []) {n : Nat} (c_read_command : MetX P w K mg base (9 + 6 * n) C "read_command" (spRd C CB (fun w r o => bC w r = false ∧ DCmd w r o) 1 ValT n)) : MetX P w K mg base (4 + 6 * (n + 1)) C "read_script" (spScr C CB (n + 1)) := by
  rw [show 4 + 6 * (n + 1) = (9 + 6 * n) + 1 by omega]
  refine metX R.cl me F b sc_Reader_read_script (fun vs H Q E h => ?_) (fun cdv A outer s H vs Q E hr h => ?_)
  · obtain ⟨p, l, i, w, o, rfl, _⟩ := h
    rfl
  obtain ⟨p, l, i, w, o, rfl, hR, hm, hD, q⟩ := h
  obtain ⟨hl, hi, dx, hp⟩ := id hR
  refine ⟨_, pss_cons (ps_set (i := 1) sc_Reader_read_script.nd rfl (Or.inl rfl) (pe_lst pa_nil))
    (pss_cons (ps_while (passes_of rfl) (pt_not (pt_val (pe_mt0 c_ends_script hr (by first | decide | assumption | omega) (pv 0))))
      (pss_one (ps_if (pt_val (pe_mt0 c_ends_word hr (by first | decide | assumption | omega) (pv 0)))
        (pss_one (ps_fldaug (pv 0) pe_int in_add))
        (pss_one (ps_if (pt_cmpR op_eq (pe_ix ix_str (pe_fld (pv 0) rfl) (pe_fld (pv 0) rfl) (fun _ _ => rfl)) pe_str (nomark _))
          (pss_one (ps_expr (pe_mt0 c_pass_remark hr (by first | decide | assumption | omega) (pv 0))))
          (pss_one (ps_expr (pe_bm PySem.F.plainAttrs_list PySem.F.slot_list_append PySem.F.type_list_append mt_append (pv 1) (pa_cons (pe_mx0 (E := E) c_read_command hr (by first | decide | assumption | omega) (passes_call (takes_of rfl rfl rfl rfl) (fun _ _ _ _ h => h)) (pv 0)) pa_nil)))))))))
    (pss_one (ps_ret (pv 1)))), ?_⟩
  have hz : (S l).length ≤ sizeLine := size_S (by omega)
  refine ⟨(by show 0 ≤ sizeLine; decide), fun a ha => ?_⟩
  have npa : p ≠ a := ne_of_none hp ha
  have nap : a ≠ p := npa.symm
  have sa := same_new ha (HO.lst [])
  let W : Nat → L2.St → Hp → Prop := fun m σ H2 => ∃ (k : Nat) (us : List V) (acc : List Tr) (o' : Out), σ = [some (.ref p), some (.ref a)] ∧ But p H H2 ∧ RdAt C H2 p l k w ∧ H2 a = some (.lst us) ∧ TrsAt H2 us acc ∧ acc.length + i ≤ k ∧ DScr w (l.drop k) o' ∧ o = o'.app acc ∧ m = 2 * (l.length - k) + (if (l.drop k).head? = some 35 then 1 else 0)
  refine ⟨W, ⟨_, i, [], [], o, rfl, Same.but sa, rd_same hR sa, upd_same, TrsAt.nil _, by simp, hD, (Out.app_nil o).symm, rfl⟩, ?_⟩
  rintro m σ H2 ⟨k, us, acc, o', rfl, hb, R2, hd, hT, hk, d, eo, rfl⟩
  obtain ⟨_, hkl, dx2, hp2⟩ := id R2
  refine ⟨_, rfl, p, dx2, _, rfl, hp2, rf_no _ _ _ (by decide +kernel) (by decide +kernel) (by decide +kernel), p, l, k, w, rfl, R2, _, rfl, ?_⟩
  refine (?_ : if (!(bS w (l.drop k))) = true then _ else _)
  have up : ∀ r, bS w r = true → bW w r = true := fun r h => by
    cases r with
    | nil => rfl
    | cons c r =>
      show ((bS w (c :: r) || _) || _) = true
      rw [h]; rfl
  cases hs : bS w (l.drop k) with
  | true =>
    have hw := up _ hs
    have eo2 : o = .ok acc (l.drop k) := by
      generalize l.drop k = L at d hs hw
      cases d with
      | stop _ => rw [eo]; show Out.ok (acc ++ []) _ = _; rw [List.append_nil]
      | skip h _ _ => rw [hs] at h; cases h
      | remark h _ => rw [hw] at h; cases h
      | cmd h _ _ _ => rw [hw] at h; cases h
      | cmdE h _ _ => rw [hw] at h; cases h
    rw [eo2] at q
    exact iteF ⟨_, rfl, q _ k _ hb R2 rfl (by omega) ⟨a, us, rfl, hd, hT⟩⟩
  | false =>
    have hlt : k < l.length := by
      rcases drop_cases hkl with e | ⟨h, _⟩
      · rw [e] at hs; cases hs
      · exact h
    have e0 := List.drop_eq_getElem_cons hlt
    refine iteT ⟨fun σ' H' => ∃ m', m' < 2 * (l.length - k) + (if (l.drop k).head? = some 35 then 1 else 0) ∧ W m' σ' H', fun _ _ h => h, ?_⟩
    refine ⟨_, rfl, p, dx2, _, rfl, hp2, rf_no _ _ _ (by decide +kernel) (by decide +kernel) (by decide +kernel), p, l, k, w, rfl, R2, _, rfl, ?_⟩
    have meas : ∀ j, k < j → 2 * (l.length - j) + (if (l.drop j).head? = some 35 then 1 else 0) < 2 * (l.length - k) + (if (l.drop k).head? = some 35 then 1 else 0) := fun j hj => by
      split <;> split <;> omega
    cases hw : bW w (l.drop k) with
    | true =>
      refine iteT ⟨_, rfl, p, C, dx2, _, _, rfl, hp2, R.cl, R.nA, rf_at _ _ _, _, _, rfl, rfl, dx2, _, hp2, (by show 3 < 1000; decide), ?_⟩
      have d2 : DScr w (l.drop (k + 1)) o' := by
        rw [e0] at d hs hw
        generalize l[k] = c at d hs hw
        cases d with
        | stop h => rw [hs] at h; cases h
        | skip _ _ d => exact d
        | remark h _ => rw [hw] at h; cases h
        | cmd h _ _ _ => rw [hw] at h; cases h
        | cmdE h _ _ => rw [hw] at h; cases h
      exact ⟨_, meas (k + 1) (by omega), k + 1, us, acc, o', rfl, but_upd hb, rd_step hl (by omega), by rw [upd_ne nap]; exact hd, hT.mono (Tups.upd R2.notup), by omega, d2, eo, rfl⟩
    | false =>
      refine iteF ⟨_, rfl, p, C, dx2, _, _, rfl, hp2, R.cl, R.nS, rf_src _ _ _, _, rfl, p, C, dx2, _, _, rfl, hp2, R.cl, R.nA, rf_at _ _ _, _, _, _, rfl, rfl, hz, at_S (List.getElem?_eq_getElem hlt), rfl, _, rfl, ite_S lit_hash (fun e35 => ?_) (fun n35 => ?_)⟩
      · have e35' : l[k] = 35 := List.head_eq_of_cons_eq e35
        refine ⟨_, rfl, p, dx2, _, rfl, hp2, rf_no _ _ _ (by decide +kernel) (by decide +kernel) (by decide +kernel), p, l, k, w, rfl, R2, fun j H3 b3 R3 hj => ?_⟩
        have hd3 := b3 _ _ hd nap
        have d2 : DScr w (dropRem (l.drop k)) o' := by
          rw [e0] at d hs hw ⊢
          rw [e35'] at d hs hw ⊢
          cases d with
          | stop h => rw [hs] at h; cases h
          | skip _ h _ => rw [hw] at h; cases h
          | remark _ d =>
            show DScr w (dropRem (35 :: l.drop (k + 1))) o'
            rw [dropRem, if_neg (by decide)]
            exact d
          | cmd _ h _ _ => exact absurd rfl h
          | cmdE _ h _ => exact absurd rfl h
        have hkj : k < j := by
          have h1 := congrArg List.length hj
          rw [e0, e35', dropRem, if_neg (by decide), List.length_drop] at h1
          have h2 := dropRem_le (l.drop (k + 1))
          rw [List.length_drop] at h2
          have := R3.2.1
          omega
        exact ⟨_, meas j hkj, j, us, acc, o', rfl, hb.trans b3, R3, hd3, hT.mono (But.tups b3 R2.notup), by omega, by rw [hj]; exact d2, eo, rfl⟩
      · have n35' : l[k] ≠ 35 := fun z => n35 (by rw [z])
        have c : ∃ o1, DCmd w (l.drop k) o1 ∧ ((∃ ts r' o2, o1 = .ok ts r' ∧ DScr w r' o2 ∧ o' = o2.cons (.n ts)) ∨ ∃ j, o1 = .er j ∧ o' = .er j) := by
          rw [e0] at d hs hw ⊢
          generalize l[k] = c at d hs hw n35' ⊢
          cases d with
          | stop h => rw [hs] at h; cases h
          | skip _ h _ => rw [hw] at h; cases h
          | remark h _ => exact absurd rfl n35'
          | cmd h _ d1 d2 => exact ⟨_, d1, .inl ⟨_, _, _, rfl, d2, rfl⟩⟩
          | cmdE h _ d1 => exact ⟨_, d1, .inr ⟨_, rfl, rfl⟩⟩
        obtain ⟨o1, d1, c⟩ := c
        have hcc : bC w (l.drop k) = false := by
          cases z : bC w (l.drop k) with
          | false => rfl
          | true =>
            rw [e0] at z hw
            have : bW w (l[k] :: l.drop (k + 1)) = true := by
              show (bC w (l[k] :: l.drop (k + 1)) || _) = true
              rw [z]; rfl
            rw [this] at hw
            cases hw
        refine ⟨_, rfl, .inl ⟨rfl, _, SqL.of hd⟩, _, rfl, p, dx2, _, rfl, hp2, rf_no _ _ _ (by decide +kernel) (by decide +kernel) (by decide +kernel), p, l, k, w, o1, rfl, R2, hm, ⟨hcc, d1⟩, ?_⟩
        rcases c with ⟨ts, r', o2, rfl, d2, rfl⟩ | ⟨j, rfl, rfl⟩
        · rintro v j H3 b3 R3 hj hij hv
          have hd3 := b3 _ _ hd nap
          have u3 : Tups H2 H3 := But.tups b3 R2.notup
          have u4 : Tups H3 (upd H3 a (.lst (us ++ [v]))) := Tups.upd fun xs e => by rw [hd3] at e; cases e
          have hj2 := R3.2.1
          refine ⟨a, us, v, rfl, rfl, hd3, ?_, _, meas j (by omega), j, us ++ [v], acc ++ [.n ts], o2, rfl, but_mut (hb.trans b3) ha, rd_upd R3 npa, upd_same, ((hT.mono u3).mono u4).snoc (TrAt.mono u4 (show TrAt H3 v (.n ts) from hv)), by simp; omega, by rw [hj]; exact d2, by rw [eo, Out.app_cons], rfl⟩
          rw [hT.1]
          exact Nat.lt_of_le_of_lt (show _ ≤ 2000 by omega) (by decide)
        · rw [eo] at q
          exact fun d' H' b' h' => q d' H' (hb.trans b') h'
/-- a Reader made -/
def spRdInit (C : Addr) : Sp := fun vs H Q _ => ∃ (p dx : Addr) (l : List Nat), vs = [.ref p, .str (S l)] ∧ H p = some (.ins C dx []) ∧ Q .non (upd (upd (upd H p (.ins C dx [("source", .str (S l))])) p (.ins C dx [("source", .str (S l)), ("at", .int 0)])) p (.ins C dx (rf l 0 0)))
theorem ok_rd_init {f : Addr} {fd : FuncData} (R : RdC K mg C) (F : C8.Fun K "__init__" "Reader.__init__" s_Reader___init__ f fd) (b : Binds K fd ["self", "source"] []) (M : Mk K C f) : Mak P w K mg base 1 "Reader" C (spRdInit C) [] := by
  refine mak0 M R.mgC F b .nil sc_Reader___init__ (fun vs H Q E h => ?_) (fun cdv A outer s H vs Q E hr h => ?_)
  · obtain ⟨p, dx, l, rfl, _⟩ := h
    rfl
  obtain ⟨p, dx, l, rfl, hp, q⟩ := h
  refine ⟨_, pss_cons (ps_fld (pv 0) (pv 1) rfl)
    (pss_cons (ps_fld (pv 0) pe_int rfl)
    (pss_one (ps_fld (pv 0) pe_int rfl))), ?_⟩
  refine ⟨_, rfl, _, rfl, p, C, dx, [], rfl, hp, R.cl, R.nS, (by show 0 < 1000; decide), ?_⟩
  refine ⟨_, rfl, p, C, dx, _, rfl, upd_same, R.cl, R.nA, (by show 1 < 1000; decide), ?_⟩
  refine ⟨_, rfl, p, C, dx, _, rfl, upd_same, R.cl, R.nW, ?_, ?_⟩
  · show (putF "at" (.int 0) [("source", V.str (S l))]).length < 1000
    rw [putF_cons, if_neg nSA]
    show 2 < 1000
    decide
  · have e1 : putF "at" (.int 0) [("source", V.str (S l))] = ([("source", .str (S l)), ("at", .int 0)] : List (Str × V)) := by
      rw [putF_cons, if_neg nSA]; rfl
    have e2 : putF "within" (.int 0) [("source", V.str (S l)), ("at", .int 0)] = rf l 0 0 := by
      rw [putF_cons, if_neg nSW, putF_cons, if_neg nAW]; rfl
    show Q .non (upd (upd (upd H p (.ins C dx [("source", .str (S l))])) p (.ins C dx (putF "at" (.int 0) [("source", V.str (S l))]))) p (.ins C dx (putF "within" (.int 0) (putF "at" (.int 0) [("source", V.str (S l))]))))
    rw [e1, e2]
    exact q
def spParsed (CB : Addr) : Sp := fun vs H Q E => ∃ (l : List Nat) (o : Out), vs = [.str (S l)] ∧ l.length ≤ 1000 ∧ DScr 0 l o ∧
  (match o with
   | .ok ts _ => ∀ (v : V) H', Same H H' → ValL H' v ts → Q v H'
   | .er k => ∀ (d : Addr) H', Same H H' → H' d = some (.xd [("place", .int ((l.length - k : Nat) : Int))]) → E (.ref CB) (some d) H')
theorem ok_parsed {f : Addr} {fd : FuncData} (F : Def K mg "parsed" s_parsed f fd) (b : Binds K fd ["text"] []) (T : Txt mg) (R : RdC K mg C) (c_refuse_long : Cal P w K mg base 1 "refuse_long" spRefuse []) (c_Reader : Mak P w K mg base 1 "Reader" C (spRdInit C) []) (c_read_script : MetX P w K mg base 82 C "read_script" (spScr C CB 13)) : CalX P w K mg base 83 "parsed" (spParsed CB) := by
  refine calX F b sc_parsed (fun vs H Q E h => ?_) (fun cdv A outer s H vs Q E hr h => ?_)
  · obtain ⟨l, o, rfl, _⟩ := h
    rfl
  obtain ⟨l, o, rfl, hl, hD, q⟩ := h
  refine ⟨_, pss_cons (ps_expr (pe_c c_refuse_long hr (by first | decide | assumption | omega) rfl (pa_cons (pv 0) pa_nil)))
    (pss_cons (ps_set (i := 1) sc_parsed.nd rfl (Or.inl rfl) (pe_mk c_Reader hr (by first | decide | assumption | omega) rfl (pa_cons (pv 0) pa_nil)))
    (pss_one (ps_ret (pe_mx0 (E := E) c_read_script hr (by first | decide | assumption | omega) (passes_call (takes_of rfl rfl rfl rfl) (fun _ _ _ _ h => h)) (pv 1))))), ?_⟩
  refine ⟨_, rfl, l, rfl, hl, _, rfl, fun p dx hp hdx npd => ⟨p, dx, l, rfl, upd_same, rfl, ?_⟩⟩
  have s1 : Same H (upd (upd (upd (upd (upd H dx (.own p)) p (.ins C dx [])) p (.ins C dx [("source", .str (S l))])) p (.ins C dx [("source", .str (S l)), ("at", .int 0)])) p (.ins C dx (rf l 0 0))) := fun b o hb => by
    have n1 : b ≠ p := ne_of_none hb hp
    have n2 : b ≠ dx := ne_of_none hb hdx
    rw [upd_ne n1, upd_ne n1, upd_ne n1, upd_ne n1, upd_ne n2]
    exact hb
  have R1 : RdAt C (upd (upd (upd (upd (upd H dx (.own p)) p (.ins C dx [])) p (.ins C dx [("source", .str (S l))])) p (.ins C dx [("source", .str (S l)), ("at", .int 0)])) p (.ins C dx (rf l 0 0))) p l 0 0 := ⟨hl, Nat.zero_le _, dx, upd_same⟩
  generalize upd (upd (upd (upd (upd H dx (.own p)) p (.ins C dx [])) p (.ins C dx [("source", .str (S l))])) p (.ins C dx [("source", .str (S l)), ("at", .int 0)])) p (.ins C dx (rf l 0 0)) = H1 at s1 R1 ⊢
  obtain ⟨_, _, dx1, hp1⟩ := id R1
  have sb : ∀ {H'}, But p H1 H' → Same H H' := fun {H'} b' c o hc => b' c o (s1 c o hc) (ne_of_none hc hp)
  refine ⟨_, rfl, p, dx1, _, rfl, hp1, rf_no _ _ _ (by decide +kernel) (by decide +kernel) (by decide +kernel), p, l, 0, 0, o, rfl, R1, (by show 12 ≤ 0 + 12; decide), hD, ?_⟩
  cases o with
  | ok ts r => exact fun v j H' b' _ _ _ hv => q v H' (sb b') hv
  | er k => exact fun d H' b' h' => q d H' (sb b') h'
end
end My
namespace My
open PySem L2 SX C8
/-- a method of the class at C, without a promise yet -/
def Mf (K : PySem.W.Frag) (C : Addr) (m qual : Str) (st : Stmt) : Prop := ∃ (f : Addr) (fd : FuncData), Meth K C m f ∧ C8.Fun K m qual st f fd ∧ Binds K fd ["self"] []
structure RdM (K : PySem.W.Frag) (C : Addr) : Prop where
  ends_text : Mf K C "ends_text" "Reader.ends_text" s_Reader_ends_text
  ends_script : Mf K C "ends_script" "Reader.ends_script" s_Reader_ends_script
  ends_command : Mf K C "ends_command" "Reader.ends_command" s_Reader_ends_command
  ends_word : Mf K C "ends_word" "Reader.ends_word" s_Reader_ends_word
  read_script : Mf K C "read_script" "Reader.read_script" s_Reader_read_script
  pass_remark : Mf K C "pass_remark" "Reader.pass_remark" s_Reader_pass_remark
  read_command : Mf K C "read_command" "Reader.read_command" s_Reader_read_command
  read_word : Mf K C "read_word" "Reader.read_word" s_Reader_read_word
  read_braced : Mf K C "read_braced" "Reader.read_braced" s_Reader_read_braced
  read_quoted : Mf K C "read_quoted" "Reader.read_quoted" s_Reader_read_quoted
  read_bare : Mf K C "read_bare" "Reader.read_bare" s_Reader_read_bare
  read_piece : Mf K C "read_piece" "Reader.read_piece" s_Reader_read_piece
  read_turned : Mf K C "read_turned" "Reader.read_turned" s_Reader_read_turned
  read_name : Mf K C "read_name" "Reader.read_name" s_Reader_read_name
  read_letters : Mf K C "read_letters" "Reader.read_letters" s_Reader_read_letters
  read_run : Mf K C "read_run" "Reader.read_run" s_Reader_read_run
section
variable {P : Program} {w : World} {K : PySem.W.Frag} {mg : Str → Option Value} {base : Heap} {C CB : Addr}
theorem ok_place_init {f : Addr} {fd : FuncData} (O : OexC K CB) (no : PySem.W.findIn K (.ref CB) "place" = some none) (F : C8.Fun K "__init__" "BadScript.__init__" s_BadScript___init__ f fd) : FnOk P w K mg base C8.CX0 1 f fd ["self", "place"] (spPlace CB) := by
  refine fn0 F sc_BadScript___init__ (fun vs H Q E h => ?_) (fun cdv A outer s H vs Q E hr h => ?_)
  · obtain ⟨a, y, rfl, _⟩ := h
    rfl
  obtain ⟨a, y, rfl, ha, q⟩ := h
  refine ⟨_, pss_one (ps_ost (pv 0) (pv 1)), ?_⟩
  exact ⟨_, rfl, _, rfl, a, CB, rfl, O, no, .inl ⟨ha, fun dx h1 h2 => q dx h1 h2⟩⟩
theorem ok_reader (R : RdC K mg C) (M : RdM K C) (T : Txt mg) (xB : PlaceC P w K mg base "BadScript" CB) (c_pair_end : Cal P w K mg base 1 "pair_end" spPend []) (c_meant : Cal P w K mg base 1 "meant" spMean []) (c_is_letter : Cal P w K mg base 1 "is_letter" spLetter []) (c_is_name : Cal P w K mg base 2 "is_name" spName []) (c_joined : Cal P w K mg base 1 "joined" spJoined []) :
    ∀ n, MetX P w K mg base (4 + 6 * n) C "read_script" (spScr C CB n)
  | 0 => by
    obtain ⟨f, fd, me, F, b⟩ := M.read_script
    exact ⟨f, fd, ["self"], R.cl, me, ⟨fun _ _ _ _ h => h.elim, fun _ _ _ _ _ _ _ _ _ _ _ _ _ h => h.elim⟩, b⟩
  | n + 1 => by
    have c_read_script := ok_reader R M T xB c_pair_end c_meant c_is_letter c_is_name c_joined n
    obtain ⟨_, _, me1, F1, b1⟩ := M.ends_text
    have c_ends_text := ok_ends_text (P := P) (w := w) (base := base) R me1 F1 b1 T
    obtain ⟨_, _, me2, F2, b2⟩ := M.ends_script
    have c_ends_script := ok_ends_script (P := P) (w := w) (base := base) R me2 F2 b2 T c_ends_text
    obtain ⟨_, _, me3, F3, b3⟩ := M.ends_command
    have c_ends_command := ok_ends_command (P := P) (w := w) (base := base) R me3 F3 b3 T c_ends_script
    obtain ⟨_, _, me4, F4, b4⟩ := M.ends_word
    have c_ends_word := ok_ends_word (P := P) (w := w) (base := base) R me4 F4 b4 T c_ends_command
    obtain ⟨_, _, me5, F5, b5⟩ := M.pass_remark
    have c_pass_remark := ok_pass_remark (P := P) (w := w) (base := base) R me5 F5 b5 T c_ends_text
    obtain ⟨_, _, me6, F6, b6⟩ := M.read_letters
    have c_read_letters := okr_read_letters (P := P) (w := w) (base := base) R me6 F6 b6 T c_ends_text c_is_letter
    obtain ⟨_, _, me7, F7, b7⟩ := M.read_turned
    have c_read_turned := okr_read_turned (P := P) (w := w) (base := base) R me7 F7 b7 T xB c_meant n
    obtain ⟨_, _, me8, F8, b8⟩ := M.read_braced
    have c_read_braced := okr_read_braced (P := P) (w := w) (base := base) R me8 F8 b8 T xB c_pair_end n
    obtain ⟨_, _, me9, F9, b9⟩ := M.read_name
    have c_read_name := okr_read_name (P := P) (w := w) (base := base) R me9 F9 b9 T xB c_read_letters c_is_name n
    obtain ⟨_, _, me10, F10, b10⟩ := M.read_run
    have c_read_run := okr_read_run (P := P) (w := w) (base := base) R me10 F10 b10 T xB c_ends_text c_read_script
    obtain ⟨_, _, me11, F11, b11⟩ := M.read_piece
    have c_read_piece := okr_read_piece (P := P) (w := w) (base := base) R me11 F11 b11 T c_read_turned c_read_name c_read_run
    obtain ⟨_, _, me12, F12, b12⟩ := M.read_quoted
    have c_read_quoted := okr_read_quoted (P := P) (w := w) (base := base) R me12 F12 b12 T xB c_ends_text c_read_piece
    obtain ⟨_, _, me13, F13, b13⟩ := M.read_bare
    have c_read_bare := okr_read_bare (P := P) (w := w) (base := base) R me13 F13 b13 T c_ends_word c_read_piece
    obtain ⟨_, _, me14, F14, b14⟩ := M.read_word
    have c_read_word := okr_read_word (P := P) (w := w) (base := base) R me14 F14 b14 T xB c_ends_word c_joined c_read_braced c_read_quoted c_read_bare
    obtain ⟨_, _, me15, F15, b15⟩ := M.read_command
    have c_read_command := okr_read_command (P := P) (w := w) (base := base) R me15 F15 b15 T c_ends_command c_ends_word c_read_word
    obtain ⟨_, _, me16, F16, b16⟩ := M.read_script
    exact okr_read_script (P := P) (w := w) (base := base) R me16 F16 b16 T c_ends_script c_ends_word c_pass_remark c_read_command
end
end My
namespace My
open PySem L2 SX C8
theorem cut63 {xs : List V} (h : xs.length ≤ 63) : cutV xs none (some 63) = xs := by
  unfold cutV
  have e : HT.sIx xs.length xs.length (some 63) = xs.length := by
    have := HT.sIx_nat xs.length xs.length 63
    rw [Nat.min_eq_right h] at this
    exact this
  rw [e, HT.sIx_none]
  simp
section
variable {P : Program} {w : World} {K : PySem.W.Frag} {mg : Str → Option Value} {base : Heap}
theorem ok__law_bag {f : Addr} {fd : FuncData} (F : Def K mg "_law_bag" s__law_bag f fd) (b : Binds K fd ["_law_script"] []) (T : Txt mg) : Cal P w K mg base 1 "_law_bag" (spBag K) [] := by
  refine cal0 F b .nil sc__law_bag (fun vs H Q E h => ?_) (fun cdv A outer s H vs Q E hr h => ?_)
  · obtain ⟨a, ns, rfl, _⟩ := h
    rfl
  obtain ⟨a, ns, rfl, hS, hl, q⟩ := h
  refine ⟨_, pss_cons (ps_set (i := 1) sc__law_bag.nd rfl (Or.inl rfl) pe_int)
    (pss_cons (ps_for PassesOwn.never rfl (pi_list (pe_slice sl_list (pv 0) po_none (po_some pe_int))) (pg_name (i := 2) sc__law_bag.nd rfl (Or.inl rfl))
      (pss_one (ps_set (i := 1) sc__law_bag.nd rfl (Or.inl rfl) (pe_op op_mod (pe_op op_add (pe_op op_add (pe_op op_mul (pv 1) pe_int) (pe_op op_mod (pv 2) pe_int)) pe_int) pe_int))))
    (pss_one (ps_ret (pe_lst (pa_cons (pe_callTy call_list_of (by rfl) T.list (by decide +kernel) (pa_cons (pe_slice sl_list (pv 0) po_none (po_some pe_int)) pa_nil)) (pa_cons pe_int (pa_cons pe_int (pa_cons (pv 1) pa_nil)))))))), ?_⟩
  have hl' : (ns.map V.int).length ≤ 63 := by rw [List.length_map]; exact hl
  refine ⟨_, rfl, _, rfl, a, _, rfl, hS, fun p hp => ?_⟩
  rw [cut63 hl']
  have s1 := same_new hp (HO.lst (ns.map V.int))
  refine ⟨p, rfl, ⟨_, SqL.of upd_same⟩, for_list (K := K) (a := p) (xs := ns.map V.int) (fun i σ H2 => ∃ (z : Int) (v : Option V), σ = [some (.ref a), some (.int z), v] ∧ Same H H2 ∧ H2 p = some (.lst (ns.map V.int)) ∧ 0 ≤ z ∧ z < 2147483647)
      ⟨8968, none, rfl, s1, upd_same, by decide, by decide⟩ (fun i σ H2 _ ⟨_, _, _, _, h, _⟩ => SqL.of h) ?_ ?_⟩
  · rintro i y σ H2 hi ⟨z, v, rfl, s2, h2, hz0, hz1⟩
    obtain ⟨n, rfl⟩ : ∃ n, y = V.int n := by
      rw [List.getElem?_map] at hi
      cases e : ns[i]? with
      | none => rw [e] at hi; cases hi
      | some n => rw [e] at hi; exact ⟨n, (Option.some.inj hi).symm⟩
    refine ⟨_, rfl, _, _, rfl, rfl, .inl ⟨by omega, by omega⟩, _, rfl, _, _, rfl, rfl, (by show (0 : Int) < 2147483629; decide), _, _, rfl, rfl, _, _, rfl, rfl, _, _, rfl, rfl, (by show (0 : Int) < 2147483647; decide), ?_⟩
    exact ⟨_, _, rfl, s2, h2, Int.emod_nonneg _ (by decide), Int.emod_lt_of_pos _ (by decide)⟩
  · rintro σ H2 ⟨z, v, rfl, s2, h2, hz0, hz1⟩
    refine ⟨_, rfl, _, rfl, a, _, rfl, Same.seq s2 hS, fun p2 hp2 => ?_⟩
    rw [cut63 hl']
    have s3 := s2.trans (same_new hp2 (HO.lst (ns.map V.int)))
    refine ⟨p2, _, rfl, .inl (SqL.of upd_same), fun l hl2 => ⟨_, rfl, (by show 4 ≤ sizeLine; decide), fun b2 hb2 => ?_⟩⟩
    have s4 := s3.trans (same_new hl2 (HO.lst (ns.map V.int)))
    have s5 := s4.trans (same_new hb2 (HO.lst [.ref l, .int 0, .int 0, .int z]))
    have nlb : l ≠ b2 := ne_of_none (show (upd (upd H2 p2 (.lst (ns.map V.int))) l (.lst (ns.map V.int))) l = some (.lst (ns.map V.int)) from upd_same) hb2
    exact q b2 l _ s5 (Same.free s4 hb2) ⟨ns, 0, 0, z, upd_same, by rw [upd_ne nlb]; exact upd_same, nlb, hl, Nat.zero_le _, Int.le_refl _, hz0, hz1⟩
end
end My
namespace My
open PySem L2 SX C8
section
variable {P : Program} {w : World} {K : PySem.W.Frag} {mg : Str → Option Value} {base : Heap}
theorem ok__law_pull {f : Addr} {fd : FuncData} (F : Def K mg "_law_pull" s__law_pull f fd) (b : Binds K fd ["_law_bag_here", "_law_amount"] []) (T : Txt mg) : Cal P w K mg base 1 "_law_pull" spPull [] := by
  refine cal0 F b .nil sc__law_pull (fun vs H Q E h => ?_) (fun cdv A outer s H vs Q E hr h => ?_)
  · obtain ⟨a, l, n, rfl, _⟩ := h
    rfl
  obtain ⟨b, l, n, rfl, B, hn0, hn1, q⟩ := h
  obtain ⟨ns, i, cur, salt, hb, hl, nlb, hlen, hi, hc, hs0, hs1⟩ := B.ex
  refine ⟨_, pss_cut (ps_if (PW.pt (pw_and (pt_cmpR op_eq (pe_ix ix_list (pv 0) pe_int (fun _ _ => rfl)) pe_int (nomark _)) (pw_and1 (pt_cmpR op_lt (pe_ix ix_list (pv 0) pe_int (fun _ _ => rfl)) (pe_callB call_len (by rfl) T.len (by decide +kernel) (pa_cons (pe_ix ix_list (pv 0) pe_int (fun _ _ => rfl)) pa_nil)) (nomark _)))))
      (pss_cons (ps_set (i := 2) sc__law_pull.nd rfl (Or.inl rfl) (pe_ix ix_seq (pe_ix ix_list (pv 0) pe_int (fun _ _ => rfl)) (pe_ix ix_list (pv 0) pe_int (fun _ _ => rfl)) (fun _ _ => rfl)))
      (pss_cons (ps_asg (pe_op op_add (pe_ix ix_list (pv 0) pe_int (fun _ _ => rfl)) pe_int) (pg_sub (pv 0) pe_int set_list))
      (pss_one (ps_if (pt_cmpR op_ge (pv 2) (pe_op op_pow pe_int pe_int) (nomark _))
        (pss_one (ps_asg (pv 2) (pg_sub (pv 0) pe_int set_list)))
        (pss_one (ps_asg (pe_op op_mod (pe_op op_add (pe_op op_add (pe_op op_mul (pe_ix ix_list (pv 0) pe_int (fun _ _ => rfl)) pe_int) (pe_op op_mul (pe_op op_mod (pv 2) pe_int) pe_int)) pe_int) pe_int) (pg_sub (pv 0) pe_int set_list)))))))
      (pss_nil))
    (pss_cons (ps_if (pt_cmpR op_gt (pe_ix ix_list (pv 0) pe_int (fun _ _ => rfl)) pe_int (nomark _))
      (pss_cons (ps_set (i := 3) sc__law_pull.nd rfl (Or.inl rfl) (pe_op op_mod (pe_ix ix_list (pv 0) pe_int (fun _ _ => rfl)) (pv 1)))
      (pss_cons (ps_asg (pe_op op_fdiv (pe_ix ix_list (pv 0) pe_int (fun _ _ => rfl)) (pv 1)) (pg_sub (pv 0) pe_int set_list))
      (pss_one (ps_ret (pv 3)))))
      (pss_nil))
    (pss_cons (ps_set (i := 4) sc__law_pull.nd rfl (Or.inl rfl) (pe_ix ix_list (pv 0) pe_int (fun _ _ => rfl)))
    (pss_cons (ps_asg (pe_op op_mod (pe_op op_add (pe_op op_add (pe_op op_mul (pv 4) pe_int) (pe_op op_mul (pe_op op_fdiv (pv 4) pe_int) pe_int)) pe_int) pe_int) (pg_sub (pv 0) pe_int set_list))
    (pss_one (ps_ret (pe_op op_mod (pe_op op_add (pe_op op_fdiv (pe_ix ix_list (pv 0) pe_int (fun _ _ => rfl)) pe_int) (pe_op op_mul (pe_op op_mod (pe_ix ix_list (pv 0) pe_int (fun _ _ => rfl)) pe_int) pe_int)) (pv 1))))))), ?_⟩
  have put : ∀ {H2 : Hp} {o : HO}, H2 l = some (.lst (ns.map V.int)) → (upd H2 b o) l = some (.lst (ns.map V.int)) := fun {H2 o} h => by rw [upd_ne nlb]; exact h
  have e18 : (10 : Int) ^ (18 : Int).toNat = 1000000000000000000 := by decide
  refine ⟨fun σ H2 => ∃ (v : Option V) (i : Nat) (cur salt : Int), σ = [some (.ref b), some (.int n), v, none, none] ∧ But b H H2 ∧ H2 b = some (.lst [.ref l, .int (i : Int), .int cur, .int salt]) ∧ H2 l = some (.lst (ns.map V.int)) ∧ i ≤ ns.length ∧ 0 ≤ cur ∧ 0 ≤ salt ∧ salt < 2147483647, ?_, ?_⟩
  · have same : ∃ (v : Option V) (i : Nat) (cur salt : Int), L2.start N__law_pull [V.ref b, V.int n] = [some (.ref b), some (.int n), v, none, none] ∧ But b H H ∧ H b = some (.lst [.ref l, .int (i : Int), .int cur, .int salt]) ∧ H l = some (.lst (ns.map V.int)) ∧ i ≤ ns.length ∧ 0 ≤ cur ∧ 0 ≤ salt ∧ salt < 2147483647 :=
      ⟨none, i, cur, salt, rfl, But.refl b H, hb, hl, hi, hc, hs0, hs1⟩
    refine ⟨_, rfl, _, _, _, _, rfl, rfl, SqL.of hb, rfl, rfl, _, rfl, iteI (fun e => ?_) (fun _ => iteF same)⟩
    refine ⟨_, rfl, _, _, _, _, rfl, rfl, SqL.of hb, rfl, _, rfl, _, _, _, _, rfl, rfl, SqL.of hb, rfl, _, _, rfl, .inl ⟨_, SqL.of hl, rfl⟩, _, _, rfl, rfl, _, rfl, iteD (fun e2 => ?_) (fun n2 => same)⟩
    have hlt : i < ns.length := by rw [List.length_map] at e2; omega
    have ha : atI (ns.map V.int) (i : Int) = some (.int ns[i]) := atI_nat (by rw [List.getElem?_map, List.getElem?_eq_getElem hlt] <;> rfl)
    refine ⟨_, rfl, _, _, _, _, rfl, rfl, SqL.of hb, rfl, _, rfl, _, _, _, _, rfl, rfl, SqL.of hb, rfl, .inl ⟨_, _, _, _, rfl, rfl, SqL.of hl, ha, ?_⟩⟩
    refine ⟨_, rfl, _, _, _, _, rfl, rfl, SqL.of hb, rfl, _, _, rfl, rfl, _, rfl, _, _, _, _, rfl, rfl, hb, rfl, ?_⟩
    have ei : ((i : Int) + 1) = ((i + 1 : Nat) : Int) := by omega
    refine ⟨_, rfl, _, _, rfl, rfl, ⟨by decide, by decide, by decide⟩, _, _, rfl, rfl, _, rfl, iteD (fun e3 => ?_) (fun n3 => ?_)⟩
    · rw [e18] at e3
      refine ⟨_, rfl, _, rfl, _, _, _, _, rfl, rfl, upd_same, rfl, ?_⟩
      refine ⟨_, i + 1, ns[i], salt, rfl, but_upd (but_upd (But.refl b H)), ?_, put (put hl), by omega, by omega, hs0, hs1⟩
      rw [upd_same, ← ei]
      rfl
    · have m0 : 0 ≤ ns[i] % 2147483629 := Int.emod_nonneg _ (by decide)
      have m1 : ns[i] % 2147483629 < 2147483629 := Int.emod_lt_of_pos _ (by decide)
      refine ⟨_, rfl, _, _, _, _, rfl, rfl, SqL.of upd_same, rfl, _, _, rfl, rfl, .inl ⟨by omega, by omega⟩, _, rfl, _, _, rfl, rfl, (by show (0 : Int) < 2147483629; decide), _, _, rfl, rfl, .inl ⟨by omega, by omega⟩, _, _, rfl, rfl, _, _, rfl, rfl, _, _, rfl, rfl, (by show (0 : Int) < 2147483647; decide), _, rfl, _, _, _, _, rfl, rfl, upd_same, rfl, ?_⟩
      refine ⟨_, i + 1, cur, (salt * 69621 + ns[i] % 2147483629 * 48271 + 5) % 2147483647, rfl, but_upd (but_upd (But.refl b H)), ?_, put (put hl), by omega, hc, Int.emod_nonneg (b := 2147483647) _ (by decide), Int.emod_lt_of_pos (b := 2147483647) _ (by decide)⟩
      rw [upd_same, ← ei]
      rfl
  · rintro σ H2 ⟨v, i2, cur2, salt2, rfl, s2, hb2, hl2, hi2, hc2, h20, h21⟩
    refine ⟨_, rfl, _, _, _, _, rfl, rfl, SqL.of hb2, rfl, _, _, rfl, rfl, _, rfl, iteD (fun e => ?_) (fun _ => ?_)⟩
    · have hq : 0 ≤ cur2 / n := Int.ediv_nonneg hc2 (by omega)
      refine ⟨_, rfl, _, _, _, _, rfl, rfl, SqL.of hb2, rfl, _, rfl, _, _, rfl, rfl, hn0, ?_⟩
      refine ⟨_, rfl, _, _, _, _, rfl, rfl, SqL.of hb2, rfl, _, rfl, _, _, rfl, rfl, ⟨hn0, hn1⟩, _, rfl, _, _, _, _, rfl, rfl, hb2, rfl, _, rfl, ?_⟩
      have m0 : 0 ≤ cur2 % n := Int.emod_nonneg _ (by omega)
      have m1 : cur2 % n < n := Int.emod_lt_of_pos _ hn0
      have em : ((cur2 % n).toNat : Int) = cur2 % n := by omega
      have := q (cur2 % n).toNat (upd H2 b (.lst [.ref l, .int (i2 : Int), .int (cur2 / n), .int salt2])) (by omega) (but_upd s2) ⟨ns, i2, cur2 / n, salt2, upd_same, put hl2, nlb, hlen, hi2, hq, h20, h21⟩
      rw [em] at this
      exact this
    · refine ⟨_, rfl, _, _, _, _, rfl, rfl, SqL.of hb2, rfl, ?_⟩
      have d0 : 0 ≤ salt2 / 127773 := Int.ediv_nonneg h20 (by decide)
      have d1 : salt2 / 127773 ≤ salt2 := Int.ediv_le_self _ h20
      refine ⟨_, rfl, _, _, rfl, rfl, .inl ⟨by omega, by omega⟩, _, rfl, _, _, rfl, rfl, ⟨by decide, by decide⟩, _, _, rfl, rfl, .inl ⟨by omega, by omega⟩, _, _, rfl, rfl, _, _, rfl, rfl, _, _, rfl, rfl, (by show (0 : Int) < 2147483647; decide), _, rfl, _, _, _, _, rfl, rfl, hb2, rfl, ?_⟩
      have z0 : 0 ≤ (salt2 * 39373 + salt2 / 127773 * 31 + 1013904223) % 2147483647 := Int.emod_nonneg _ (by decide)
      have z1 : (salt2 * 39373 + salt2 / 127773 * 31 + 1013904223) % 2147483647 < 2147483647 := Int.emod_lt_of_pos _ (by decide)
      have g0 : 0 ≤ (salt2 * 39373 + salt2 / 127773 * 31 + 1013904223) % 2147483647 % 8191 := Int.emod_nonneg _ (by decide)
      have g1 : (salt2 * 39373 + salt2 / 127773 * 31 + 1013904223) % 2147483647 % 8191 < 8191 := Int.emod_lt_of_pos _ (by decide)
      have goal : ∀ r : Int, 0 ≤ r → r < n → Q (.int r) (upd H2 b (.lst [.ref l, .int (i2 : Int), .int cur2, .int ((salt2 * 39373 + salt2 / 127773 * 31 + 1013904223) % 2147483647)])) := fun r r0 r1 => by
        have er : ((r.toNat : Nat) : Int) = r := Int.toNat_of_nonneg r0
        have := q r.toNat (upd H2 b (.lst [.ref l, .int (i2 : Int), .int cur2, .int ((salt2 * 39373 + salt2 / 127773 * 31 + 1013904223) % 2147483647)])) (by rw [er]; exact r1) (but_upd s2) ⟨ns, i2, cur2, _, upd_same, put hl2, nlb, hlen, hi2, hc2, z0, z1⟩
        rw [er] at this
        exact this
      refine ⟨_, rfl, _, _, _, _, rfl, rfl, SqL.of upd_same, rfl, _, _, rfl, rfl, ⟨by decide, by decide⟩, _, rfl, _, _, _, _, rfl, rfl, SqL.of upd_same, rfl, _, _, rfl, rfl, (by show (0 : Int) < 8191; decide), _, _, rfl, rfl, .inl ⟨Int.lt_of_lt_of_le (by decide) g0, Int.lt_trans g1 (by decide)⟩, _, _, rfl, rfl, _, rfl, _, _, rfl, rfl, hn0, ?_⟩
      exact goal _ (Int.emod_nonneg _ (by omega)) (Int.emod_lt_of_pos _ hn0)
end
end My
namespace My
open PySem L2 SX C8
section
variable {P : Program} {w : World} {K : PySem.W.Frag} {mg : Str → Option Value} {base : Heap}
theorem ok__law_of {f : Addr} {fd : FuncData} (F : Def K mg "_law_of" s__law_of f fd) (b : Binds K fd ["_law_bag_here", "_law_things"] []) (T : Txt mg) (c__law_pull : Cal P w K mg base 1 "_law_pull" spPull []) : Cal P w K mg base 2 "_law_of" (spOf K) [] := by
  refine cal0 F b .nil sc__law_of (fun vs H Q E h => ?_) (fun cdv A outer s H vs Q E hr h => ?_)
  · obtain ⟨a, l, n, rfl, _⟩ := h
    rfl
  obtain ⟨b, l, x, rfl, B, q⟩ := h
  refine ⟨_, pss_one (ps_ret (pe_ix ix_seq (pv 1) (pe_c c__law_pull hr (by first | decide | assumption | omega) rfl (pa_cons (pv 0) (pa_cons (pe_callB call_len (by rfl) T.len (by decide +kernel) (pa_cons (pv 1) pa_nil)) pa_nil))) (fun _ _ => rfl))), ?_⟩
  rcases q with ⟨a, xs, rfl, nlb, hl, h0, h1, q⟩ | ⟨z, rfl, h0, h1, q⟩
  · refine ⟨_, rfl, _, rfl, _, rfl, _, _, rfl, .inl ⟨xs, hl, rfl⟩, b, l, _, rfl, B, by omega, by omega, fun r H' hr' s' B' => ?_⟩
    have hlt : r < xs.length := by omega
    have ha : atI xs (r : Int) = some xs[r] := atI_nat (List.getElem?_eq_getElem hlt)
    exact .inl ⟨_, _, _, _, rfl, rfl, But.seq s' nlb hl, ha, q _ H' (List.getElem_mem hlt) s' B'⟩
  · have hz : (S z).length ≤ sizeLine := size_S (by omega)
    refine ⟨_, rfl, _, rfl, _, rfl, _, _, rfl, ⟨hz, rfl⟩, b, l, _, rfl, B, by rw [S_len]; omega, by rw [S_len]; omega, fun r H' hr' s' B' => ?_⟩
    rw [S_len] at hr'
    have hlt : r < z.length := by omega
    have ha : atI (S z).cps.toList (r : Int) = some z[r] := atI_nat (List.getElem?_eq_getElem hlt)
    exact .inr (.inr ⟨_, _, _, rfl, rfl, hz, ha, q _ H' (List.getElem_mem hlt) s' B'⟩)
end
end My
namespace My
open PySem L2 SX C8
theorem abc_lits : ∀ v ∈ ([V.str (Str.ofString "ab"), .str (Str.ofString " a{}"), .str (Str.ofString "\\\n n"), .str (Str.ofString "{}"), .str (Str.ofString "x\"$[];#"), .str (Str.ofString "Az09_-+!~"), .str (Str.ofString "abc \n\\{}\"$[];#")] : List V),
    ∃ z : List Nat, v = .str (S z) ∧ 0 < z.length ∧ z.length ≤ 1000 ∧ ∀ c ∈ z, c ∈ abc := by
  have e1 : (Str.ofString "ab") = S [97, 98] := by decide +kernel
  have e2 : (Str.ofString " a{}") = S [32, 97, 123, 125] := by decide +kernel
  have e3 : (Str.ofString "\\\n n") = S [92, 10, 32, 110] := by decide +kernel
  have e4 : (Str.ofString "{}") = S [123, 125] := by decide +kernel
  have e5 : (Str.ofString "x\"$[];#") = S [120, 34, 36, 91, 93, 59, 35] := by decide +kernel
  have e6 : (Str.ofString "Az09_-+!~") = S [65, 122, 48, 57, 95, 45, 43, 33, 126] := by decide +kernel
  have e7 : (Str.ofString "abc \n\\{}\"$[];#") = S [97, 98, 99, 32, 10, 92, 123, 125, 34, 36, 91, 93, 59, 35] := by decide +kernel
  rw [e1, e2, e3, e4, e5, e6, e7]
  intro v hv
  simp only [List.mem_cons, List.not_mem_nil, or_false] at hv
  rcases hv with rfl | rfl | rfl | rfl | rfl | rfl | rfl
  all_goals exact ⟨_, rfl, by decide, by decide, by decide⟩
section
variable {P : Program} {w : World} {K : PySem.W.Frag} {mg : Str → Option Value} {base : Heap}
theorem ok__law_text {f : Addr} {fd : FuncData} (F : Def K mg "_law_text" s__law_text f fd) (b : Binds K fd ["_law_bag_here", "_law_top"] []) (T : Txt mg) (c__law_pull : Cal P w K mg base 1 "_law_pull" spPull []) (c__law_of : Cal P w K mg base 2 "_law_of" (spOf K) []) : Cal P w K mg base 3 "_law_text" spText [] := by
  refine cal0 F b .nil sc__law_text (fun vs H Q E h => ?_) (fun cdv A outer s H vs Q E hr h => ?_)
  · obtain ⟨a, l, n, rfl, _⟩ := h
    rfl
  obtain ⟨b, l, n, rfl, B, hn, q⟩ := h
  refine ⟨_, pss_cons (ps_set (i := 2) sc__law_text.nd rfl (Or.inr rfl) (pe_c c__law_of hr (by first | decide | assumption | omega) rfl (pa_cons (pv 0) (pa_cons (pe_lst (pa_cons pe_str (pa_cons pe_str (pa_cons pe_str (pa_cons pe_str (pa_cons pe_str (pa_cons pe_str (pa_cons pe_str pa_nil)))))))) pa_nil))))
    (pss_one (ps_ret (pe_join pe_str (pe_lc (own := [("_law_k", 3)]) (g := gName 3) (by rfl) sc__law_text.nd (pi_range1 rfl T.range (pa_cons (pe_c c__law_pull hr (by first | decide | assumption | omega) rfl (pa_cons (pv 0) (pa_cons (pe_op op_add (pv 1) pe_int) pa_nil))) pa_nil)) (blkOk_by (own := [("_law_k", 3)]) (N := N__law_text) (sc := fnScope s__law_text) (by decide +kernel)) (fun _ _ _ _ _ => pg_name (i := 3) sc__law_text.nd rfl (Or.inl rfl)) (fun _ _ _ _ _ => pts_nil) (fun _ _ _ _ _ => (pe_c c__law_of hr (by first | decide | assumption | omega) rfl (pa_cons (pv 0) (pa_cons (pv 2) pa_nil)))))))), ?_⟩
  refine ⟨_, rfl, (by show 7 ≤ sizeLine; decide), fun p hp => ?_⟩
  have npb : p ≠ b := (B.nb hp).symm
  have s1 := same_new hp (HO.lst [.str (Str.ofString "ab"), .str (Str.ofString " a{}"), .str (Str.ofString "\\\n n"), .str (Str.ofString "{}"), .str (Str.ofString "x\"$[];#"), .str (Str.ofString "Az09_-+!~"), .str (Str.ofString "abc \n\\{}\"$[];#")])
  refine ⟨b, l, _, rfl, B.mono s1, .inl ⟨p, _, rfl, npb, SqL.of upd_same, by show 0 < 7; decide, by show 7 ≤ 1000; decide, fun v H1 hv b1 B1 => ?_⟩⟩
  obtain ⟨z, rfl, z0, z1, z2⟩ := abc_lits v hv
  refine ⟨⟨_, rfl⟩, _, rfl, _, rfl, _, _, rfl, rfl, b, l, _, rfl, B1, by omega, by omega, fun m H2 hm b2 B2 => ⟨_, rfl, by omega, by omega, fun D hD => ?_⟩⟩
  have nbD := B2.nb hD
  have nlD := B2.nl hD
  refine lc_range (lo := 0) (n := (m : Int).toNat) (fun i H3 => But b H2 H3 ∧ BagAt H3 b l ∧ ∃ cs : List Nat, cs.length = i ∧ (∀ c ∈ cs, c ∈ abc) ∧ H3 D = some (.lst ((cs.map fun c => S [c]).map V.str))) ⟨Same.but (same_new hD _), B2.mono (same_new hD _), [], rfl, by simp, upd_same⟩ ?_ ?_
  · rintro i H3 hi ⟨b3, B3, cs, hc1, hc2, hd⟩
    refine ⟨rfl, _, rfl, _, rfl, b, l, _, rfl, B3, .inr ⟨z, rfl, z0, z1, fun c H4 hc b4 B4 => ?_⟩⟩
    have hd4 := b4 _ _ hd nbD.symm
    refine ⟨_, hd4, ?_, ?_, ?_, cs ++ [c], by simp [hc1], ?_, ?_⟩
    · rw [List.length_map, List.length_map, hc1]
      exact Nat.lt_of_lt_of_le (show i < 2000 by omega) (by decide)
    · exact but_mut (b3.trans b4) hD
    · exact B4.upd nbD nlD
    · intro c' hc'
      rcases List.mem_append.mp hc' with h | h
      · exact hc2 c' h
      · rw [List.mem_singleton.mp h]; exact z2 c hc
    · rw [upd_same]
      simp
  · rintro H3 ⟨b3, B3, cs, hc1, hc2, hd⟩
    have em : (cs.map fun c => S [c]) = (cs.map fun c => [c]).map S := by rw [List.map_map] <;> rfl
    have ef : (cs.map fun c => [c]).flatten = cs := by
      clear hc1 hc2 hd em
      induction cs with
      | nil => rfl
      | cons c r ih => simp only [List.map_cons, List.flatten_cons, ih]; rfl
    refine ⟨_, D, cs.map fun c => S [c], rfl, rfl, .inl (SqL.of hd), ?_, ?_⟩
    · rw [lit_e]
      have e0 : (S ([] : List Nat)).length = 0 := rfl
      have e1 : ((cs.map fun c => S [c]).map (·.length)).sum = cs.length := by
        clear hc1 hc2 hd em ef
        induction cs with
        | nil => rfl
        | cons c r ih => simp only [List.map_cons, List.sum_cons, ih, List.length_cons]; rw [S_len]; simp; omega
      rw [e0, Nat.mul_zero, e1, hc1]
      omega
    · rw [em, join0 lit_e, ef]
      exact q cs H3 (by omega) hc2 (((Same.but s1).trans b1).trans (b2.trans b3)) B3
end
end My
namespace My
open PySem L2 SX C8
section
variable {P : Program} {w : World} {K : PySem.W.Frag} {mg : Str → Option Value} {base : Heap}
theorem ok__law_turned {f : Addr} {fd : FuncData} (F : Def K mg "_law_turned" s__law_turned f fd) (b : Binds K fd ["_law_text_here"] []) (T : Txt mg) : Cal P w K mg base 1 "_law_turned" spLturned [] := by
  refine cal0 F b .nil sc__law_turned (fun vs H Q E h => ?_) (fun cdv A outer s H vs Q E hr h => ?_)
  · obtain ⟨l, rfl, _⟩ := h
    rfl
  obtain ⟨l, rfl, hl, q⟩ := h
  refine ⟨_, pss_cons (ps_set (i := 1) sc__law_turned.nd rfl (Or.inl rfl) pe_str)
    (pss_cons (ps_for PassesOwn.never rfl (pi_str (pv 0)) (pg_name (i := 2) sc__law_turned.nd rfl (Or.inl rfl))
      (pss_one (ps_if (pt_cmpR op_eq (pv 2) pe_str (nomark _))
        (pss_one (ps_set (i := 1) sc__law_turned.nd rfl (Or.inl rfl) (pe_op op_add_str (pv 1) pe_str)))
        (pss_one (ps_set (i := 1) sc__law_turned.nd rfl (Or.inl rfl) (pe_op op_add_str (pe_op op_add_str (pv 1) (pe_ifExp (pt_cmpR op_in_sign (pv 2) pe_str rfl) pe_str pe_str)) (pv 2)))))))
    (pss_one (ps_ret (pv 1)))), ?_⟩
  have len2 : ∀ i, (turn (l.take i)).length ≤ 80000 := fun i => by
    have := turn_len (l.take i)
    rw [List.length_take] at this
    omega
  refine ⟨_, rfl, _, rfl, for_it walk_str (fun i σ H2 => ∃ v, σ = [some (.str (S l)), some (.str (S (turn (l.take i)))), v] ∧ H2 = H) ⟨none, by rw [lit_e] <;> rfl, rfl⟩ (fun _ _ _ _ _ => trivial) ?_ ?_⟩
  · rintro i x σ H2 H3 hi ⟨v, rfl, rfl⟩ ⟨rfl, c, hc, rfl⟩
    have hc' : l[i]? = some c := by
      have : (S l).cps.toList[i]? = some c := by rw [Array.getElem?_toList]; exact hc
      exact this
    have et : turn (l.take (i + 1)) = turn (l.take i) ++ tsig c := by
      rw [List.take_add_one, hc']
      exact turn_snoc _ _
    have li := len2 i
    have big : ∀ {m : List Nat} {n : Nat}, m.length ≤ 80010 → n ≤ 100 → (S m).length + n ≤ sizeLine := fun {m n} h1 h2 => by
      rw [S_len]; exact Nat.le_trans (show _ ≤ 100000 by omega) (by decide)
    refine ⟨_, rfl, rfl, _, rfl, ite_S lit_nl (fun e1 => ?_) (fun n1 => ?_)⟩
    · have e1' : c = 10 := List.head_eq_of_cons_eq e1
      refine ⟨_, rfl, _, _, rfl, rfl, big (by omega) (by rw [lit_bsn]; decide), some (V.str (S [c])), ?_, rfl⟩
      rw [et, lit_bsn, S_cat, e1'] <;> rfl
    · have n1' : ¬ c = 10 := fun q => n1 (by rw [q])
      refine ⟨_, rfl, _, rfl, c, _, rfl, rfl, _, rfl, ?_⟩
      rw [lit_spec]
      refine iteD (fun e2 => ?_) (fun n2 => ?_)
      · refine ⟨_, _, rfl, rfl, big (by omega) (by rw [lit_bs]; decide), _, rfl, _, _, rfl, rfl, ?_, some (V.str (S [c])), ?_, rfl⟩
        · rw [lit_bs, S_cat]; exact big (by simp; omega) (by rw [S_len]; show 1 ≤ 100; decide)
        · have e2' : c ∈ specL := e2
          have e3 : tsig c = [92, c] := by unfold tsig; rw [if_neg n1', if_pos e2']
          rw [et, lit_bs, S_cat, S_cat, e3, List.append_assoc] <;> rfl
      · refine ⟨_, _, rfl, rfl, big (by omega) (by rw [lit_e]; decide), _, rfl, _, _, rfl, rfl, ?_, some (V.str (S [c])), ?_, rfl⟩
        · rw [lit_e, S_cat]; exact big (by simp; omega) (by rw [S_len]; show 1 ≤ 100; decide)
        · have n2' : ¬ c ∈ specL := n2
          have e3 : tsig c = [c] := by unfold tsig; rw [if_neg n1', if_neg n2']
          rw [et, lit_e, S_cat, S_cat, e3, List.append_nil] <;> rfl
  · rintro σ H2 ⟨v, rfl, rfl⟩
    refine ⟨_, rfl, ?_⟩
    have hz : (S l).cps.size = l.length := S_len l
    rw [hz, List.take_length]
    exact q
end
end My
namespace My
open PySem L2 SX C8
section
variable {P : Program} {w : World} {K : PySem.W.Frag} {mg : Str → Option Value} {base : Heap}
theorem ok__law_pairs {f : Addr} {fd : FuncData} (F : Def K mg "_law_pairs" s__law_pairs f fd) (b : Binds K fd ["_law_text_here"] []) (T : Txt mg) : Cal P w K mg base 1 "_law_pairs" spLpairs [] := by
  refine cal0 F b .nil sc__law_pairs (fun vs H Q E h => ?_) (fun cdv A outer s H vs Q E hr h => ?_)
  · obtain ⟨l, rfl, _⟩ := h
    rfl
  obtain ⟨l, rfl, hl, q⟩ := h
  refine ⟨_, pss_cons (ps_setLc (i := 1) (own := [("_law_at", 2)]) (g := gName 2) (by rfl) sc__law_pairs.nd rfl rfl (sw_true rfl rfl rfl (by decide +kernel)) (pi_range1 rfl T.range (pa_cons (pe_op op_add (pe_callB call_len (by rfl) T.len (by decide +kernel) (pa_cons (pv 0) pa_nil)) pe_int) pa_nil)) (blkOk_by (own := [("_law_at", 2)]) (N := N__law_pairs) (sc := fnScope s__law_pairs) (by decide +kernel)) (fun _ _ _ _ _ => pg_name (i := 2) sc__law_pairs.nd rfl (Or.inl rfl)) (fun _ _ _ _ _ => pts_nil) (fun _ _ _ _ _ => (pe_op op_sub (pe_m1 PySem.F.slot_str_count PySem.F.type_str_count mt_count (pe_slice sl_str (pv 0) po_none (po_some (pv 2))) pe_str) (pe_m1 PySem.F.slot_str_count PySem.F.type_str_count mt_count (pe_slice sl_str (pv 0) po_none (po_some (pv 2))) pe_str))))
    (pss_one (ps_ret (pe_and (pe_cmpR op_eq (pe_callB (cr_min rfl) (by rfl) T.min (by decide +kernel) (pa_cons (pv 1) pa_nil)) pe_int (nomark _)) (pe_one (pe_cmpR op_eq (pe_ix ix_list (pv 1) (pe_un un_neg pe_int) (fun _ _ => rfl)) pe_int (nomark _)))))), ?_⟩
  have hz : (S l).length ≤ sizeLine := size_S (by omega)
  have hn : (((S l).length : Int) + 1).toNat = l.length + 1 := by rw [S_len]; omega
  refine ⟨_, rfl, _, _, rfl, ⟨hz, rfl⟩, _, _, rfl, rfl, _, rfl, by rw [S_len]; omega, by rw [S_len]; omega, fun D hD => ?_⟩
  rw [hn]
  refine lc_range (lo := 0) (n := l.length + 1) (fun i H2 => Same H H2 ∧ H2 D = some (.lst (((List.range i).map fun j => dep (l.take j)).map V.int))) ⟨same_new hD _, upd_same⟩ ?_ ?_
  · rintro i H2 hi ⟨hs, hd⟩
    have e0 : (0 : Int) + (i : Int) = (i : Int) := Int.zero_add _
    rw [e0]
    refine ⟨rfl, _, rfl, _, rfl, _, rfl, _, rfl, hz, ⟨_, rfl⟩, _, _, rfl, rfl, _, rfl, _, rfl, _, rfl, _, rfl, hz, ⟨_, rfl⟩, _, _, rfl, rfl, _, _, rfl, rfl, _, hd, ?_, same_mut hs hD, ?_⟩
    · rw [List.length_map, List.length_map, List.length_range]
      exact Nat.lt_of_le_of_lt (show _ ≤ 50000 by omega) (by decide)
    · rw [upd_same, slice_0n l i (by omega), lit_ob, lit_cb, cnt_is, cnt_is, List.range_succ]
      simp
      rfl
  · rintro H2 ⟨hs, hd⟩
    refine ⟨_, rfl, D, _, rfl, SqL.of hd, by simp, fun m hm hle => ?_⟩
    have hmin : m = 0 ↔ ∀ i, i ≤ l.length → 0 ≤ dep (l.take i) := by
      constructor
      · intro e i hi
        have := hle (dep (l.take i)) (List.mem_map.mpr ⟨i, List.mem_range.mpr (by omega), rfl⟩)
        omega
      · intro h
        obtain ⟨i, hi, e⟩ := List.mem_map.mp hm
        have h1 := h i (by have := List.mem_range.mp hi; omega)
        have h2 := hle 0 (List.mem_map.mpr ⟨0, List.mem_range.mpr (by omega), by simp [dep_nil]⟩)
        omega
    have hp := pairs_iff l
    refine ⟨rfl, _, rfl, iteI (fun e => ?_) (fun n => ?_)⟩
    · have hlast : atI (((List.range (l.length + 1)).map fun j => dep (l.take j)).map V.int) (-1) = some (V.int (dep l)) := by
        rw [List.range_succ, List.map_append, List.map_append]
        have := atI_last (((List.range l.length).map fun j => dep (l.take j)).map V.int) (V.int (dep l))
        simpa using this
      refine ⟨_, rfl, _, rfl, _, _, _, _, rfl, rfl, SqL.of hd, hlast, rfl, ?_⟩
      have e2 : decide (V.int (dep l) = V.int 0) = Pairs l := by
        rw [dec_int]
        cases hq : Pairs l with
        | true => exact beq_iff_eq.mpr (hp.mp hq).2
        | false =>
          refine beq_eq_false_iff_ne.mpr fun z => ?_
          rw [hp.mpr ⟨hmin.mp e, z⟩] at hq
          cases hq
      rw [e2]
      exact q H2 hs
    · have e2 : Pairs l = false := by
        cases hq : Pairs l with
        | true => exact absurd (hmin.mpr (hp.mp hq).1) n
        | false => rfl
      have := q H2 hs
      rw [e2] at this
      exact this
end
end My
namespace My
open PySem L2 SX C8
def spBareT : Sp := fun vs H Q _ => ∃ (w : List Nat), vs = [.str (S w)] ∧ ∀ (v : V) H', Same H H' → TrAt H' v (.n (bareT w)) → Q v H'
section
variable {P : Program} {w : World} {K : PySem.W.Frag} {mg : Str → Option Value} {base : Heap}
theorem ok__law_bare {f : Addr} {fd : FuncData} (F : Def K mg "_law_bare" s__law_bare f fd) (b : Binds K fd ["_law_text_here"] []) (T : Txt mg) : Cal P w K mg base 1 "_law_bare" spBareT [] := by
  refine cal0 F b .nil sc__law_bare (fun vs H Q E h => ?_) (fun cdv A outer s H vs Q E hr h => ?_)
  · obtain ⟨w, rfl, _⟩ := h
    rfl
  obtain ⟨w, rfl, q⟩ := h
  refine ⟨_, pss_one (ps_ret (pe_ifExp (pt_cmpR op_ne (pv 0) pe_str (nomark _)) (pe_tup (pa_cons (pe_tup (pa_cons pe_str (pa_cons (pv 0) pa_nil))) pa_nil)) (pe_tup pa_nil))), ?_⟩
  refine ⟨_, rfl, rfl, _, rfl, My.iteNS lit_e (fun n0 => ?_) (fun e0 => ?_)⟩
  · refine ⟨_, rfl, (by show 2 ≤ sizeLine; decide), fun p hp => ⟨(by show 1 ≤ sizeLine; decide), fun r hr2 => ?_⟩⟩
    have npr : p ≠ r := ne_of_none (show (upd H p (.tup [.str (Str.ofString "text"), .str (S w)])) p = some (.tup [.str (Str.ofString "text"), .str (S w)]) from upd_same) hr2
    refine q _ _ ((same_new hp (HO.tup [.str (Str.ofString "text"), .str (S w)])).trans (same_new hr2 (HO.tup [.ref p]))) ?_
    have eb : bareT w = [tx w] := by unfold bareT; rw [if_neg n0]
    rw [eb]
    refine TrsAt.tup upd_same (TrsAt.snoc (TrsAt.nil _) (TrsAt.tup (vs := [.str (Str.ofString "text"), .str (S w)]) (by rw [upd_ne npr, upd_same]) ?_))
    rw [lit_text]
    exact TrsAt.snoc (TrsAt.snoc (TrsAt.nil _) (.s _)) (.s _)
  · refine ⟨(by show 0 ≤ sizeLine; decide), fun r hr2 => ?_⟩
    refine q _ _ (same_new hr2 (HO.tup [])) ?_
    rw [e0]
    exact TrsAt.tup upd_same (TrsAt.nil _)
end
end My
namespace My
open PySem L2 SX C8
def sgs (ss : List Nat) : List V := ss.map fun c => V.str (S [c])
def spAllW (K : PySem.W.Frag) : Sp := fun vs H Q _ => ∃ (a : Addr) (ss : List Nat), vs = [.ref a] ∧ SqL K H a (sgs ss) ∧ ss.length = 5 ∧ ∀ (p : Addr) H', Same H H' → H p = none → H' p = some (.lst (txs (allW ss 3))) → Q (.ref p) H'
theorem S_sign (w : List Nat) (c : Nat) : V.str (S w ++ S [c]) = V.str (S (w ++ [c])) := by rw [S_cat]
section
variable {P : Program} {w : World} {K : PySem.W.Frag} {mg : Str → Option Value} {base : Heap}
theorem ok__law_all_words {f : Addr} {fd : FuncData} (F : Def K mg "_law_all_words" s__law_all_words f fd) (b : Binds K fd ["_law_signs"] []) (T : Txt mg) : Cal P w K mg base 1 "_law_all_words" (spAllW K) [] := by
  refine cal0 F b .nil sc__law_all_words (fun vs H Q E h => ?_) (fun cdv A outer s H vs Q E hr h => ?_)
  · obtain ⟨a, ss, rfl, _⟩ := h
    rfl
  obtain ⟨a, ss, rfl, hS, h5, q⟩ := h
  refine ⟨_, pss_cons (ps_par (i := 1) (j := 2) rfl sc__law_all_words.nd rfl rfl (by decide) rfl rfl (pa_cons (pe_lst (pa_cons pe_str pa_nil)) (pa_cons (pe_lst (pa_cons pe_str pa_nil)) pa_nil)) rfl)
    (pss_cons (ps_for PassesOwn.never rfl (pi_range1 rfl T.range (pa_cons pe_int pa_nil)) (pg_name (i := 3) sc__law_all_words.nd rfl (Or.inl rfl))
      (pss_cons (ps_set (i := 4) sc__law_all_words.nd rfl (Or.inl rfl) (pe_lst pa_nil))
      (pss_cons (ps_for PassesOwn.never rfl (pi_list (pv 2)) (pg_name (i := 5) sc__law_all_words.nd rfl (Or.inr rfl))
        (pss_one (ps_set (i := 4) sc__law_all_words.nd rfl (Or.inl rfl) (pe_op op_cat (pv 4) (pe_lc (own := [("_law_sign", 6)]) (g := gName 6) (by rfl) sc__law_all_words.nd (pi_list (pv 0)) (blkOk_by (own := [("_law_sign", 6)]) (N := N__law_all_words) (sc := fnScope s__law_all_words) (by decide +kernel)) (fun _ _ _ _ _ => pg_name (i := 6) sc__law_all_words.nd rfl (Or.inl rfl)) (fun _ _ _ _ _ => pts_nil) (fun _ _ _ _ _ => (pe_op op_add_str (pv 5) (pv 6))))))))
      (pss_one (ps_par (i := 1) (j := 2) rfl sc__law_all_words.nd rfl rfl (by decide) rfl rfl (pa_cons (pe_op op_cat (pv 1) (pv 4)) (pa_cons (pv 4) pa_nil)) rfl)))))
    (pss_one (ps_ret (pv 1)))), ?_⟩
  refine ⟨(by show 1 ≤ sizeLine; decide), fun p hp => ⟨(by show 1 ≤ sizeLine; decide), fun p2 hp2 => ⟨_, _, rfl, ?_⟩⟩⟩
  rw [lit_e]
  rw [lit_e] at hp2
  have s1 := same_new hp (HO.lst [.str (S [])])
  have s2 := s1.trans (same_new hp2 (HO.lst [.str (S [])]))
  have npp : p ≠ p2 := ne_of_none (show (upd H p (.lst [.str (S [])])) p = some (.lst [.str (S [])]) from upd_same) hp2
  refine ⟨3, rfl, by decide, by decide, for_range (n := 3) (fun i σ H2 => ∃ (x y : Addr) (v3 v4 v5 : Option V), σ = [some (.ref a), some (.ref x), some (.ref y), v3, v4, v5, none] ∧ Same H H2 ∧ H x = none ∧ H2 x = some (.lst (txs (allW ss i))) ∧ H2 y = some (.lst (txs (lev ss i)))) ⟨p, p2, none, none, none, rfl, s2, hp, by rw [upd_ne npp, upd_same]; rfl, by rw [upd_same]; rfl⟩ ?_ ?_⟩
  · rintro i σ H2 hi ⟨x, y, v3, v4, v5, rfl, s2, hx0, hx, hy⟩
    have hcnt : (lev ss i).length ≤ 25 := by
      rw [lev_count, h5]
      have : i = 0 ∨ i = 1 ∨ i = 2 := by omega
      rcases this with rfl | rfl | rfl <;> decide
    refine ⟨(by show 0 ≤ sizeLine; decide), fun z hz => ?_⟩
    have s3 := same_new hz (HO.lst [])
    refine ⟨_, rfl, y, rfl, ⟨_, SqL.of (s3 _ _ hy)⟩, for_list (K := K) (a := y) (xs := txs (lev ss i)) (fun j σ H3 => ∃ (z2 : Addr) (v5 : Option V), σ = [some (.ref a), some (.ref x), some (.ref y), some (.int (0 + (i : Int))), some (.ref z2), v5, none] ∧ Same H2 H3 ∧ H2 z2 = none ∧ H3 z2 = some (.lst (txs (step1 ss ((lev ss i).take j))))) ⟨z, v5, rfl, s3, hz, by rw [upd_same]; rfl⟩ (fun j σ H3 _ ⟨_, _, _, s, _⟩ => SqL.of (s _ _ hy)) ?_ ?_⟩
    · rintro j u σ H3 hj ⟨z2, w5, rfl, s4, hz2, hd⟩
      obtain ⟨wd, hwd, rfl⟩ : ∃ wd, (lev ss i)[j]? = some wd ∧ u = V.str (S wd) := by
        unfold txs at hj
        rw [List.getElem?_map] at hj
        cases e : (lev ss i)[j]? with
        | none => rw [e] at hj; cases hj
        | some wd => rw [e] at hj; exact ⟨wd, rfl, (Option.some.inj hj).symm⟩
      have hwl := (lev_len ss i wd (List.mem_of_getElem? hwd)).1
      refine ⟨_, rfl, _, rfl, a, rfl, ⟨_, Same.seq (s2.trans s4) hS⟩, fun D hD => ?_⟩
      refine lc_list (K := K) (a := a) (xs := sgs ss) (fun k H4 => Same H3 H4 ∧ H4 D = some (.lst (txs ((ss.take k).map fun c => wd ++ [c])))) ⟨same_new hD _, upd_same⟩ (fun _ _ _ h => Same.seq ((s2.trans s4).trans h.1) hS) ?_ ?_
      · rintro k v H4 hk ⟨s5, hD4⟩
        obtain ⟨c, hc, rfl⟩ : ∃ c, ss[k]? = some c ∧ v = V.str (S [c]) := by
          unfold sgs at hk
          rw [List.getElem?_map] at hk
          cases e : ss[k]? with
          | none => rw [e] at hk; cases hk
          | some c => rw [e] at hk; exact ⟨c, rfl, (Option.some.inj hk).symm⟩
        refine ⟨rfl, _, rfl, _, rfl, _, _, rfl, rfl, (by rw [S_len, S_len, sizeLine_eq]; show _ + 1 ≤ _; omega), _, hD4, ?_, ?_, ?_⟩
        · rw [txs_len, List.length_map, List.length_take]
          exact Nat.lt_of_le_of_lt (show _ ≤ 5 by omega) (by decide)
        · exact same_mut s5 hD
        · rw [S_cat, upd_same, List.take_add_one, hc]
          simp [txs]
      · rintro H4 ⟨s5, hD4⟩
        have e5 : (sgs ss).length = ss.length := by unfold sgs; rw [List.length_map]
        rw [e5, List.take_length] at hD4
        have hle : (step1 ss ((lev ss i).take j)).length ≤ 125 := by
          have : ∀ l : List (List Nat), (step1 ss l).length = l.length * ss.length := fun l => by
            unfold step1
            induction l with
            | nil => simp
            | cons a r ih => rw [List.flatMap_cons, List.length_append, ih, List.length_map, List.length_cons, Nat.succ_mul, Nat.add_comm]
          rw [this, h5, List.length_take]
          omega
        refine ⟨z2, D, _, _, rfl, rfl, s5 _ _ hd, hD4, ?_, fun z3 hz3 => ?_⟩
        · rw [txs_len, txs_len, List.length_map, sizeLine_eq]
          omega
        · refine ⟨z3, _, rfl, (s4.trans s5).trans (same_new hz3 _), ?_, ?_⟩
          · have hz3' : H4 z3 = none := hz3
            cases e : H2 z3 with
            | none => rfl
            | some o => rw [(s4.trans s5) _ _ e] at hz3'; cases hz3'
          · rw [upd_same, List.take_add_one, hwd]
            simp [txs, step1]
    · rintro σ H3 ⟨z2, w5, rfl, s4, hz2, hd⟩
      rw [txs_len, List.take_length] at hd
      refine ⟨_, rfl, _, rfl, x, z2, _, _, rfl, rfl, s4 _ _ hx, hd, ?_, fun x2 hx2 => ?_⟩
      · rw [txs_len, txs_len, sizeLine_eq]
        have : (allW ss i).length ≤ 31 := by
          have : i = 0 ∨ i = 1 ∨ i = 2 := by omega
          rcases this with rfl | rfl | rfl
          · exact (by decide : 1 ≤ 31)
          · show ([[]] ++ lev ss 1).length ≤ 31
            rw [List.length_append, lev_count, h5]
            decide
          · show (([[]] ++ lev ss 1) ++ lev ss 2).length ≤ 31
            rw [List.length_append, List.length_append, lev_count, lev_count, h5]
            decide
        have h2 : (step1 ss (lev ss i)).length = (lev ss (i + 1)).length := rfl
        rw [h2, lev_count, h5]
        have : i = 0 ∨ i = 1 ∨ i = 2 := by omega
        rcases this with rfl | rfl | rfl
        · have : 5 ^ (0 + 1) = 5 := by decide
          omega
        · have : 5 ^ (1 + 1) = 25 := by decide
          omega
        · have : 5 ^ (2 + 1) = 125 := by decide
          omega
      · have s5 := s4.trans (same_new hx2 (HO.lst (txs (allW ss i) ++ txs (step1 ss (lev ss i)))))
        have nz : z2 ≠ x2 := ne_of_none hd hx2
        refine ⟨_, rfl, _, _, rfl, x2, z2, _, _, _, rfl, s2.trans s5, ?_, ?_, ?_⟩
        · cases e : H x2 with
          | none => rfl
          | some o => rw [(s2.trans s4) _ _ e] at hx2; cases hx2
        · rw [upd_same]
          show _ = some (HO.lst (txs (allW ss i ++ lev ss (i + 1))))
          unfold txs
          rw [List.map_append]
          rfl
        · rw [upd_ne nz]
          exact hd
  · rintro σ H2 ⟨x, y, v3, v4, v5, rfl, s2, hx0, hx, hy⟩
    exact ⟨_, rfl, q x H2 s2 hx0 hx⟩
end
end My
namespace My
open PySem L2 SX C8
def pool0 : List Nat := [32, 10, 92, 123, 125, 34, 36, 91, 93, 59, 35, 97, 110, 90, 48, 45, 126]
theorem lit_pool : (Str.ofString " \n\\{}\"$[];#anZ0-~") = S pool0 := by decide +kernel
theorem nodup_pool : pool0.Nodup := by decide
def okc (w : List Nat) : Prop := ∀ c ∈ w, c < 1114112
theorem ok_sgn {w : List Nat} (h : okc w) : PyData.canLay0 (.str (S w)) = true := by
  show PyData.strOk (S w) = true
  unfold PyData.strOk
  rw [← Array.all_toList]
  exact List.all_eq_true.mpr fun c hc => decide_eq_true (h c hc)
theorem lay_O : ∀ ws : List (List Nat), (∀ w ∈ ws, okc w) → PyData.canLayAll0 (ws.map fun w => PyData.str (S w)) = true
  | [], _ => rfl
  | w :: r, h => by
    show (PyData.canLay0 (.str (S w)) && PyData.canLayAll0 (r.map fun w => PyData.str (S w))) = true
    rw [lay_O r fun x hx => h x (List.mem_cons_of_mem _ hx), ok_sgn (h w List.mem_cons_self)]
    rfl
theorem shaped_O {ws : List (List Nat)} (h : ∀ w ∈ ws, okc w) : SeqAt.shaped (dataT ws) = true := by
  unfold SeqAt.shaped
  rw [show (dataT ws).canLay0 = true from lay_O ws h]
  have h := depth_T ws
  have h2 : (dataT ws).depth ≤ 64 := by
    show PyData.depthAll (ws.map fun w => PyData.str (S w)) + 1 ≤ 64
    omega
  rw [decide_eq_true h2]
  rfl
/-- the data of a tree -/
def dataB (w : List Nat) : PyData := .list [.tuple [.tuple (if w = [] then [] else [.tuple [.str (S wText), .str (S w)]])]]
theorem dp_one {K : PySem.W.Frag} {H : Hp} {v : V} {d : PyData} (h : Dp K H v d) : DpAll K H [v] [d] := .cons h .nil
theorem dp_tx {K : PySem.W.Frag} {H : Hp} {v : V} {w : List Nat} (h : TrAt H v (tx w)) : Dp K H v (.tuple [.str (S wText), .str (S w)]) := by
  cases h with
  | n h hl hk =>
    rename_i a vs
    match vs, hl, hk, h with
    | [x, y], _, hk, h =>
      have h0 := hk 0 x (.s wText) rfl rfl
      have h1 := hk 1 y (.s w) rfl rfl
      cases h0
      cases h1
      exact .tup (SqT.of h) (.cons (.str _) (.cons (.str _) .nil))
theorem dp_bare {K : PySem.W.Frag} {H : Hp} {v : V} {w : List Nat} (h : TrAt H v (.n (bareT w))) : Dp K H v (.tuple (if w = [] then [] else [.tuple [.str (S wText), .str (S w)]])) := by
  unfold bareT at h
  by_cases e : w = []
  · rw [if_pos e] at h ⊢
    cases h with
    | n h hl hk =>
      rename_i a vs
      match vs, hl, h with
      | [], _, h => exact .tup (SqT.of h) .nil
  · rw [if_neg e] at h ⊢
    cases h with
    | n h hl hk =>
      rename_i a vs
      match vs, hl, hk, h with
      | [x], _, hk, h => exact .tup (SqT.of h) (dp_one (dp_tx (hk 0 x (tx w) rfl rfl)))
theorem dp_tree {K : PySem.W.Frag} {H : Hp} {v : V} {w : List Nat} (h : ValL H v [.n [.n (bareT w)]]) : Dp K H v (dataB w) := by
  obtain ⟨a, vs, rfl, ha, hl, hk⟩ := h
  match vs, hl, hk, ha with
  | [x], _, hk, ha =>
    refine .lst (SqL.of ha) (dp_one ?_)
    have h0 := hk 0 x (.n [.n (bareT w)]) rfl rfl
    cases h0 with
    | @n a2 vs2 _ h hl hk =>
      match vs2, hl, hk, h with
      | [y], _, hk, h => exact .tup (SqT.of h) (dp_one (dp_bare (hk 0 y (.n (bareT w)) rfl rfl)))
theorem shaped_B {w : List Nat} (h : okc w) : SeqAt.shaped (dataB w) = true := by
  unfold SeqAt.shaped dataB
  by_cases e : w = []
  · rw [if_pos e]; rfl
  · rw [if_neg e]
    have h2 := ok_sgn h
    have h1 : PyData.canLay0 (.str (S wText)) = true := by decide +kernel
    have e1 : (PyData.list [.tuple [.tuple [.tuple [.str (S wText), .str (S w)]]]]).canLay0 = true := by
      show ((((PyData.canLay0 (.str (S wText)) && (PyData.canLay0 (.str (S w)) && true)) && true) && true) && true) = true
      rw [h1, h2]; rfl
    rw [e1]
    rfl
theorem valV_fresh {kvs : List (Key × V)} {k : Key} (h : ∀ p ∈ kvs, p.1 ≠ k) : valV kvs k = none := by
  induction kvs with
  | nil => rfl
  | cons p r ih => rw [valV_neg (h p List.mem_cons_self), ih fun x hx => h x (List.mem_cons_of_mem _ hx)]
theorem perm_erase : ∀ (l : List Nat) (i : Nat) (h : i < l.length), (l[i] :: l.eraseIdx i).Perm l
  | c :: r, 0, _ => .refl _
  | c :: r, i + 1, h => by
    have h' : i < r.length := by simpa using h
    exact (List.Perm.swap c r[i] (r.eraseIdx i)).trans ((perm_erase r i h').cons c)
theorem sgs_erase : ∀ (l : List Nat) (i : Nat), (sgs l).eraseIdx i = sgs (l.eraseIdx i)
  | [], _ => rfl
  | c :: r, 0 => rfl
  | c :: r, i + 1 => by
    have := sgs_erase r i
    show V.str (S [c]) :: (sgs r).eraseIdx i = V.str (S [c]) :: sgs (r.eraseIdx i)
    rw [this]
def seenK (ws : List (List Nat)) : List (Key × V) := ws.map fun w => (.inr (S (wtext w)), .bl true)
section
variable {P : Program} {w : World} {K : PySem.W.Frag} {mg : Str → Option Value} {base : Heap} {CB : Addr}
theorem ok_law {f : Addr} {fd : FuncData} (F : Def K mg "law" s_law f fd) (T : Txt mg) (c__law_bag : Cal P w K mg base 1 "_law_bag" (spBag K) []) (c__law_pull : Cal P w K mg base 1 "_law_pull" spPull []) (c__law_text : Cal P w K mg base 3 "_law_text" spText [])
    (c__law_turned : Cal P w K mg base 1 "_law_turned" spLturned []) (c__law_pairs : Cal P w K mg base 1 "_law_pairs" spLpairs []) (c__law_bare : Cal P w K mg base 1 "_law_bare" spBareT []) (c__law_all_words : Cal P w K mg base 1 "_law_all_words" (spAllW K) [])
    (c_word_text : Cal P w K mg base 3 "word_text" spWtext []) (c_list_text : Cal P w K mg base 4 "list_text" (spLtext K) []) (c_read_list : Cal P w K mg base 5 "read_list" spRead []) (c_parsed : Cal P w K mg base 83 "parsed" (calmed (spParsed CB)) []) : FnOk P w K mg base C8.CX0 84 f fd ["_law_script"] (spLaw K) := by
  refine fn0 F.fn sc_law (fun vs H Q E h => ?_) (fun cdv A outer s H vs Q E hr h => ?_)
  · obtain ⟨a, ns, rfl, _⟩ := h
    rfl
  obtain ⟨a, ns, rfl, hS, hl, q⟩ := h
  refine ⟨_, pss_cons (ps_set (i := 1) sc_law.nd rfl (Or.inr rfl) (pe_c c__law_bag hr (by first | decide | assumption | omega) rfl (pa_cons (pv 0) pa_nil)))
    (pss_cons (ps_set (i := 2) sc_law.nd rfl (Or.inr rfl) (pe_callTy (call_list_S rfl) (by rfl) T.list (by decide +kernel) (pa_cons pe_str pa_nil)))
    (pss_cons (ps_setLc (i := 3) (own := [("_law_k", 9)]) (g := gName 9) (by rfl) sc_law.nd rfl rfl (sw_true rfl rfl rfl (by decide +kernel)) (pi_range1 rfl T.range (pa_cons pe_int pa_nil)) (blkOk_by (own := [("_law_k", 9)]) (N := N_law) (sc := fnScope s_law) (by decide +kernel)) (fun _ _ _ _ _ => pg_name (i := 9) sc_law.nd rfl (Or.inl rfl)) (fun _ _ _ _ _ => pts_nil) (fun _ _ _ _ _ => (show PE _ _ (tBM K "list" rPopAt _ _) from (pe_bm PySem.F.plainAttrs_list PySem.F.slot_list_pop PySem.F.type_list_pop mt_popAt (pv 2) (pa_cons (pe_c c__law_pull hr (by first | decide | assumption | omega) rfl (pa_cons (pv 1) (pa_cons (pe_callB (show CallR _ _ (fun xs H Q => ∃ x n, xs = [x] ∧ LenV K x H n ∧ Q (.int n) H) from call_len) (by rfl) T.len (by decide +kernel) (pa_cons (pv 2) pa_nil)) pa_nil))) pa_nil)))))
    (pss_cons (ps_par (i := 4) (j := 5) rfl sc_law.nd rfl rfl (by decide) rfl rfl (pa_cons (pe_c c__law_text hr (by first | decide | assumption | omega) rfl (pa_cons (pv 1) (pa_cons pe_int pa_nil))) (pa_cons (pe_c c__law_text hr (by first | decide | assumption | omega) rfl (pa_cons (pv 1) (pa_cons pe_int pa_nil))) pa_nil)) rfl)
    (pss_cons (ps_set (i := 6) sc_law.nd rfl (Or.inl rfl) pe_dnewK)
    (pss_cons (ps_for PassesOwn.never rfl (pi_list (pe_c c__law_all_words hr (by first | decide | assumption | omega) rfl (pa_cons (pv 3) pa_nil))) (pg_name (i := 7) sc_law.nd rfl (Or.inl rfl))
      (pss_cons (ps_set (i := 8) sc_law.nd rfl (Or.inl rfl) (pe_c c_word_text hr (by first | decide | assumption | omega) rfl (pa_cons (pv 7) pa_nil)))
      (pss_cons (ps_if (PW.pt (pw_or (pt_cmp (pc_din (room_u hr) (pv 8) (pv 6))) (pw_or (pt_cmpR (op_neD hr.units) (pe_c c_read_list hr (by first | decide | assumption | omega) rfl (pa_cons (pv 8) pa_nil)) (pe_lst (pa_cons (pv 7) pa_nil)) (nomark _)) (pw_or1 (pt_cmpR (op_neD hr.units) (pe_c c_read_list hr (by first | decide | assumption | omega) rfl (pa_cons (pe_c c_list_text hr (by first | decide | assumption | omega) rfl (pa_cons (pe_lst (pa_cons (pv 4) (pa_cons (pv 7) (pa_cons (pv 5) pa_nil)))) pa_nil)) pa_nil)) (pe_lst (pa_cons (pv 4) (pa_cons (pv 7) (pa_cons (pv 5) pa_nil)))) (nomark _))))))
        (pss_one (ps_ret pe_bl))
        (pss_nil))
      (pss_cons (ps_if (PW.pt (pw_or (pt_cmpR (op_neD hr.units) (pe_c c_parsed hr (by first | decide | assumption | omega) rfl (pa_cons (pv 8) pa_nil)) (pe_lst (pa_cons (pe_tup (pa_cons (pe_c c__law_bare hr (by first | decide | assumption | omega) rfl (pa_cons (pv 7) pa_nil)) pa_nil)) pa_nil)) (nomark _)) (pw_or1 (pt_cmpR op_gt (pe_callB call_len (by rfl) T.len (by decide +kernel) (pa_cons (pv 8) pa_nil)) (pe_callB (call_max2 rfl) (by rfl) T.max (by decide +kernel) (pa_cons pe_int (pa_cons (pe_callB call_len (by rfl) T.len (by decide +kernel) (pa_cons (pe_c c__law_turned hr (by first | decide | assumption | omega) rfl (pa_cons (pv 7) pa_nil)) pa_nil)) pa_nil))) (nomark _)))))
        (pss_one (ps_ret pe_bl))
        (pss_nil))
      (pss_cons (ps_if (PW.pt (pw_and (pt_val (pe_c c__law_pairs hr (by first | decide | assumption | omega) rfl (pa_cons (pv 7) pa_nil))) (pw_and1 (pt_cmpR op_gt (pe_callB call_len (by rfl) T.len (by decide +kernel) (pa_cons (pv 8) pa_nil)) (pe_op op_add (pe_callB call_len (by rfl) T.len (by decide +kernel) (pa_cons (pv 7) pa_nil)) pe_int) (nomark _)))))
        (pss_one (ps_ret pe_bl))
        (pss_nil))
      (pss_cons (ps_dput (room_u hr) (pv 6) (pv 8) pe_bl rfl)
      (pss_one (ps_if (pt_cmpR op_ne (pe_callB call_len (by rfl) T.len (by decide +kernel) (pa_cons (pe_c c_parsed hr (by first | decide | assumption | omega) rfl (pa_cons (pe_c c_list_text hr (by first | decide | assumption | omega) rfl (pa_cons (pe_lst (pa_cons (pv 4) (pa_cons (pv 7) (pa_cons (pv 5) pa_nil)))) pa_nil)) pa_nil)) pa_nil)) pe_int (nomark _))
        (pss_one (ps_ret pe_bl))
        (pss_nil)))))))))
    (pss_one (ps_ret pe_bl))))))), ?_⟩
  refine ⟨_, rfl, a, ns, rfl, hS, hl, fun b l H1 s1 hb B1 => ?_⟩
  refine ⟨pool0, by rw [lit_pool], by decide, fun p hp => ?_⟩
  have B2 := B1.mono (same_new hp (HO.lst (pool0.map fun c => V.str (S [c]))))
  have hp2 : (upd H1 p (.lst (pool0.map fun c => V.str (S [c])))) p = some (.lst (sgs pool0)) := upd_same
  generalize upd H1 p (.lst (pool0.map fun c => V.str (S [c]))) = H2 at B2 hp2 ⊢
  have npb : p ≠ b := (B1.nb hp).symm
  have npl : p ≠ l := (B1.nl hp).symm
  refine ⟨5, rfl, by decide, by decide, fun D hD => ?_⟩
  have nbD := B2.nb hD
  have nlD := B2.nl hD
  have npD : p ≠ D := ne_of_none hp2 hD
  refine lc_range (lo := 0) (n := 5) (fun i H3 => BagAt H3 b l ∧ ∃ ps rs : List Nat, ps.length = i ∧ (ps ++ rs).Perm pool0 ∧ H3 p = some (.lst (sgs rs)) ∧ H3 D = some (.lst (sgs ps))) ⟨B2.mono (same_new hD _), [], pool0, rfl, .refl _, by rw [upd_ne npD]; exact hp2, upd_same⟩ ?_ ?_
  · rintro i H3 hi ⟨B3, ps, rs, hpl, hpm, hp3, hD3⟩
    have hrl : rs.length = 17 - i := by
      have := hpm.length_eq
      rw [List.length_append] at this
      have h17 : pool0.length = 17 := rfl
      omega
    refine ⟨rfl, _, rfl, .inl ⟨rfl, _, SqL.of hp3⟩, _, rfl, _, rfl, _, _, rfl, .inl ⟨_, SqL.of hp3, rfl⟩, b, l, _, rfl, B3, ?_, ?_, fun r H4 hr4 b4 B4 => ?_⟩
    · unfold sgs; rw [List.length_map]; omega
    · unfold sgs; rw [List.length_map]; omega
    have hlr : r < rs.length := by
      unfold sgs at hr4; rw [List.length_map] at hr4; omega
    refine ⟨p, sgs rs, _, r, _, rfl, rfl, b4 _ _ hp3 npb, by omega, by omega, ?_, by unfold sgs; rw [List.getElem?_map, List.getElem?_eq_getElem hlr]; rfl, ?_⟩
    · have e := PySem.seqIndex_of (k := (r : Int)) (n := (sgs rs).length) (by omega) (by unfold sgs; rw [List.length_map]; omega)
      rw [Int.toNat_natCast] at e
      exact e
    · have hD4 := b4 _ _ hD3 nbD.symm
      refine ⟨_, by rw [upd_ne npD.symm]; exact hD4, ?_, ?_, ?_⟩
      · unfold sgs; rw [List.length_map, hpl]; exact Nat.lt_of_lt_of_le (show i < 10 by omega) (by decide)
      · exact (B4.upd npb.symm npl.symm).upd nbD nlD
      · refine ⟨ps ++ [rs[r]], rs.eraseIdx r, by simp [hpl], ?_, ?_, ?_⟩
        · rw [List.append_assoc]
          exact (List.Perm.append_left ps (perm_erase rs r hlr)).trans hpm
        · rw [upd_ne npD, upd_same, sgs_erase]
        · rw [upd_same]
          unfold sgs
          simp
  rintro H3 ⟨B3, ps, rs, hpl, hpm, hp3, hD3⟩
  have hnd : ps.Nodup := (List.nodup_append.mp (hpm.nodup_iff.mpr nodup_pool)).1
  have hok : okc ps := fun c hc => by
    have h1 : c ∈ pool0 := hpm.mem_iff.mp (List.mem_append_left _ hc)
    have : ∀ c ∈ pool0, c < 1114112 := by decide
    exact this c h1
  refine ⟨_, rfl, b, l, 3, rfl, B3, by decide, fun one H4 ho1 ho2 b4 B4 => ?_⟩
  refine ⟨_, rfl, b, l, 3, rfl, B4, by decide, fun oth H5 ht1 ht2 b5 B5 => ⟨_, _, rfl, ?_⟩⟩
  have habc : ∀ c ∈ abc, c < 1114112 := by decide
  have ok1 : okc one := fun c hc => habc c (ho2 c hc)
  have ok2 : okc oth := fun c hc => habc c (ht2 c hc)
  intro d hd
  have hD5 := b5 _ _ (b4 _ _ hD3 nbD.symm) nbD.symm
  have hD6 := same_new hd (HO.dK []) _ _ hD5
  have hd6 : (upd H5 d (.dK [])) d = some (.dK []) := upd_same
  generalize upd H5 d (.dK []) = H6 at hD6 hd6 ⊢
  refine ⟨_, rfl, D, ps, rfl, SqL.of hD6, hpl, fun z H7 s7 hz hz7 => ⟨z, rfl, ⟨_, SqL.of hz7⟩, ?_⟩⟩
  have hd7 := s7 _ _ hd6
  have ndz : d ≠ z := ne_of_none hd6 hz
  have hwm := allW_mem ps 3
  refine for_list (K := K) (a := z) (xs := txs (allW ps 3)) (fun i σ H8 => ∃ v7 v8, σ = [some (.ref a), some (.ref b), some (.ref p), some (.ref D), some (.str (S one)), some (.str (S oth)), some (.ref d), v7, v8, none] ∧ H8 z = some (.lst (txs (allW ps 3))) ∧ H8 d = some (.dK (seenK ((allW ps 3).take i)))) ⟨_, _, rfl, hz7, hd7⟩ (fun i σ H8 _ ⟨_, _, _, h, _⟩ => SqL.of h) ?_ ?_
  · rintro i u σ H8 hi ⟨v7, v8, rfl, hz8, hd8⟩
    obtain ⟨wd, hwd, rfl⟩ : ∃ wd, (allW ps 3)[i]? = some wd ∧ u = V.str (S wd) := by
      unfold txs at hi
      rw [List.getElem?_map] at hi
      cases e : (allW ps 3)[i]? with
      | none => rw [e] at hi; cases hi
      | some wd => rw [e] at hi; exact ⟨wd, rfl, (Option.some.inj hi).symm⟩
    obtain ⟨hw3, hws⟩ := hwm wd (List.mem_of_getElem? hwd)
    have okw : okc wd := fun c hc => hok c (hws c hc)
    have hlW : (ltext [one, wd, oth]).length ≤ 1000 := by
      have := ltext_len [one, wd, oth] 3 (by intro w hw; simp at hw; rcases hw with rfl | rfl | rfl <;> omega)
      simp at this
      omega
    have hl1 : (wtext wd).length ≤ 1000 := by
      have := wtext_len wd
      omega
    have hcount : (allW ps 3).length < sizeLine := by
      show ((([[]] ++ lev ps 1) ++ lev ps 2) ++ lev ps 3).length < sizeLine
      rw [List.length_append, List.length_append, List.length_append, lev_count, lev_count, lev_count, hpl, sizeLine_eq]
      decide
    have hws3 : ∀ w ∈ [one, wd, oth], w.length ≤ 1000 := by intro w hw; simp at hw; rcases hw with rfl | rfl | rfl <;> omega
    have okws : ∀ w ∈ [one, wd, oth], okc w := by intro w hw; simp at hw; rcases hw with rfl | rfl | rfl <;> assumption
    have okw1 : ∀ w ∈ [wd], okc w := by intro w hw; simp at hw; rw [hw]; exact okw
    -- text = word_text(word)
    refine ⟨_, rfl, wd, rfl, by omega, fun H9 s9 => ?_⟩
    -- the tests
    have hnew : valV (seenK ((allW ps 3).take i)) (.inr (S (wtext wd))) = none := valV_fresh fun e he => by
      obtain ⟨w', hw', rfl⟩ := List.mem_map.mp he
      intro h
      have h2 : w' = wd := wtext_inj (S_inj (Sum.inr.inj h))
      rw [h2] at hw'
      obtain ⟨j, hj, e⟩ := List.mem_take_iff_getElem.mp hw'
      have hil := (List.getElem?_eq_some_iff.mp hwd).1
      have e2 := (List.getElem?_eq_some_iff.mp hwd).2
      exact List.pairwise_iff_getElem.mp (allW_nodup hnd 3) j i (by omega) hil (by omega) (e.trans e2.symm)
    refine ⟨_, rfl, _, rfl, d, none, rfl, ?_, false, rfl, ?_⟩
    · rw [← hnew]
      exact DGet.k (k := .inr (S (wtext wd))) (s9 _ _ hd8)
    refine iteF ⟨_, rfl, wtext wd, [wd], rfl, hl1, reads_own [wd], fun p1 H10 s10 hp1 hp1' => ⟨_, rfl, (by show 1 ≤ sizeLine; decide), fun p2 hp2 => ⟨dataT [wd], dataT [wd], dp_txs (SqL.of (same_new hp2 _ _ _ hp1')), dp_txs (SqL.of upd_same), shaped_O okw1, shaped_O okw1, _, rfl, ?_⟩⟩⟩
    rw [SeqAt.eqv_refl (dataT [wd]) (lay_O _ okw1)]
    have s11 := s9.trans (s10.trans (same_new hp2 (HO.lst [.str (S wd)])))
    generalize upd H10 p2 (.lst [.str (S wd)]) = H11 at s11 ⊢
    refine iteF ⟨_, rfl, _, rfl, _, rfl, (by show 3 ≤ sizeLine; decide), fun p3 hp3 => ⟨p3, [one, wd, oth], rfl, SqL.of upd_same, (by show 3 ≤ 100; decide), hws3, fun H12 s12 => ⟨_, [one, wd, oth], rfl, hlW, reads_own _, fun p4 H13 s13 hp4 hp4' => ⟨_, rfl, _, rfl, _, rfl, (by show 3 ≤ sizeLine; decide), fun p5 hp5 => ⟨dataT [one, wd, oth], dataT [one, wd, oth], dp_txs (SqL.of (same_new hp5 _ _ _ hp4')), dp_txs (SqL.of upd_same), shaped_O okws, shaped_O okws, _, rfl, ?_⟩⟩⟩⟩⟩
    rw [SeqAt.eqv_refl (dataT [one, wd, oth]) (lay_O _ okws)]
    have s14 := s11.trans ((same_new hp3 (HO.lst [.str (S one), .str (S wd), .str (S oth)])).trans (s12.trans (s13.trans (same_new hp5 (HO.lst [.str (S one), .str (S wd), .str (S oth)])))))
    generalize upd H13 p5 (.lst [.str (S one), .str (S wd), .str (S oth)]) = H14 at s14 ⊢
    refine iteF ?_
    -- read as a script
    refine ⟨_, rfl, wtext wd, _, rfl, hl1, scr_word wd, fun v1 H15 s15 hv1 => ?_⟩
    refine ⟨_, rfl, wd, rfl, fun v2 H16 s16 hv2 => ?_⟩
    refine ⟨(by show 1 ≤ sizeLine; decide), fun p6 hp6 => ⟨(by show 1 ≤ sizeLine; decide), fun p7 hp7 => ?_⟩⟩
    have s17 := (same_new hp6 (HO.tup [v2])).trans (same_new hp7 (HO.lst [.ref p6]))
    have np67 : p6 ≠ p7 := ne_of_none (show (upd H16 p6 (.tup [v2])) p6 = some (.tup [v2]) from upd_same) hp7
    have hv1' : ValL (upd (upd H16 p6 (.tup [v2])) p7 (.lst [.ref p6])) v1 [.n [.n (bareT wd)]] := by
      obtain ⟨x, xs, rfl, hx, ht⟩ := hv1
      exact ⟨x, xs, rfl, s17 _ _ (s16 _ _ hx), ht.mono (Same.tups (s16.trans s17))⟩
    have hv2' : ValL (upd (upd H16 p6 (.tup [v2])) p7 (.lst [.ref p6])) (.ref p7) [.n [.n (bareT wd)]] :=
      ⟨p7, [.ref p6], rfl, upd_same, TrsAt.snoc (TrsAt.nil _) (TrsAt.tup (a := p6) (vs := [v2]) (by rw [upd_ne np67, upd_same]) (TrsAt.snoc (TrsAt.nil _) (hv2.mono (Same.tups s17))))⟩
    refine ⟨dataB wd, dataB wd, dp_tree hv1', dp_tree hv2', shaped_B okw, shaped_B okw, _, rfl, ?_⟩
    rw [SeqAt.eqv_refl (dataB wd) (by have := shaped_B okw; unfold SeqAt.shaped at this; exact (Bool.and_eq_true_iff.mp this).1)]
    have s18 := s14.trans (s15.trans (s16.trans s17))
    generalize upd (upd H16 p6 (.tup [v2])) p7 (.lst [.ref p6]) = H18 at s18 ⊢
    refine iteF ?_
    have hmx := wtext_max wd
    have htl := turn_len wd
    refine ⟨_, rfl, _, _, rfl, ⟨size_S (by omega), rfl⟩, _, rfl, wd, rfl, by omega, _, _, rfl, ⟨size_S (by omega), rfl⟩, _, _, rfl, _, _, rfl, rfl, _, rfl, ?_⟩
    refine iteD (fun hc => ?_) (fun _ => ?_)
    · exfalso
      rw [S_len, S_len] at hc
      have : (if ((turn wd).length : Int) > 2 then ((turn wd).length : Int) else 2) < ((wtext wd).length : Int) := hc
      split at this <;> omega
    refine iteF (A := False) ?_
    refine ⟨_, rfl, wd, rfl, by omega, fun H19 s19 => ⟨_, rfl, ?_⟩⟩
    have s20 := s18.trans s19
    have hp2 := @wtext_pairs wd
    cases hP : Pairs wd with
    | true =>
      have hp3 := hp2 hP
      refine iteT ⟨_, rfl, _, _, rfl, ⟨size_S (by omega), rfl⟩, _, rfl, _, _, rfl, ⟨size_S (by omega), rfl⟩, _, _, rfl, rfl, _, _, rfl, rfl, _, rfl, ?_⟩
      refine iteD (fun hc => ?_) (fun _ => ?_)
      · exfalso
        rw [S_len, S_len] at hc
        omega
      refine iteF (A := False) ?_
      refine ⟨_, rfl, _, rfl, d, _, rfl, DPut.k (k := .inr (S (wtext wd))) (v := .bl true) (s20 _ _ hd8) (by unfold seenK; rw [List.length_map, List.length_take]; exact Nat.lt_of_le_of_lt (show _ ≤ (allW ps 3).length from Nat.min_le_right _ _) hcount), ?_⟩
      rw [putK_new _ hnew]
      have hz20 : (upd H19 d (.dK (seenK ((allW ps 3).take i) ++ [(.inr (S (wtext wd)), .bl true)]))) z = some (.lst (txs (allW ps 3))) := by
        rw [upd_ne ndz.symm]; exact s20 _ _ hz8
      have hd20 : (upd H19 d (.dK (seenK ((allW ps 3).take i) ++ [(.inr (S (wtext wd)), .bl true)]))) d = some (.dK (seenK ((allW ps 3).take (i + 1)))) := by
        rw [upd_same, List.take_add_one, hwd]
        unfold seenK
        simp
      generalize upd H19 d (.dK (seenK ((allW ps 3).take i) ++ [(.inr (S (wtext wd)), .bl true)])) = H20 at hz20 hd20 ⊢
      obtain ⟨t3, ht3⟩ := scr_words one [wd, oth]
      refine ⟨_, rfl, _, rfl, _, rfl, (by show 3 ≤ sizeLine; decide), fun p8 hp8 => ⟨p8, [one, wd, oth], rfl, SqL.of upd_same, (by show 3 ≤ 100; decide), hws3, fun H21 s21 => ⟨_, _, rfl, hlW, ht3, fun v3 H22 s22 hv3 => ?_⟩⟩⟩
      obtain ⟨x3, xs3, rfl, hx3, hl3, _⟩ := hv3
      have s23 := (same_new hp8 (HO.lst [.str (S one), .str (S wd), .str (S oth)])).trans (s21.trans s22)
      refine ⟨_, _, rfl, .inl ⟨_, SqL.of hx3, rfl⟩, rfl, _, rfl, ?_⟩
      rw [show xs3.length = 1 from hl3]
      exact iteF (A := False) ⟨_, _, rfl, s23 _ _ hz20, s23 _ _ hd20⟩
    | false =>
      refine iteF ?_
      refine iteF (A := False) ?_
      refine ⟨_, rfl, _, rfl, d, _, rfl, DPut.k (k := .inr (S (wtext wd))) (v := .bl true) (s20 _ _ hd8) (by unfold seenK; rw [List.length_map, List.length_take]; exact Nat.lt_of_le_of_lt (show _ ≤ (allW ps 3).length from Nat.min_le_right _ _) hcount), ?_⟩
      rw [putK_new _ hnew]
      have hz20 : (upd H19 d (.dK (seenK ((allW ps 3).take i) ++ [(.inr (S (wtext wd)), .bl true)]))) z = some (.lst (txs (allW ps 3))) := by
        rw [upd_ne ndz.symm]; exact s20 _ _ hz8
      have hd20 : (upd H19 d (.dK (seenK ((allW ps 3).take i) ++ [(.inr (S (wtext wd)), .bl true)]))) d = some (.dK (seenK ((allW ps 3).take (i + 1)))) := by
        rw [upd_same, List.take_add_one, hwd]
        unfold seenK
        simp
      generalize upd H19 d (.dK (seenK ((allW ps 3).take i) ++ [(.inr (S (wtext wd)), .bl true)])) = H20 at hz20 hd20 ⊢
      obtain ⟨t3, ht3⟩ := scr_words one [wd, oth]
      refine ⟨_, rfl, _, rfl, _, rfl, (by show 3 ≤ sizeLine; decide), fun p8 hp8 => ⟨p8, [one, wd, oth], rfl, SqL.of upd_same, (by show 3 ≤ 100; decide), hws3, fun H21 s21 => ⟨_, _, rfl, hlW, ht3, fun v3 H22 s22 hv3 => ?_⟩⟩⟩
      obtain ⟨x3, xs3, rfl, hx3, hl3, _⟩ := hv3
      have s23 := (same_new hp8 (HO.lst [.str (S one), .str (S wd), .str (S oth)])).trans (s21.trans s22)
      refine ⟨_, _, rfl, .inl ⟨_, SqL.of hx3, rfl⟩, rfl, _, rfl, ?_⟩
      rw [show xs3.length = 1 from hl3]
      exact iteF (A := False) ⟨_, _, rfl, s23 _ _ hz20, s23 _ _ hd20⟩
  · rintro σ H8 ⟨v7, v8, rfl, hz8, hd8⟩
    exact q H8
end
end My
namespace My
open PySem L2 SX C8
section
set_option maxHeartbeats 0 in
theorem all_mk {P : Program} {w : World} {K : PySem.W.Frag} {h : Heap} {mg : Str → Option Value} {fa : Addr} (X : K.In h) (G : h.Ns mainGlobals mg) (hfa : mg "law" = some (.ref fa))
    {f0 : Addr} {od0 an0 : Option Addr} {sl0 : Array (Option Value)} {oc0 kV0 dc0 pm0 cd0 ct0 : Value}
    (a0 : PySem.W.nsIn K mainGlobals "pair_end" = some (some (.ref f0)))
    (l0 : K.lookup f0 = some ⟨oc0, od0, .func (PySem.W.fnOf "pair_end" "pair_end" (fnArgs s_pair_end) (fnBody s_pair_end) (fnScope s_pair_end) .none kV0 dc0 pm0 an0 cd0 ct0), sl0⟩)
    (c0 : PySem.W.codeIn K cd0 "pair_end" = true)
    (k0 : PySem.W.keepIn K (.ref f0) = true)
    {f1 : Addr} {od1 an1 : Option Addr} {sl1 : Array (Option Value)} {oc1 kV1 dc1 pm1 cd1 ct1 : Value}
    (a1 : PySem.W.nsIn K mainGlobals "can_stand_in_braces" = some (some (.ref f1)))
    (l1 : K.lookup f1 = some ⟨oc1, od1, .func (PySem.W.fnOf "can_stand_in_braces" "can_stand_in_braces" (fnArgs s_can_stand_in_braces) (fnBody s_can_stand_in_braces) (fnScope s_can_stand_in_braces) .none kV1 dc1 pm1 an1 cd1 ct1), sl1⟩)
    (c1 : PySem.W.codeIn K cd1 "can_stand_in_braces" = true)
    (k1 : PySem.W.keepIn K (.ref f1) = true)
    {f2 : Addr} {od2 an2 : Option Addr} {sl2 : Array (Option Value)} {oc2 kV2 dc2 pm2 cd2 ct2 : Value}
    (a2 : PySem.W.nsIn K mainGlobals "is_letter" = some (some (.ref f2)))
    (l2 : K.lookup f2 = some ⟨oc2, od2, .func (PySem.W.fnOf "is_letter" "is_letter" (fnArgs s_is_letter) (fnBody s_is_letter) (fnScope s_is_letter) .none kV2 dc2 pm2 an2 cd2 ct2), sl2⟩)
    (c2 : PySem.W.codeIn K cd2 "is_letter" = true)
    (k2 : PySem.W.keepIn K (.ref f2) = true)
    {f3 : Addr} {od3 an3 : Option Addr} {sl3 : Array (Option Value)} {oc3 kV3 dc3 pm3 cd3 ct3 : Value}
    (a3 : PySem.W.nsIn K mainGlobals "is_name" = some (some (.ref f3)))
    (l3 : K.lookup f3 = some ⟨oc3, od3, .func (PySem.W.fnOf "is_name" "is_name" (fnArgs s_is_name) (fnBody s_is_name) (fnScope s_is_name) .none kV3 dc3 pm3 an3 cd3 ct3), sl3⟩)
    (c3 : PySem.W.codeIn K cd3 "is_name" = true)
    (k3 : PySem.W.keepIn K (.ref f3) = true)
    {f4 : Addr} {od4 an4 : Option Addr} {sl4 : Array (Option Value)} {oc4 kV4 dc4 pm4 cd4 ct4 : Value}
    (a4 : PySem.W.nsIn K mainGlobals "refuse_long" = some (some (.ref f4)))
    (l4 : K.lookup f4 = some ⟨oc4, od4, .func (PySem.W.fnOf "refuse_long" "refuse_long" (fnArgs s_refuse_long) (fnBody s_refuse_long) (fnScope s_refuse_long) .none kV4 dc4 pm4 an4 cd4 ct4), sl4⟩)
    (c4 : PySem.W.codeIn K cd4 "refuse_long" = true)
    (k4 : PySem.W.keepIn K (.ref f4) = true)
    {f5 : Addr} {od5 an5 : Option Addr} {sl5 : Array (Option Value)} {oc5 kV5 dc5 pm5 cd5 ct5 : Value}
    (a5 : PySem.W.nsIn K mainGlobals "turned_sign" = some (some (.ref f5)))
    (l5 : K.lookup f5 = some ⟨oc5, od5, .func (PySem.W.fnOf "turned_sign" "turned_sign" (fnArgs s_turned_sign) (fnBody s_turned_sign) (fnScope s_turned_sign) .none kV5 dc5 pm5 an5 cd5 ct5), sl5⟩)
    (c5 : PySem.W.codeIn K cd5 "turned_sign" = true)
    (k5 : PySem.W.keepIn K (.ref f5) = true)
    {f6 : Addr} {od6 an6 : Option Addr} {sl6 : Array (Option Value)} {oc6 kV6 dc6 pm6 cd6 ct6 : Value}
    (a6 : PySem.W.nsIn K mainGlobals "turned" = some (some (.ref f6)))
    (l6 : K.lookup f6 = some ⟨oc6, od6, .func (PySem.W.fnOf "turned" "turned" (fnArgs s_turned) (fnBody s_turned) (fnScope s_turned) .none kV6 dc6 pm6 an6 cd6 ct6), sl6⟩)
    (c6 : PySem.W.codeIn K cd6 "turned" = true)
    (k6 : PySem.W.keepIn K (.ref f6) = true)
    {f7 : Addr} {od7 an7 : Option Addr} {sl7 : Array (Option Value)} {oc7 kV7 dc7 pm7 cd7 ct7 : Value}
    (a7 : PySem.W.nsIn K mainGlobals "meant" = some (some (.ref f7)))
    (l7 : K.lookup f7 = some ⟨oc7, od7, .func (PySem.W.fnOf "meant" "meant" (fnArgs s_meant) (fnBody s_meant) (fnScope s_meant) .none kV7 dc7 pm7 an7 cd7 ct7), sl7⟩)
    (c7 : PySem.W.codeIn K cd7 "meant" = true)
    (k7 : PySem.W.keepIn K (.ref f7) = true)
    {f8 : Addr} {od8 an8 : Option Addr} {sl8 : Array (Option Value)} {oc8 kV8 dc8 pm8 cd8 ct8 : Value}
    (a8 : PySem.W.nsIn K mainGlobals "word_text" = some (some (.ref f8)))
    (l8 : K.lookup f8 = some ⟨oc8, od8, .func (PySem.W.fnOf "word_text" "word_text" (fnArgs s_word_text) (fnBody s_word_text) (fnScope s_word_text) .none kV8 dc8 pm8 an8 cd8 ct8), sl8⟩)
    (c8 : PySem.W.codeIn K cd8 "word_text" = true)
    (k8 : PySem.W.keepIn K (.ref f8) = true)
    {f9 : Addr} {od9 an9 : Option Addr} {sl9 : Array (Option Value)} {oc9 kV9 dc9 pm9 cd9 ct9 : Value}
    (a9 : PySem.W.nsIn K mainGlobals "list_text" = some (some (.ref f9)))
    (l9 : K.lookup f9 = some ⟨oc9, od9, .func (PySem.W.fnOf "list_text" "list_text" (fnArgs s_list_text) (fnBody s_list_text) (fnScope s_list_text) .none kV9 dc9 pm9 an9 cd9 ct9), sl9⟩)
    (c9 : PySem.W.codeIn K cd9 "list_text" = true)
    (k9 : PySem.W.keepIn K (.ref f9) = true)
    {f10 : Addr} {od10 an10 : Option Addr} {sl10 : Array (Option Value)} {oc10 kV10 dc10 pm10 cd10 ct10 : Value}
    (a10 : PySem.W.nsIn K mainGlobals "read_list" = some (some (.ref f10)))
    (l10 : K.lookup f10 = some ⟨oc10, od10, .func (PySem.W.fnOf "read_list" "read_list" (fnArgs s_read_list) (fnBody s_read_list) (fnScope s_read_list) .none kV10 dc10 pm10 an10 cd10 ct10), sl10⟩)
    (c10 : PySem.W.codeIn K cd10 "read_list" = true)
    (k10 : PySem.W.keepIn K (.ref f10) = true)
    {f11 : Addr} {od11 an11 : Option Addr} {sl11 : Array (Option Value)} {oc11 kV11 dc11 pm11 cd11 ct11 : Value}
    (a11 : PySem.W.nsIn K mainGlobals "read_words" = some (some (.ref f11)))
    (l11 : K.lookup f11 = some ⟨oc11, od11, .func (PySem.W.fnOf "read_words" "read_words" (fnArgs s_read_words) (fnBody s_read_words) (fnScope s_read_words) .none kV11 dc11 pm11 an11 cd11 ct11), sl11⟩)
    (c11 : PySem.W.codeIn K cd11 "read_words" = true)
    (k11 : PySem.W.keepIn K (.ref f11) = true)
    {f12 : Addr} {od12 an12 : Option Addr} {sl12 : Array (Option Value)} {oc12 kV12 dc12 pm12 cd12 ct12 : Value}
    (a12 : PySem.W.nsIn K mainGlobals "behind_white" = some (some (.ref f12)))
    (l12 : K.lookup f12 = some ⟨oc12, od12, .func (PySem.W.fnOf "behind_white" "behind_white" (fnArgs s_behind_white) (fnBody s_behind_white) (fnScope s_behind_white) .none kV12 dc12 pm12 an12 cd12 ct12), sl12⟩)
    (c12 : PySem.W.codeIn K cd12 "behind_white" = true)
    (k12 : PySem.W.keepIn K (.ref f12) = true)
    {f13 : Addr} {od13 an13 : Option Addr} {sl13 : Array (Option Value)} {oc13 kV13 dc13 pm13 cd13 ct13 : Value}
    (a13 : PySem.W.nsIn K mainGlobals "read_word" = some (some (.ref f13)))
    (l13 : K.lookup f13 = some ⟨oc13, od13, .func (PySem.W.fnOf "read_word" "read_word" (fnArgs s_read_word) (fnBody s_read_word) (fnScope s_read_word) .none kV13 dc13 pm13 an13 cd13 ct13), sl13⟩)
    (c13 : PySem.W.codeIn K cd13 "read_word" = true)
    (k13 : PySem.W.keepIn K (.ref f13) = true)
    {f14 : Addr} {od14 an14 : Option Addr} {sl14 : Array (Option Value)} {oc14 kV14 dc14 pm14 cd14 ct14 : Value}
    (a14 : PySem.W.nsIn K mainGlobals "read_braced" = some (some (.ref f14)))
    (l14 : K.lookup f14 = some ⟨oc14, od14, .func (PySem.W.fnOf "read_braced" "read_braced" (fnArgs s_read_braced) (fnBody s_read_braced) (fnScope s_read_braced) .none kV14 dc14 pm14 an14 cd14 ct14), sl14⟩)
    (c14 : PySem.W.codeIn K cd14 "read_braced" = true)
    (k14 : PySem.W.keepIn K (.ref f14) = true)
    {f15 : Addr} {od15 an15 : Option Addr} {sl15 : Array (Option Value)} {oc15 kV15 dc15 pm15 cd15 ct15 : Value}
    (a15 : PySem.W.nsIn K mainGlobals "read_bare" = some (some (.ref f15)))
    (l15 : K.lookup f15 = some ⟨oc15, od15, .func (PySem.W.fnOf "read_bare" "read_bare" (fnArgs s_read_bare) (fnBody s_read_bare) (fnScope s_read_bare) .none kV15 dc15 pm15 an15 cd15 ct15), sl15⟩)
    (c15 : PySem.W.codeIn K cd15 "read_bare" = true)
    (k15 : PySem.W.keepIn K (.ref f15) = true)
    {f16 : Addr} {od16 an16 : Option Addr} {sl16 : Array (Option Value)} {oc16 kV16 dc16 pm16 cd16 ct16 : Value}
    (a16 : PySem.W.nsIn K mainGlobals "parsed" = some (some (.ref f16)))
    (l16 : K.lookup f16 = some ⟨oc16, od16, .func (PySem.W.fnOf "parsed" "parsed" (fnArgs s_parsed) (fnBody s_parsed) (fnScope s_parsed) .none kV16 dc16 pm16 an16 cd16 ct16), sl16⟩)
    (c16 : PySem.W.codeIn K cd16 "parsed" = true)
    (k16 : PySem.W.keepIn K (.ref f16) = true)
    {f17 : Addr} {od17 an17 : Option Addr} {sl17 : Array (Option Value)} {oc17 kV17 dc17 pm17 cd17 ct17 : Value}
    (a17 : PySem.W.nsIn K mainGlobals "joined" = some (some (.ref f17)))
    (l17 : K.lookup f17 = some ⟨oc17, od17, .func (PySem.W.fnOf "joined" "joined" (fnArgs s_joined) (fnBody s_joined) (fnScope s_joined) .none kV17 dc17 pm17 an17 cd17 ct17), sl17⟩)
    (c17 : PySem.W.codeIn K cd17 "joined" = true)
    (k17 : PySem.W.keepIn K (.ref f17) = true)
    {f18 : Addr} {od18 an18 : Option Addr} {sl18 : Array (Option Value)} {oc18 kV18 dc18 pm18 cd18 ct18 : Value}
    (a18 : PySem.W.nsIn K mainGlobals "_law_bag" = some (some (.ref f18)))
    (l18 : K.lookup f18 = some ⟨oc18, od18, .func (PySem.W.fnOf "_law_bag" "_law_bag" (fnArgs s__law_bag) (fnBody s__law_bag) (fnScope s__law_bag) .none kV18 dc18 pm18 an18 cd18 ct18), sl18⟩)
    (c18 : PySem.W.codeIn K cd18 "_law_bag" = true)
    (k18 : PySem.W.keepIn K (.ref f18) = true)
    {f19 : Addr} {od19 an19 : Option Addr} {sl19 : Array (Option Value)} {oc19 kV19 dc19 pm19 cd19 ct19 : Value}
    (a19 : PySem.W.nsIn K mainGlobals "_law_pull" = some (some (.ref f19)))
    (l19 : K.lookup f19 = some ⟨oc19, od19, .func (PySem.W.fnOf "_law_pull" "_law_pull" (fnArgs s__law_pull) (fnBody s__law_pull) (fnScope s__law_pull) .none kV19 dc19 pm19 an19 cd19 ct19), sl19⟩)
    (c19 : PySem.W.codeIn K cd19 "_law_pull" = true)
    (k19 : PySem.W.keepIn K (.ref f19) = true)
    {f20 : Addr} {od20 an20 : Option Addr} {sl20 : Array (Option Value)} {oc20 kV20 dc20 pm20 cd20 ct20 : Value}
    (a20 : PySem.W.nsIn K mainGlobals "_law_of" = some (some (.ref f20)))
    (l20 : K.lookup f20 = some ⟨oc20, od20, .func (PySem.W.fnOf "_law_of" "_law_of" (fnArgs s__law_of) (fnBody s__law_of) (fnScope s__law_of) .none kV20 dc20 pm20 an20 cd20 ct20), sl20⟩)
    (c20 : PySem.W.codeIn K cd20 "_law_of" = true)
    (k20 : PySem.W.keepIn K (.ref f20) = true)
    {f21 : Addr} {od21 an21 : Option Addr} {sl21 : Array (Option Value)} {oc21 kV21 dc21 pm21 cd21 ct21 : Value}
    (a21 : PySem.W.nsIn K mainGlobals "_law_text" = some (some (.ref f21)))
    (l21 : K.lookup f21 = some ⟨oc21, od21, .func (PySem.W.fnOf "_law_text" "_law_text" (fnArgs s__law_text) (fnBody s__law_text) (fnScope s__law_text) .none kV21 dc21 pm21 an21 cd21 ct21), sl21⟩)
    (c21 : PySem.W.codeIn K cd21 "_law_text" = true)
    (k21 : PySem.W.keepIn K (.ref f21) = true)
    {f22 : Addr} {od22 an22 : Option Addr} {sl22 : Array (Option Value)} {oc22 kV22 dc22 pm22 cd22 ct22 : Value}
    (a22 : PySem.W.nsIn K mainGlobals "_law_turned" = some (some (.ref f22)))
    (l22 : K.lookup f22 = some ⟨oc22, od22, .func (PySem.W.fnOf "_law_turned" "_law_turned" (fnArgs s__law_turned) (fnBody s__law_turned) (fnScope s__law_turned) .none kV22 dc22 pm22 an22 cd22 ct22), sl22⟩)
    (c22 : PySem.W.codeIn K cd22 "_law_turned" = true)
    (k22 : PySem.W.keepIn K (.ref f22) = true)
    {f23 : Addr} {od23 an23 : Option Addr} {sl23 : Array (Option Value)} {oc23 kV23 dc23 pm23 cd23 ct23 : Value}
    (a23 : PySem.W.nsIn K mainGlobals "_law_pairs" = some (some (.ref f23)))
    (l23 : K.lookup f23 = some ⟨oc23, od23, .func (PySem.W.fnOf "_law_pairs" "_law_pairs" (fnArgs s__law_pairs) (fnBody s__law_pairs) (fnScope s__law_pairs) .none kV23 dc23 pm23 an23 cd23 ct23), sl23⟩)
    (c23 : PySem.W.codeIn K cd23 "_law_pairs" = true)
    (k23 : PySem.W.keepIn K (.ref f23) = true)
    {f24 : Addr} {od24 an24 : Option Addr} {sl24 : Array (Option Value)} {oc24 kV24 dc24 pm24 cd24 ct24 : Value}
    (a24 : PySem.W.nsIn K mainGlobals "_law_bare" = some (some (.ref f24)))
    (l24 : K.lookup f24 = some ⟨oc24, od24, .func (PySem.W.fnOf "_law_bare" "_law_bare" (fnArgs s__law_bare) (fnBody s__law_bare) (fnScope s__law_bare) .none kV24 dc24 pm24 an24 cd24 ct24), sl24⟩)
    (c24 : PySem.W.codeIn K cd24 "_law_bare" = true)
    (k24 : PySem.W.keepIn K (.ref f24) = true)
    {f25 : Addr} {od25 an25 : Option Addr} {sl25 : Array (Option Value)} {oc25 kV25 dc25 pm25 cd25 ct25 : Value}
    (a25 : PySem.W.nsIn K mainGlobals "_law_all_words" = some (some (.ref f25)))
    (l25 : K.lookup f25 = some ⟨oc25, od25, .func (PySem.W.fnOf "_law_all_words" "_law_all_words" (fnArgs s__law_all_words) (fnBody s__law_all_words) (fnScope s__law_all_words) .none kV25 dc25 pm25 an25 cd25 ct25), sl25⟩)
    (c25 : PySem.W.codeIn K cd25 "_law_all_words" = true)
    (k25 : PySem.W.keepIn K (.ref f25) = true)
    {f26 : Addr} {od26 an26 : Option Addr} {sl26 : Array (Option Value)} {oc26 kV26 dc26 pm26 cd26 ct26 : Value}
    (a26 : PySem.W.nsIn K mainGlobals "law" = some (some (.ref f26)))
    (l26 : K.lookup f26 = some ⟨oc26, od26, .func (PySem.W.fnOf "law" "law" (fnArgs s_law) (fnBody s_law) (fnScope s_law) .none kV26 dc26 pm26 an26 cd26 ct26), sl26⟩)
    (c26 : PySem.W.codeIn K cd26 "law" = true)
    (k26 : PySem.W.keepIn K (.ref f26) = true)
    (z0 : PySem.W.nsIn K mainGlobals "range" = some none)
    (z1 : PySem.W.nsIn K mainGlobals "len" = some none)
    (z2 : PySem.W.nsIn K mainGlobals "all" = some none)
    (z3 : PySem.W.nsIn K mainGlobals "tuple" = some none)
    (z4 : PySem.W.nsIn K mainGlobals "list" = some none)
    (z5 : PySem.W.nsIn K mainGlobals "min" = some none)
    (z6 : PySem.W.nsIn K mainGlobals "max" = some none)
    {t0 : Tok}
    (y0 : PySem.W.nsIn K mainGlobals "LONGEST_NAME" = some (some (.int 8 t0)))
    {t1 : Tok}
    (y1 : PySem.W.nsIn K mainGlobals "LONGEST" = some (some (.int 1000 t1)))
    {t2 : Tok}
    (y2 : PySem.W.nsIn K mainGlobals "TURNED_SIGNS" = some (some (.str (Str.ofString " \\{}\"$[];#") t2)))
    {t3 : Tok}
    (y3 : PySem.W.nsIn K mainGlobals "TURN" = some (some (.str (Str.ofString "\\") t3)))
    {t4 : Tok}
    (y4 : PySem.W.nsIn K mainGlobals "WHITE" = some (some (.str (Str.ofString " \n") t4)))
    {t5 : Tok}
    (y5 : PySem.W.nsIn K mainGlobals "COMMAND_ENDS" = some (some (.str (Str.ofString "\n;") t5)))
    {t6 : Tok}
    (y6 : PySem.W.nsIn K mainGlobals "MOST_RUNS" = some (some (.int 12 t6)))
    {CBadList : Addr}
    (gBadList : PySem.W.nsIn K mainGlobals "BadList" = some (some (.ref CBadList)))
    {fBadList___init__ : Addr} {odBadList___init__ anBadList___init__ : Option Addr} {slBadList___init__ : Array (Option Value)} {ocBadList___init__ kVBadList___init__ dcBadList___init__ pmBadList___init__ cdBadList___init__ ctBadList___init__ : Value}
    (aBadList___init__ : PySem.W.findIn K (.ref CBadList) "__init__" = some (some (.ref fBadList___init__)))
    (lBadList___init__ : K.lookup fBadList___init__ = some ⟨ocBadList___init__, odBadList___init__, .func (PySem.W.fnOf "__init__" "BadList.__init__" (fnArgs s_BadList___init__) (fnBody s_BadList___init__) (fnScope s_BadList___init__) .none kVBadList___init__ dcBadList___init__ pmBadList___init__ anBadList___init__ cdBadList___init__ ctBadList___init__), slBadList___init__⟩)
    (cBadList___init__ : PySem.W.codeIn K cdBadList___init__ "BadList.__init__" = true)
    (iBadList___init__ : PySem.W.typeIn K (.ref fBadList___init__) = some (.type "function"))
    (nBadList_place : PySem.W.findIn K (.ref CBadList) "place" = some none)
    {rBadList0 : Addr}
    {nmBadList qBadList : Str} {NBadList : Addr} {bsBadList : List Value} {snBadList : List Str} {subBadList : List Value} {abBadList : Bool} {colBadList : Option Bool} {ddBadList : Option Addr} {m0BadList m1BadList m2BadList m3BadList m5BadList : Option Value}
    (xBadList : K.lookup CBadList = some (excClassObj nmBadList qBadList CBadList NBadList bsBadList [.ref rBadList0, .type "ValueError", .type "Exception", .type "BaseException", .type "object"] true snBadList subBadList abBadList colBadList ddBadList m0BadList m1BadList m2BadList m3BadList m5BadList "ValueError.__new__"))
    (saBadList : PySem.W.findIn K (.ref CBadList) "__setattr__" = some (some (.builtin "object.__setattr__")))
    (gaBadList : PySem.W.findIn K (.ref CBadList) "__getattribute__" = some (some (.builtin "BaseException.__getattribute__")))
    (ggBadList : PySem.W.findIn K (.ref CBadList) "__getattr__" = some none)
    (exBadList : PySem.W.subIn K (.ref CBadList) (.type "BaseException") = some true)
    (tyBadList : PySem.W.typeIn K (.ref CBadList) = some (.type "type"))
    (kcBadList : PySem.W.keepIn K (.ref CBadList) = true)
    (hdBadList : PySem.W.hasDictIn K CBadList = true)
    (icBadList : PySem.W.isClsIn K CBadList = true)
    (suBadList : PySem.W.subIn K (.ref CBadList) (.ref CBadList) = some true)
    {CBadScript : Addr}
    (gBadScript : PySem.W.nsIn K mainGlobals "BadScript" = some (some (.ref CBadScript)))
    {fBadScript___init__ : Addr} {odBadScript___init__ anBadScript___init__ : Option Addr} {slBadScript___init__ : Array (Option Value)} {ocBadScript___init__ kVBadScript___init__ dcBadScript___init__ pmBadScript___init__ cdBadScript___init__ ctBadScript___init__ : Value}
    (aBadScript___init__ : PySem.W.findIn K (.ref CBadScript) "__init__" = some (some (.ref fBadScript___init__)))
    (lBadScript___init__ : K.lookup fBadScript___init__ = some ⟨ocBadScript___init__, odBadScript___init__, .func (PySem.W.fnOf "__init__" "BadScript.__init__" (fnArgs s_BadScript___init__) (fnBody s_BadScript___init__) (fnScope s_BadScript___init__) .none kVBadScript___init__ dcBadScript___init__ pmBadScript___init__ anBadScript___init__ cdBadScript___init__ ctBadScript___init__), slBadScript___init__⟩)
    (cBadScript___init__ : PySem.W.codeIn K cdBadScript___init__ "BadScript.__init__" = true)
    (iBadScript___init__ : PySem.W.typeIn K (.ref fBadScript___init__) = some (.type "function"))
    (nBadScript_place : PySem.W.findIn K (.ref CBadScript) "place" = some none)
    {rBadScript0 : Addr}
    {nmBadScript qBadScript : Str} {NBadScript : Addr} {bsBadScript : List Value} {snBadScript : List Str} {subBadScript : List Value} {abBadScript : Bool} {colBadScript : Option Bool} {ddBadScript : Option Addr} {m0BadScript m1BadScript m2BadScript m3BadScript m5BadScript : Option Value}
    (xBadScript : K.lookup CBadScript = some (excClassObj nmBadScript qBadScript CBadScript NBadScript bsBadScript [.ref rBadScript0, .type "ValueError", .type "Exception", .type "BaseException", .type "object"] true snBadScript subBadScript abBadScript colBadScript ddBadScript m0BadScript m1BadScript m2BadScript m3BadScript m5BadScript "ValueError.__new__"))
    (saBadScript : PySem.W.findIn K (.ref CBadScript) "__setattr__" = some (some (.builtin "object.__setattr__")))
    (gaBadScript : PySem.W.findIn K (.ref CBadScript) "__getattribute__" = some (some (.builtin "BaseException.__getattribute__")))
    (ggBadScript : PySem.W.findIn K (.ref CBadScript) "__getattr__" = some none)
    (exBadScript : PySem.W.subIn K (.ref CBadScript) (.type "BaseException") = some true)
    (tyBadScript : PySem.W.typeIn K (.ref CBadScript) = some (.type "type"))
    (kcBadScript : PySem.W.keepIn K (.ref CBadScript) = true)
    (hdBadScript : PySem.W.hasDictIn K CBadScript = true)
    (icBadScript : PySem.W.isClsIn K CBadScript = true)
    (suBadScript : PySem.W.subIn K (.ref CBadScript) (.ref CBadScript) = some true)
    {CReader : Addr}
    (gReader : PySem.W.nsIn K mainGlobals "Reader" = some (some (.ref CReader)))
    {fReader___init__ : Addr} {odReader___init__ anReader___init__ : Option Addr} {slReader___init__ : Array (Option Value)} {ocReader___init__ kVReader___init__ dcReader___init__ pmReader___init__ cdReader___init__ ctReader___init__ : Value}
    (aReader___init__ : PySem.W.findIn K (.ref CReader) "__init__" = some (some (.ref fReader___init__)))
    (lReader___init__ : K.lookup fReader___init__ = some ⟨ocReader___init__, odReader___init__, .func (PySem.W.fnOf "__init__" "Reader.__init__" (fnArgs s_Reader___init__) (fnBody s_Reader___init__) (fnScope s_Reader___init__) .none kVReader___init__ dcReader___init__ pmReader___init__ anReader___init__ cdReader___init__ ctReader___init__), slReader___init__⟩)
    (cReader___init__ : PySem.W.codeIn K cdReader___init__ "Reader.__init__" = true)
    (iReader___init__ : PySem.W.isFn K (.ref fReader___init__) = true)
    (kReader___init__ : PySem.W.keepIn K (.ref fReader___init__) = true)
    {fReader_ends_text : Addr} {odReader_ends_text anReader_ends_text : Option Addr} {slReader_ends_text : Array (Option Value)} {ocReader_ends_text kVReader_ends_text dcReader_ends_text pmReader_ends_text cdReader_ends_text ctReader_ends_text : Value}
    (aReader_ends_text : PySem.W.findIn K (.ref CReader) "ends_text" = some (some (.ref fReader_ends_text)))
    (lReader_ends_text : K.lookup fReader_ends_text = some ⟨ocReader_ends_text, odReader_ends_text, .func (PySem.W.fnOf "ends_text" "Reader.ends_text" (fnArgs s_Reader_ends_text) (fnBody s_Reader_ends_text) (fnScope s_Reader_ends_text) .none kVReader_ends_text dcReader_ends_text pmReader_ends_text anReader_ends_text cdReader_ends_text ctReader_ends_text), slReader_ends_text⟩)
    (cReader_ends_text : PySem.W.codeIn K cdReader_ends_text "Reader.ends_text" = true)
    (iReader_ends_text : PySem.W.isFn K (.ref fReader_ends_text) = true)
    (kReader_ends_text : PySem.W.keepIn K (.ref fReader_ends_text) = true)
    {fReader_ends_script : Addr} {odReader_ends_script anReader_ends_script : Option Addr} {slReader_ends_script : Array (Option Value)} {ocReader_ends_script kVReader_ends_script dcReader_ends_script pmReader_ends_script cdReader_ends_script ctReader_ends_script : Value}
    (aReader_ends_script : PySem.W.findIn K (.ref CReader) "ends_script" = some (some (.ref fReader_ends_script)))
    (lReader_ends_script : K.lookup fReader_ends_script = some ⟨ocReader_ends_script, odReader_ends_script, .func (PySem.W.fnOf "ends_script" "Reader.ends_script" (fnArgs s_Reader_ends_script) (fnBody s_Reader_ends_script) (fnScope s_Reader_ends_script) .none kVReader_ends_script dcReader_ends_script pmReader_ends_script anReader_ends_script cdReader_ends_script ctReader_ends_script), slReader_ends_script⟩)
    (cReader_ends_script : PySem.W.codeIn K cdReader_ends_script "Reader.ends_script" = true)
    (iReader_ends_script : PySem.W.isFn K (.ref fReader_ends_script) = true)
    (kReader_ends_script : PySem.W.keepIn K (.ref fReader_ends_script) = true)
    {fReader_ends_command : Addr} {odReader_ends_command anReader_ends_command : Option Addr} {slReader_ends_command : Array (Option Value)} {ocReader_ends_command kVReader_ends_command dcReader_ends_command pmReader_ends_command cdReader_ends_command ctReader_ends_command : Value}
    (aReader_ends_command : PySem.W.findIn K (.ref CReader) "ends_command" = some (some (.ref fReader_ends_command)))
    (lReader_ends_command : K.lookup fReader_ends_command = some ⟨ocReader_ends_command, odReader_ends_command, .func (PySem.W.fnOf "ends_command" "Reader.ends_command" (fnArgs s_Reader_ends_command) (fnBody s_Reader_ends_command) (fnScope s_Reader_ends_command) .none kVReader_ends_command dcReader_ends_command pmReader_ends_command anReader_ends_command cdReader_ends_command ctReader_ends_command), slReader_ends_command⟩)
    (cReader_ends_command : PySem.W.codeIn K cdReader_ends_command "Reader.ends_command" = true)
    (iReader_ends_command : PySem.W.isFn K (.ref fReader_ends_command) = true)
    (kReader_ends_command : PySem.W.keepIn K (.ref fReader_ends_command) = true)
    {fReader_ends_word : Addr} {odReader_ends_word anReader_ends_word : Option Addr} {slReader_ends_word : Array (Option Value)} {ocReader_ends_word kVReader_ends_word dcReader_ends_word pmReader_ends_word cdReader_ends_word ctReader_ends_word : Value}
    (aReader_ends_word : PySem.W.findIn K (.ref CReader) "ends_word" = some (some (.ref fReader_ends_word)))
    (lReader_ends_word : K.lookup fReader_ends_word = some ⟨ocReader_ends_word, odReader_ends_word, .func (PySem.W.fnOf "ends_word" "Reader.ends_word" (fnArgs s_Reader_ends_word) (fnBody s_Reader_ends_word) (fnScope s_Reader_ends_word) .none kVReader_ends_word dcReader_ends_word pmReader_ends_word anReader_ends_word cdReader_ends_word ctReader_ends_word), slReader_ends_word⟩)
    (cReader_ends_word : PySem.W.codeIn K cdReader_ends_word "Reader.ends_word" = true)
    (iReader_ends_word : PySem.W.isFn K (.ref fReader_ends_word) = true)
    (kReader_ends_word : PySem.W.keepIn K (.ref fReader_ends_word) = true)
    {fReader_read_script : Addr} {odReader_read_script anReader_read_script : Option Addr} {slReader_read_script : Array (Option Value)} {ocReader_read_script kVReader_read_script dcReader_read_script pmReader_read_script cdReader_read_script ctReader_read_script : Value}
    (aReader_read_script : PySem.W.findIn K (.ref CReader) "read_script" = some (some (.ref fReader_read_script)))
    (lReader_read_script : K.lookup fReader_read_script = some ⟨ocReader_read_script, odReader_read_script, .func (PySem.W.fnOf "read_script" "Reader.read_script" (fnArgs s_Reader_read_script) (fnBody s_Reader_read_script) (fnScope s_Reader_read_script) .none kVReader_read_script dcReader_read_script pmReader_read_script anReader_read_script cdReader_read_script ctReader_read_script), slReader_read_script⟩)
    (cReader_read_script : PySem.W.codeIn K cdReader_read_script "Reader.read_script" = true)
    (iReader_read_script : PySem.W.isFn K (.ref fReader_read_script) = true)
    (kReader_read_script : PySem.W.keepIn K (.ref fReader_read_script) = true)
    {fReader_pass_remark : Addr} {odReader_pass_remark anReader_pass_remark : Option Addr} {slReader_pass_remark : Array (Option Value)} {ocReader_pass_remark kVReader_pass_remark dcReader_pass_remark pmReader_pass_remark cdReader_pass_remark ctReader_pass_remark : Value}
    (aReader_pass_remark : PySem.W.findIn K (.ref CReader) "pass_remark" = some (some (.ref fReader_pass_remark)))
    (lReader_pass_remark : K.lookup fReader_pass_remark = some ⟨ocReader_pass_remark, odReader_pass_remark, .func (PySem.W.fnOf "pass_remark" "Reader.pass_remark" (fnArgs s_Reader_pass_remark) (fnBody s_Reader_pass_remark) (fnScope s_Reader_pass_remark) .none kVReader_pass_remark dcReader_pass_remark pmReader_pass_remark anReader_pass_remark cdReader_pass_remark ctReader_pass_remark), slReader_pass_remark⟩)
    (cReader_pass_remark : PySem.W.codeIn K cdReader_pass_remark "Reader.pass_remark" = true)
    (iReader_pass_remark : PySem.W.isFn K (.ref fReader_pass_remark) = true)
    (kReader_pass_remark : PySem.W.keepIn K (.ref fReader_pass_remark) = true)
    {fReader_read_command : Addr} {odReader_read_command anReader_read_command : Option Addr} {slReader_read_command : Array (Option Value)} {ocReader_read_command kVReader_read_command dcReader_read_command pmReader_read_command cdReader_read_command ctReader_read_command : Value}
    (aReader_read_command : PySem.W.findIn K (.ref CReader) "read_command" = some (some (.ref fReader_read_command)))
    (lReader_read_command : K.lookup fReader_read_command = some ⟨ocReader_read_command, odReader_read_command, .func (PySem.W.fnOf "read_command" "Reader.read_command" (fnArgs s_Reader_read_command) (fnBody s_Reader_read_command) (fnScope s_Reader_read_command) .none kVReader_read_command dcReader_read_command pmReader_read_command anReader_read_command cdReader_read_command ctReader_read_command), slReader_read_command⟩)
    (cReader_read_command : PySem.W.codeIn K cdReader_read_command "Reader.read_command" = true)
    (iReader_read_command : PySem.W.isFn K (.ref fReader_read_command) = true)
    (kReader_read_command : PySem.W.keepIn K (.ref fReader_read_command) = true)
    {fReader_read_word : Addr} {odReader_read_word anReader_read_word : Option Addr} {slReader_read_word : Array (Option Value)} {ocReader_read_word kVReader_read_word dcReader_read_word pmReader_read_word cdReader_read_word ctReader_read_word : Value}
    (aReader_read_word : PySem.W.findIn K (.ref CReader) "read_word" = some (some (.ref fReader_read_word)))
    (lReader_read_word : K.lookup fReader_read_word = some ⟨ocReader_read_word, odReader_read_word, .func (PySem.W.fnOf "read_word" "Reader.read_word" (fnArgs s_Reader_read_word) (fnBody s_Reader_read_word) (fnScope s_Reader_read_word) .none kVReader_read_word dcReader_read_word pmReader_read_word anReader_read_word cdReader_read_word ctReader_read_word), slReader_read_word⟩)
    (cReader_read_word : PySem.W.codeIn K cdReader_read_word "Reader.read_word" = true)
    (iReader_read_word : PySem.W.isFn K (.ref fReader_read_word) = true)
    (kReader_read_word : PySem.W.keepIn K (.ref fReader_read_word) = true)
    {fReader_read_braced : Addr} {odReader_read_braced anReader_read_braced : Option Addr} {slReader_read_braced : Array (Option Value)} {ocReader_read_braced kVReader_read_braced dcReader_read_braced pmReader_read_braced cdReader_read_braced ctReader_read_braced : Value}
    (aReader_read_braced : PySem.W.findIn K (.ref CReader) "read_braced" = some (some (.ref fReader_read_braced)))
    (lReader_read_braced : K.lookup fReader_read_braced = some ⟨ocReader_read_braced, odReader_read_braced, .func (PySem.W.fnOf "read_braced" "Reader.read_braced" (fnArgs s_Reader_read_braced) (fnBody s_Reader_read_braced) (fnScope s_Reader_read_braced) .none kVReader_read_braced dcReader_read_braced pmReader_read_braced anReader_read_braced cdReader_read_braced ctReader_read_braced), slReader_read_braced⟩)
    (cReader_read_braced : PySem.W.codeIn K cdReader_read_braced "Reader.read_braced" = true)
    (iReader_read_braced : PySem.W.isFn K (.ref fReader_read_braced) = true)
    (kReader_read_braced : PySem.W.keepIn K (.ref fReader_read_braced) = true)
    {fReader_read_quoted : Addr} {odReader_read_quoted anReader_read_quoted : Option Addr} {slReader_read_quoted : Array (Option Value)} {ocReader_read_quoted kVReader_read_quoted dcReader_read_quoted pmReader_read_quoted cdReader_read_quoted ctReader_read_quoted : Value}
    (aReader_read_quoted : PySem.W.findIn K (.ref CReader) "read_quoted" = some (some (.ref fReader_read_quoted)))
    (lReader_read_quoted : K.lookup fReader_read_quoted = some ⟨ocReader_read_quoted, odReader_read_quoted, .func (PySem.W.fnOf "read_quoted" "Reader.read_quoted" (fnArgs s_Reader_read_quoted) (fnBody s_Reader_read_quoted) (fnScope s_Reader_read_quoted) .none kVReader_read_quoted dcReader_read_quoted pmReader_read_quoted anReader_read_quoted cdReader_read_quoted ctReader_read_quoted), slReader_read_quoted⟩)
    (cReader_read_quoted : PySem.W.codeIn K cdReader_read_quoted "Reader.read_quoted" = true)
    (iReader_read_quoted : PySem.W.isFn K (.ref fReader_read_quoted) = true)
    (kReader_read_quoted : PySem.W.keepIn K (.ref fReader_read_quoted) = true)
    {fReader_read_bare : Addr} {odReader_read_bare anReader_read_bare : Option Addr} {slReader_read_bare : Array (Option Value)} {ocReader_read_bare kVReader_read_bare dcReader_read_bare pmReader_read_bare cdReader_read_bare ctReader_read_bare : Value}
    (aReader_read_bare : PySem.W.findIn K (.ref CReader) "read_bare" = some (some (.ref fReader_read_bare)))
    (lReader_read_bare : K.lookup fReader_read_bare = some ⟨ocReader_read_bare, odReader_read_bare, .func (PySem.W.fnOf "read_bare" "Reader.read_bare" (fnArgs s_Reader_read_bare) (fnBody s_Reader_read_bare) (fnScope s_Reader_read_bare) .none kVReader_read_bare dcReader_read_bare pmReader_read_bare anReader_read_bare cdReader_read_bare ctReader_read_bare), slReader_read_bare⟩)
    (cReader_read_bare : PySem.W.codeIn K cdReader_read_bare "Reader.read_bare" = true)
    (iReader_read_bare : PySem.W.isFn K (.ref fReader_read_bare) = true)
    (kReader_read_bare : PySem.W.keepIn K (.ref fReader_read_bare) = true)
    {fReader_read_piece : Addr} {odReader_read_piece anReader_read_piece : Option Addr} {slReader_read_piece : Array (Option Value)} {ocReader_read_piece kVReader_read_piece dcReader_read_piece pmReader_read_piece cdReader_read_piece ctReader_read_piece : Value}
    (aReader_read_piece : PySem.W.findIn K (.ref CReader) "read_piece" = some (some (.ref fReader_read_piece)))
    (lReader_read_piece : K.lookup fReader_read_piece = some ⟨ocReader_read_piece, odReader_read_piece, .func (PySem.W.fnOf "read_piece" "Reader.read_piece" (fnArgs s_Reader_read_piece) (fnBody s_Reader_read_piece) (fnScope s_Reader_read_piece) .none kVReader_read_piece dcReader_read_piece pmReader_read_piece anReader_read_piece cdReader_read_piece ctReader_read_piece), slReader_read_piece⟩)
    (cReader_read_piece : PySem.W.codeIn K cdReader_read_piece "Reader.read_piece" = true)
    (iReader_read_piece : PySem.W.isFn K (.ref fReader_read_piece) = true)
    (kReader_read_piece : PySem.W.keepIn K (.ref fReader_read_piece) = true)
    {fReader_read_turned : Addr} {odReader_read_turned anReader_read_turned : Option Addr} {slReader_read_turned : Array (Option Value)} {ocReader_read_turned kVReader_read_turned dcReader_read_turned pmReader_read_turned cdReader_read_turned ctReader_read_turned : Value}
    (aReader_read_turned : PySem.W.findIn K (.ref CReader) "read_turned" = some (some (.ref fReader_read_turned)))
    (lReader_read_turned : K.lookup fReader_read_turned = some ⟨ocReader_read_turned, odReader_read_turned, .func (PySem.W.fnOf "read_turned" "Reader.read_turned" (fnArgs s_Reader_read_turned) (fnBody s_Reader_read_turned) (fnScope s_Reader_read_turned) .none kVReader_read_turned dcReader_read_turned pmReader_read_turned anReader_read_turned cdReader_read_turned ctReader_read_turned), slReader_read_turned⟩)
    (cReader_read_turned : PySem.W.codeIn K cdReader_read_turned "Reader.read_turned" = true)
    (iReader_read_turned : PySem.W.isFn K (.ref fReader_read_turned) = true)
    (kReader_read_turned : PySem.W.keepIn K (.ref fReader_read_turned) = true)
    {fReader_read_name : Addr} {odReader_read_name anReader_read_name : Option Addr} {slReader_read_name : Array (Option Value)} {ocReader_read_name kVReader_read_name dcReader_read_name pmReader_read_name cdReader_read_name ctReader_read_name : Value}
    (aReader_read_name : PySem.W.findIn K (.ref CReader) "read_name" = some (some (.ref fReader_read_name)))
    (lReader_read_name : K.lookup fReader_read_name = some ⟨ocReader_read_name, odReader_read_name, .func (PySem.W.fnOf "read_name" "Reader.read_name" (fnArgs s_Reader_read_name) (fnBody s_Reader_read_name) (fnScope s_Reader_read_name) .none kVReader_read_name dcReader_read_name pmReader_read_name anReader_read_name cdReader_read_name ctReader_read_name), slReader_read_name⟩)
    (cReader_read_name : PySem.W.codeIn K cdReader_read_name "Reader.read_name" = true)
    (iReader_read_name : PySem.W.isFn K (.ref fReader_read_name) = true)
    (kReader_read_name : PySem.W.keepIn K (.ref fReader_read_name) = true)
    {fReader_read_letters : Addr} {odReader_read_letters anReader_read_letters : Option Addr} {slReader_read_letters : Array (Option Value)} {ocReader_read_letters kVReader_read_letters dcReader_read_letters pmReader_read_letters cdReader_read_letters ctReader_read_letters : Value}
    (aReader_read_letters : PySem.W.findIn K (.ref CReader) "read_letters" = some (some (.ref fReader_read_letters)))
    (lReader_read_letters : K.lookup fReader_read_letters = some ⟨ocReader_read_letters, odReader_read_letters, .func (PySem.W.fnOf "read_letters" "Reader.read_letters" (fnArgs s_Reader_read_letters) (fnBody s_Reader_read_letters) (fnScope s_Reader_read_letters) .none kVReader_read_letters dcReader_read_letters pmReader_read_letters anReader_read_letters cdReader_read_letters ctReader_read_letters), slReader_read_letters⟩)
    (cReader_read_letters : PySem.W.codeIn K cdReader_read_letters "Reader.read_letters" = true)
    (iReader_read_letters : PySem.W.isFn K (.ref fReader_read_letters) = true)
    (kReader_read_letters : PySem.W.keepIn K (.ref fReader_read_letters) = true)
    {fReader_read_run : Addr} {odReader_read_run anReader_read_run : Option Addr} {slReader_read_run : Array (Option Value)} {ocReader_read_run kVReader_read_run dcReader_read_run pmReader_read_run cdReader_read_run ctReader_read_run : Value}
    (aReader_read_run : PySem.W.findIn K (.ref CReader) "read_run" = some (some (.ref fReader_read_run)))
    (lReader_read_run : K.lookup fReader_read_run = some ⟨ocReader_read_run, odReader_read_run, .func (PySem.W.fnOf "read_run" "Reader.read_run" (fnArgs s_Reader_read_run) (fnBody s_Reader_read_run) (fnScope s_Reader_read_run) .none kVReader_read_run dcReader_read_run pmReader_read_run anReader_read_run cdReader_read_run ctReader_read_run), slReader_read_run⟩)
    (cReader_read_run : PySem.W.codeIn K cdReader_read_run "Reader.read_run" = true)
    (iReader_read_run : PySem.W.isFn K (.ref fReader_read_run) = true)
    (kReader_read_run : PySem.W.keepIn K (.ref fReader_read_run) = true)
    (nReader_source : PySem.W.findIn K (.ref CReader) "source" = some none)
    (nReader_at : PySem.W.findIn K (.ref CReader) "at" = some none)
    (nReader_within : PySem.W.findIn K (.ref CReader) "within" = some none)
    (pgReader : PySem.W.plainGet K CReader Str.empty = true)
    (hdReader : PySem.W.hasDictIn K CReader = true)
    (poReader : PySem.W.plainOver K CReader = true)
    (saReader : PySem.W.findIn K (.ref CReader) "__setattr__" = some (some (.builtin "object.__setattr__")))
    (mkReader : PySem.W.makesIn K CReader = true)
    (kcReader : PySem.W.keepIn K (.ref CReader) = true)
    : ∃ fd : FuncData, (∀ (s : Shared) (v : Value), BindsTo s fd ⟨[v], []⟩ [("_law_script", v)]) ∧ ∀ base : Heap, K.In base → base.Ns mainGlobals mg → FnOk P w K mg base C8.CX0 84 fa fd ["_law_script"] (spLaw K) := by
  have e := hfa.symm.trans (PySem.W.mg_of X G a26)
  cases e
  have T : Txt mg := ⟨PySem.W.mg_none_of X G z0, PySem.W.mg_none_of X G z1, PySem.W.mg_none_of X G z2, PySem.W.mg_none_of X G z3, PySem.W.mg_none_of X G z4, PySem.W.mg_none_of X G z5, PySem.W.mg_none_of X G z6, ⟨_, PySem.W.mg_of X G y0, ⟨_, rfl⟩⟩, ⟨_, PySem.W.mg_of X G y1, ⟨_, rfl⟩⟩, ⟨_, PySem.W.mg_of X G y2, ⟨_, rfl⟩⟩, ⟨_, PySem.W.mg_of X G y3, ⟨_, rfl⟩⟩, ⟨_, PySem.W.mg_of X G y4, ⟨_, rfl⟩⟩, ⟨_, PySem.W.mg_of X G y5, ⟨_, rfl⟩⟩, ⟨_, PySem.W.mg_of X G y6, ⟨_, rfl⟩⟩⟩
  have F_pair_end : Def K mg "pair_end" s_pair_end f0 _ := ⟨⟨oc0, od0, .none, kV0, dc0, pm0, an0, cd0, ct0, sl0, rfl, l0, c0⟩, PySem.W.mg_of X G a0, k0⟩
  have b_pair_end := F_pair_end.fn.binds (ps := ["text", "start"]) rfl fun _ _ _ _ _ _ us hl => match us, hl with | [_, _], _ => rfl
  have F_can_stand_in_braces : Def K mg "can_stand_in_braces" s_can_stand_in_braces f1 _ := ⟨⟨oc1, od1, .none, kV1, dc1, pm1, an1, cd1, ct1, sl1, rfl, l1, c1⟩, PySem.W.mg_of X G a1, k1⟩
  have b_can_stand_in_braces := F_can_stand_in_braces.fn.binds (ps := ["word"]) rfl fun _ _ _ _ _ _ us hl => match us, hl with | [_], _ => rfl
  have F_is_letter : Def K mg "is_letter" s_is_letter f2 _ := ⟨⟨oc2, od2, .none, kV2, dc2, pm2, an2, cd2, ct2, sl2, rfl, l2, c2⟩, PySem.W.mg_of X G a2, k2⟩
  have b_is_letter := F_is_letter.fn.binds (ps := ["sign"]) rfl fun _ _ _ _ _ _ us hl => match us, hl with | [_], _ => rfl
  have F_is_name : Def K mg "is_name" s_is_name f3 _ := ⟨⟨oc3, od3, .none, kV3, dc3, pm3, an3, cd3, ct3, sl3, rfl, l3, c3⟩, PySem.W.mg_of X G a3, k3⟩
  have b_is_name := F_is_name.fn.binds (ps := ["text"]) rfl fun _ _ _ _ _ _ us hl => match us, hl with | [_], _ => rfl
  have F_refuse_long : Def K mg "refuse_long" s_refuse_long f4 _ := ⟨⟨oc4, od4, .none, kV4, dc4, pm4, an4, cd4, ct4, sl4, rfl, l4, c4⟩, PySem.W.mg_of X G a4, k4⟩
  have b_refuse_long := F_refuse_long.fn.binds (ps := ["text"]) rfl fun _ _ _ _ _ _ us hl => match us, hl with | [_], _ => rfl
  have F_turned_sign : Def K mg "turned_sign" s_turned_sign f5 _ := ⟨⟨oc5, od5, .none, kV5, dc5, pm5, an5, cd5, ct5, sl5, rfl, l5, c5⟩, PySem.W.mg_of X G a5, k5⟩
  have b_turned_sign := F_turned_sign.fn.binds (ps := ["sign"]) rfl fun _ _ _ _ _ _ us hl => match us, hl with | [_], _ => rfl
  have F_turned : Def K mg "turned" s_turned f6 _ := ⟨⟨oc6, od6, .none, kV6, dc6, pm6, an6, cd6, ct6, sl6, rfl, l6, c6⟩, PySem.W.mg_of X G a6, k6⟩
  have b_turned := F_turned.fn.binds (ps := ["text"]) rfl fun _ _ _ _ _ _ us hl => match us, hl with | [_], _ => rfl
  have F_meant : Def K mg "meant" s_meant f7 _ := ⟨⟨oc7, od7, .none, kV7, dc7, pm7, an7, cd7, ct7, sl7, rfl, l7, c7⟩, PySem.W.mg_of X G a7, k7⟩
  have b_meant := F_meant.fn.binds (ps := ["sign"]) rfl fun _ _ _ _ _ _ us hl => match us, hl with | [_], _ => rfl
  have F_word_text : Def K mg "word_text" s_word_text f8 _ := ⟨⟨oc8, od8, .none, kV8, dc8, pm8, an8, cd8, ct8, sl8, rfl, l8, c8⟩, PySem.W.mg_of X G a8, k8⟩
  have b_word_text := F_word_text.fn.binds (ps := ["word"]) rfl fun _ _ _ _ _ _ us hl => match us, hl with | [_], _ => rfl
  have F_list_text : Def K mg "list_text" s_list_text f9 _ := ⟨⟨oc9, od9, .none, kV9, dc9, pm9, an9, cd9, ct9, sl9, rfl, l9, c9⟩, PySem.W.mg_of X G a9, k9⟩
  have b_list_text := F_list_text.fn.binds (ps := ["words"]) rfl fun _ _ _ _ _ _ us hl => match us, hl with | [_], _ => rfl
  have F_read_list : Def K mg "read_list" s_read_list f10 _ := ⟨⟨oc10, od10, .none, kV10, dc10, pm10, an10, cd10, ct10, sl10, rfl, l10, c10⟩, PySem.W.mg_of X G a10, k10⟩
  have b_read_list := F_read_list.fn.binds (ps := ["text"]) rfl fun _ _ _ _ _ _ us hl => match us, hl with | [_], _ => rfl
  have F_read_words : Def K mg "read_words" s_read_words f11 _ := ⟨⟨oc11, od11, .none, kV11, dc11, pm11, an11, cd11, ct11, sl11, rfl, l11, c11⟩, PySem.W.mg_of X G a11, k11⟩
  have b_read_words := F_read_words.fn.binds (ps := ["text"]) rfl fun _ _ _ _ _ _ us hl => match us, hl with | [_], _ => rfl
  have F_behind_white : Def K mg "behind_white" s_behind_white f12 _ := ⟨⟨oc12, od12, .none, kV12, dc12, pm12, an12, cd12, ct12, sl12, rfl, l12, c12⟩, PySem.W.mg_of X G a12, k12⟩
  have b_behind_white := F_behind_white.fn.binds (ps := ["text", "start"]) rfl fun _ _ _ _ _ _ us hl => match us, hl with | [_, _], _ => rfl
  have F_read_word : Def K mg "read_word" s_read_word f13 _ := ⟨⟨oc13, od13, .none, kV13, dc13, pm13, an13, cd13, ct13, sl13, rfl, l13, c13⟩, PySem.W.mg_of X G a13, k13⟩
  have b_read_word := F_read_word.fn.binds (ps := ["text", "start"]) rfl fun _ _ _ _ _ _ us hl => match us, hl with | [_, _], _ => rfl
  have F_read_braced : Def K mg "read_braced" s_read_braced f14 _ := ⟨⟨oc14, od14, .none, kV14, dc14, pm14, an14, cd14, ct14, sl14, rfl, l14, c14⟩, PySem.W.mg_of X G a14, k14⟩
  have b_read_braced := F_read_braced.fn.binds (ps := ["text", "start"]) rfl fun _ _ _ _ _ _ us hl => match us, hl with | [_, _], _ => rfl
  have F_read_bare : Def K mg "read_bare" s_read_bare f15 _ := ⟨⟨oc15, od15, .none, kV15, dc15, pm15, an15, cd15, ct15, sl15, rfl, l15, c15⟩, PySem.W.mg_of X G a15, k15⟩
  have b_read_bare := F_read_bare.fn.binds (ps := ["text", "start"]) rfl fun _ _ _ _ _ _ us hl => match us, hl with | [_, _], _ => rfl
  have F_parsed : Def K mg "parsed" s_parsed f16 _ := ⟨⟨oc16, od16, .none, kV16, dc16, pm16, an16, cd16, ct16, sl16, rfl, l16, c16⟩, PySem.W.mg_of X G a16, k16⟩
  have b_parsed := F_parsed.fn.binds (ps := ["text"]) rfl fun _ _ _ _ _ _ us hl => match us, hl with | [_], _ => rfl
  have F_joined : Def K mg "joined" s_joined f17 _ := ⟨⟨oc17, od17, .none, kV17, dc17, pm17, an17, cd17, ct17, sl17, rfl, l17, c17⟩, PySem.W.mg_of X G a17, k17⟩
  have b_joined := F_joined.fn.binds (ps := ["pieces"]) rfl fun _ _ _ _ _ _ us hl => match us, hl with | [_], _ => rfl
  have F__law_bag : Def K mg "_law_bag" s__law_bag f18 _ := ⟨⟨oc18, od18, .none, kV18, dc18, pm18, an18, cd18, ct18, sl18, rfl, l18, c18⟩, PySem.W.mg_of X G a18, k18⟩
  have b__law_bag := F__law_bag.fn.binds (ps := ["_law_script"]) rfl fun _ _ _ _ _ _ us hl => match us, hl with | [_], _ => rfl
  have F__law_pull : Def K mg "_law_pull" s__law_pull f19 _ := ⟨⟨oc19, od19, .none, kV19, dc19, pm19, an19, cd19, ct19, sl19, rfl, l19, c19⟩, PySem.W.mg_of X G a19, k19⟩
  have b__law_pull := F__law_pull.fn.binds (ps := ["_law_bag_here", "_law_amount"]) rfl fun _ _ _ _ _ _ us hl => match us, hl with | [_, _], _ => rfl
  have F__law_of : Def K mg "_law_of" s__law_of f20 _ := ⟨⟨oc20, od20, .none, kV20, dc20, pm20, an20, cd20, ct20, sl20, rfl, l20, c20⟩, PySem.W.mg_of X G a20, k20⟩
  have b__law_of := F__law_of.fn.binds (ps := ["_law_bag_here", "_law_things"]) rfl fun _ _ _ _ _ _ us hl => match us, hl with | [_, _], _ => rfl
  have F__law_text : Def K mg "_law_text" s__law_text f21 _ := ⟨⟨oc21, od21, .none, kV21, dc21, pm21, an21, cd21, ct21, sl21, rfl, l21, c21⟩, PySem.W.mg_of X G a21, k21⟩
  have b__law_text := F__law_text.fn.binds (ps := ["_law_bag_here", "_law_top"]) rfl fun _ _ _ _ _ _ us hl => match us, hl with | [_, _], _ => rfl
  have F__law_turned : Def K mg "_law_turned" s__law_turned f22 _ := ⟨⟨oc22, od22, .none, kV22, dc22, pm22, an22, cd22, ct22, sl22, rfl, l22, c22⟩, PySem.W.mg_of X G a22, k22⟩
  have b__law_turned := F__law_turned.fn.binds (ps := ["_law_text_here"]) rfl fun _ _ _ _ _ _ us hl => match us, hl with | [_], _ => rfl
  have F__law_pairs : Def K mg "_law_pairs" s__law_pairs f23 _ := ⟨⟨oc23, od23, .none, kV23, dc23, pm23, an23, cd23, ct23, sl23, rfl, l23, c23⟩, PySem.W.mg_of X G a23, k23⟩
  have b__law_pairs := F__law_pairs.fn.binds (ps := ["_law_text_here"]) rfl fun _ _ _ _ _ _ us hl => match us, hl with | [_], _ => rfl
  have F__law_bare : Def K mg "_law_bare" s__law_bare f24 _ := ⟨⟨oc24, od24, .none, kV24, dc24, pm24, an24, cd24, ct24, sl24, rfl, l24, c24⟩, PySem.W.mg_of X G a24, k24⟩
  have b__law_bare := F__law_bare.fn.binds (ps := ["_law_text_here"]) rfl fun _ _ _ _ _ _ us hl => match us, hl with | [_], _ => rfl
  have F__law_all_words : Def K mg "_law_all_words" s__law_all_words f25 _ := ⟨⟨oc25, od25, .none, kV25, dc25, pm25, an25, cd25, ct25, sl25, rfl, l25, c25⟩, PySem.W.mg_of X G a25, k25⟩
  have b__law_all_words := F__law_all_words.fn.binds (ps := ["_law_signs"]) rfl fun _ _ _ _ _ _ us hl => match us, hl with | [_], _ => rfl
  have F_law : Def K mg "law" s_law fa _ := ⟨⟨oc26, od26, .none, kV26, dc26, pm26, an26, cd26, ct26, sl26, rfl, l26, c26⟩, PySem.W.mg_of X G a26, k26⟩
  have b_law := F_law.fn.binds (ps := ["_law_script"]) rfl fun _ _ _ _ _ _ us hl => match us, hl with | [_], _ => rfl
  have mg_BadList := PySem.W.mg_of X G gBadList
  have F_BadList___init__ : C8.Fun K "__init__" "BadList.__init__" s_BadList___init__ fBadList___init__ _ := ⟨ocBadList___init__, odBadList___init__, .none, kVBadList___init__, dcBadList___init__, pmBadList___init__, anBadList___init__, cdBadList___init__, ctBadList___init__, slBadList___init__, rfl, lBadList___init__, cBadList___init__⟩
  have b_BadList___init__ := F_BadList___init__.binds (ps := ["self", "place"]) rfl fun _ _ _ _ _ _ us hl => match us, hl with | [_, _], _ => rfl
  have ox_BadList : OexC K CBadList := ⟨⟨_, _, _, _, _, _, _, _, _, _, _, _, _, _, _, xBadList, by show PySem.HandSPX.refsVE PySem.HandSPX.veTail = true; decide +kernel⟩, saBadList, exBadList, tyBadList, kcBadList⟩
  have xf_BadList : XfC K CBadList := ⟨gaBadList, ggBadList, exBadList, hdBadList⟩
  have te_BadList := exm_self exBadList icBadList tyBadList suBadList
  have mg_BadScript := PySem.W.mg_of X G gBadScript
  have F_BadScript___init__ : C8.Fun K "__init__" "BadScript.__init__" s_BadScript___init__ fBadScript___init__ _ := ⟨ocBadScript___init__, odBadScript___init__, .none, kVBadScript___init__, dcBadScript___init__, pmBadScript___init__, anBadScript___init__, cdBadScript___init__, ctBadScript___init__, slBadScript___init__, rfl, lBadScript___init__, cBadScript___init__⟩
  have b_BadScript___init__ := F_BadScript___init__.binds (ps := ["self", "place"]) rfl fun _ _ _ _ _ _ us hl => match us, hl with | [_, _], _ => rfl
  have ox_BadScript : OexC K CBadScript := ⟨⟨_, _, _, _, _, _, _, _, _, _, _, _, _, _, _, xBadScript, by show PySem.HandSPX.refsVE PySem.HandSPX.veTail = true; decide +kernel⟩, saBadScript, exBadScript, tyBadScript, kcBadScript⟩
  have xf_BadScript : XfC K CBadScript := ⟨gaBadScript, ggBadScript, exBadScript, hdBadScript⟩
  have te_BadScript := exm_self exBadScript icBadScript tyBadScript suBadScript
  have mg_Reader := PySem.W.mg_of X G gReader
  have F_Reader___init__ : C8.Fun K "__init__" "Reader.__init__" s_Reader___init__ fReader___init__ _ := ⟨ocReader___init__, odReader___init__, .none, kVReader___init__, dcReader___init__, pmReader___init__, anReader___init__, cdReader___init__, ctReader___init__, slReader___init__, rfl, lReader___init__, cReader___init__⟩
  have b_Reader___init__ := F_Reader___init__.binds (ps := ["self", "source"]) rfl fun _ _ _ _ _ _ us hl => match us, hl with | [_, _], _ => rfl
  have F_Reader_ends_text : C8.Fun K "ends_text" "Reader.ends_text" s_Reader_ends_text fReader_ends_text _ := ⟨ocReader_ends_text, odReader_ends_text, .none, kVReader_ends_text, dcReader_ends_text, pmReader_ends_text, anReader_ends_text, cdReader_ends_text, ctReader_ends_text, slReader_ends_text, rfl, lReader_ends_text, cReader_ends_text⟩
  have b_Reader_ends_text := F_Reader_ends_text.binds (ps := ["self"]) rfl fun _ _ _ _ _ _ us hl => match us, hl with | [_], _ => rfl
  have me_Reader_ends_text : Meth K CReader "ends_text" fReader_ends_text := ⟨aReader_ends_text, iReader_ends_text, kReader_ends_text⟩
  have F_Reader_ends_script : C8.Fun K "ends_script" "Reader.ends_script" s_Reader_ends_script fReader_ends_script _ := ⟨ocReader_ends_script, odReader_ends_script, .none, kVReader_ends_script, dcReader_ends_script, pmReader_ends_script, anReader_ends_script, cdReader_ends_script, ctReader_ends_script, slReader_ends_script, rfl, lReader_ends_script, cReader_ends_script⟩
  have b_Reader_ends_script := F_Reader_ends_script.binds (ps := ["self"]) rfl fun _ _ _ _ _ _ us hl => match us, hl with | [_], _ => rfl
  have me_Reader_ends_script : Meth K CReader "ends_script" fReader_ends_script := ⟨aReader_ends_script, iReader_ends_script, kReader_ends_script⟩
  have F_Reader_ends_command : C8.Fun K "ends_command" "Reader.ends_command" s_Reader_ends_command fReader_ends_command _ := ⟨ocReader_ends_command, odReader_ends_command, .none, kVReader_ends_command, dcReader_ends_command, pmReader_ends_command, anReader_ends_command, cdReader_ends_command, ctReader_ends_command, slReader_ends_command, rfl, lReader_ends_command, cReader_ends_command⟩
  have b_Reader_ends_command := F_Reader_ends_command.binds (ps := ["self"]) rfl fun _ _ _ _ _ _ us hl => match us, hl with | [_], _ => rfl
  have me_Reader_ends_command : Meth K CReader "ends_command" fReader_ends_command := ⟨aReader_ends_command, iReader_ends_command, kReader_ends_command⟩
  have F_Reader_ends_word : C8.Fun K "ends_word" "Reader.ends_word" s_Reader_ends_word fReader_ends_word _ := ⟨ocReader_ends_word, odReader_ends_word, .none, kVReader_ends_word, dcReader_ends_word, pmReader_ends_word, anReader_ends_word, cdReader_ends_word, ctReader_ends_word, slReader_ends_word, rfl, lReader_ends_word, cReader_ends_word⟩
  have b_Reader_ends_word := F_Reader_ends_word.binds (ps := ["self"]) rfl fun _ _ _ _ _ _ us hl => match us, hl with | [_], _ => rfl
  have me_Reader_ends_word : Meth K CReader "ends_word" fReader_ends_word := ⟨aReader_ends_word, iReader_ends_word, kReader_ends_word⟩
  have F_Reader_read_script : C8.Fun K "read_script" "Reader.read_script" s_Reader_read_script fReader_read_script _ := ⟨ocReader_read_script, odReader_read_script, .none, kVReader_read_script, dcReader_read_script, pmReader_read_script, anReader_read_script, cdReader_read_script, ctReader_read_script, slReader_read_script, rfl, lReader_read_script, cReader_read_script⟩
  have b_Reader_read_script := F_Reader_read_script.binds (ps := ["self"]) rfl fun _ _ _ _ _ _ us hl => match us, hl with | [_], _ => rfl
  have me_Reader_read_script : Meth K CReader "read_script" fReader_read_script := ⟨aReader_read_script, iReader_read_script, kReader_read_script⟩
  have F_Reader_pass_remark : C8.Fun K "pass_remark" "Reader.pass_remark" s_Reader_pass_remark fReader_pass_remark _ := ⟨ocReader_pass_remark, odReader_pass_remark, .none, kVReader_pass_remark, dcReader_pass_remark, pmReader_pass_remark, anReader_pass_remark, cdReader_pass_remark, ctReader_pass_remark, slReader_pass_remark, rfl, lReader_pass_remark, cReader_pass_remark⟩
  have b_Reader_pass_remark := F_Reader_pass_remark.binds (ps := ["self"]) rfl fun _ _ _ _ _ _ us hl => match us, hl with | [_], _ => rfl
  have me_Reader_pass_remark : Meth K CReader "pass_remark" fReader_pass_remark := ⟨aReader_pass_remark, iReader_pass_remark, kReader_pass_remark⟩
  have F_Reader_read_command : C8.Fun K "read_command" "Reader.read_command" s_Reader_read_command fReader_read_command _ := ⟨ocReader_read_command, odReader_read_command, .none, kVReader_read_command, dcReader_read_command, pmReader_read_command, anReader_read_command, cdReader_read_command, ctReader_read_command, slReader_read_command, rfl, lReader_read_command, cReader_read_command⟩
  have b_Reader_read_command := F_Reader_read_command.binds (ps := ["self"]) rfl fun _ _ _ _ _ _ us hl => match us, hl with | [_], _ => rfl
  have me_Reader_read_command : Meth K CReader "read_command" fReader_read_command := ⟨aReader_read_command, iReader_read_command, kReader_read_command⟩
  have F_Reader_read_word : C8.Fun K "read_word" "Reader.read_word" s_Reader_read_word fReader_read_word _ := ⟨ocReader_read_word, odReader_read_word, .none, kVReader_read_word, dcReader_read_word, pmReader_read_word, anReader_read_word, cdReader_read_word, ctReader_read_word, slReader_read_word, rfl, lReader_read_word, cReader_read_word⟩
  have b_Reader_read_word := F_Reader_read_word.binds (ps := ["self"]) rfl fun _ _ _ _ _ _ us hl => match us, hl with | [_], _ => rfl
  have me_Reader_read_word : Meth K CReader "read_word" fReader_read_word := ⟨aReader_read_word, iReader_read_word, kReader_read_word⟩
  have F_Reader_read_braced : C8.Fun K "read_braced" "Reader.read_braced" s_Reader_read_braced fReader_read_braced _ := ⟨ocReader_read_braced, odReader_read_braced, .none, kVReader_read_braced, dcReader_read_braced, pmReader_read_braced, anReader_read_braced, cdReader_read_braced, ctReader_read_braced, slReader_read_braced, rfl, lReader_read_braced, cReader_read_braced⟩
  have b_Reader_read_braced := F_Reader_read_braced.binds (ps := ["self"]) rfl fun _ _ _ _ _ _ us hl => match us, hl with | [_], _ => rfl
  have me_Reader_read_braced : Meth K CReader "read_braced" fReader_read_braced := ⟨aReader_read_braced, iReader_read_braced, kReader_read_braced⟩
  have F_Reader_read_quoted : C8.Fun K "read_quoted" "Reader.read_quoted" s_Reader_read_quoted fReader_read_quoted _ := ⟨ocReader_read_quoted, odReader_read_quoted, .none, kVReader_read_quoted, dcReader_read_quoted, pmReader_read_quoted, anReader_read_quoted, cdReader_read_quoted, ctReader_read_quoted, slReader_read_quoted, rfl, lReader_read_quoted, cReader_read_quoted⟩
  have b_Reader_read_quoted := F_Reader_read_quoted.binds (ps := ["self"]) rfl fun _ _ _ _ _ _ us hl => match us, hl with | [_], _ => rfl
  have me_Reader_read_quoted : Meth K CReader "read_quoted" fReader_read_quoted := ⟨aReader_read_quoted, iReader_read_quoted, kReader_read_quoted⟩
  have F_Reader_read_bare : C8.Fun K "read_bare" "Reader.read_bare" s_Reader_read_bare fReader_read_bare _ := ⟨ocReader_read_bare, odReader_read_bare, .none, kVReader_read_bare, dcReader_read_bare, pmReader_read_bare, anReader_read_bare, cdReader_read_bare, ctReader_read_bare, slReader_read_bare, rfl, lReader_read_bare, cReader_read_bare⟩
  have b_Reader_read_bare := F_Reader_read_bare.binds (ps := ["self"]) rfl fun _ _ _ _ _ _ us hl => match us, hl with | [_], _ => rfl
  have me_Reader_read_bare : Meth K CReader "read_bare" fReader_read_bare := ⟨aReader_read_bare, iReader_read_bare, kReader_read_bare⟩
  have F_Reader_read_piece : C8.Fun K "read_piece" "Reader.read_piece" s_Reader_read_piece fReader_read_piece _ := ⟨ocReader_read_piece, odReader_read_piece, .none, kVReader_read_piece, dcReader_read_piece, pmReader_read_piece, anReader_read_piece, cdReader_read_piece, ctReader_read_piece, slReader_read_piece, rfl, lReader_read_piece, cReader_read_piece⟩
  have b_Reader_read_piece := F_Reader_read_piece.binds (ps := ["self"]) rfl fun _ _ _ _ _ _ us hl => match us, hl with | [_], _ => rfl
  have me_Reader_read_piece : Meth K CReader "read_piece" fReader_read_piece := ⟨aReader_read_piece, iReader_read_piece, kReader_read_piece⟩
  have F_Reader_read_turned : C8.Fun K "read_turned" "Reader.read_turned" s_Reader_read_turned fReader_read_turned _ := ⟨ocReader_read_turned, odReader_read_turned, .none, kVReader_read_turned, dcReader_read_turned, pmReader_read_turned, anReader_read_turned, cdReader_read_turned, ctReader_read_turned, slReader_read_turned, rfl, lReader_read_turned, cReader_read_turned⟩
  have b_Reader_read_turned := F_Reader_read_turned.binds (ps := ["self"]) rfl fun _ _ _ _ _ _ us hl => match us, hl with | [_], _ => rfl
  have me_Reader_read_turned : Meth K CReader "read_turned" fReader_read_turned := ⟨aReader_read_turned, iReader_read_turned, kReader_read_turned⟩
  have F_Reader_read_name : C8.Fun K "read_name" "Reader.read_name" s_Reader_read_name fReader_read_name _ := ⟨ocReader_read_name, odReader_read_name, .none, kVReader_read_name, dcReader_read_name, pmReader_read_name, anReader_read_name, cdReader_read_name, ctReader_read_name, slReader_read_name, rfl, lReader_read_name, cReader_read_name⟩
  have b_Reader_read_name := F_Reader_read_name.binds (ps := ["self"]) rfl fun _ _ _ _ _ _ us hl => match us, hl with | [_], _ => rfl
  have me_Reader_read_name : Meth K CReader "read_name" fReader_read_name := ⟨aReader_read_name, iReader_read_name, kReader_read_name⟩
  have F_Reader_read_letters : C8.Fun K "read_letters" "Reader.read_letters" s_Reader_read_letters fReader_read_letters _ := ⟨ocReader_read_letters, odReader_read_letters, .none, kVReader_read_letters, dcReader_read_letters, pmReader_read_letters, anReader_read_letters, cdReader_read_letters, ctReader_read_letters, slReader_read_letters, rfl, lReader_read_letters, cReader_read_letters⟩
  have b_Reader_read_letters := F_Reader_read_letters.binds (ps := ["self"]) rfl fun _ _ _ _ _ _ us hl => match us, hl with | [_], _ => rfl
  have me_Reader_read_letters : Meth K CReader "read_letters" fReader_read_letters := ⟨aReader_read_letters, iReader_read_letters, kReader_read_letters⟩
  have F_Reader_read_run : C8.Fun K "read_run" "Reader.read_run" s_Reader_read_run fReader_read_run _ := ⟨ocReader_read_run, odReader_read_run, .none, kVReader_read_run, dcReader_read_run, pmReader_read_run, anReader_read_run, cdReader_read_run, ctReader_read_run, slReader_read_run, rfl, lReader_read_run, cReader_read_run⟩
  have b_Reader_read_run := F_Reader_read_run.binds (ps := ["self"]) rfl fun _ _ _ _ _ _ us hl => match us, hl with | [_], _ => rfl
  have me_Reader_read_run : Meth K CReader "read_run" fReader_read_run := ⟨aReader_read_run, iReader_read_run, kReader_read_run⟩
  have cls_Reader : Cls K CReader := ⟨pgReader, hdReader, poReader, saReader⟩
  have mk_Reader : Mk K CReader fReader___init__ := ⟨mkReader, aReader___init__, iReader___init__, kcReader⟩
  refine ⟨PySem.W.fnOf "law" "law" (fnArgs s_law) (fnBody s_law) (fnScope s_law) .none kV26 dc26 pm26 an26 cd26 ct26, fun s v => .of_eq rfl, fun base _ _ => ?_⟩
  have c_pair_end := ok_pair_end (P := P) (w := w) (base := base) F_pair_end b_pair_end T 
  have c_can_stand_in_braces := ok_can_stand_in_braces (P := P) (w := w) (base := base) F_can_stand_in_braces b_can_stand_in_braces T c_pair_end
  have c_turned_sign := ok_turned_sign (P := P) (w := w) (base := base) F_turned_sign b_turned_sign T 
  have c_turned := ok_turned (P := P) (w := w) (base := base) F_turned b_turned T c_turned_sign
  have c_word_text := ok_word_text (P := P) (w := w) (base := base) F_word_text b_word_text T c_turned c_can_stand_in_braces
  have c_list_text := ok_list_text (P := P) (w := w) (base := base) F_list_text b_list_text T c_word_text
  have c_is_letter := ok_is_letter (P := P) (w := w) (base := base) F_is_letter b_is_letter T 
  have c_is_name := ok_is_name (P := P) (w := w) (base := base) F_is_name b_is_name T c_is_letter
  have c_refuse_long := ok_refuse_long (P := P) (w := w) (base := base) F_refuse_long b_refuse_long T 
  have c_meant := ok_meant (P := P) (w := w) (base := base) F_meant b_meant T 
  have c_behind_white := ok_behind_white (P := P) (w := w) (base := base) F_behind_white b_behind_white T 
  have c_read_braced := ok_read_braced (P := P) (w := w) (base := base) F_read_braced b_read_braced T c_pair_end
  have c_read_bare := ok_read_bare (P := P) (w := w) (base := base) F_read_bare b_read_bare T c_meant
  have c_read_word := ok_read_word (P := P) (w := w) (base := base) F_read_word b_read_word T c_read_braced c_read_bare
  have c_read_words := ok_read_words (P := P) (w := w) (base := base) F_read_words b_read_words T c_behind_white c_read_word
  have c_read_list := ok_read_list (P := P) (w := w) (base := base) F_read_list b_read_list T c_refuse_long c_read_words
  have c_joined := ok_joined (P := P) (w := w) (base := base) F_joined b_joined T 
  have R : RdC K mg CReader := ⟨cls_Reader, nReader_source, nReader_at, nReader_within, mg_Reader⟩
  have M : RdM K CReader := ⟨⟨_, _, me_Reader_ends_text, F_Reader_ends_text, b_Reader_ends_text⟩, ⟨_, _, me_Reader_ends_script, F_Reader_ends_script, b_Reader_ends_script⟩, ⟨_, _, me_Reader_ends_command, F_Reader_ends_command, b_Reader_ends_command⟩, ⟨_, _, me_Reader_ends_word, F_Reader_ends_word, b_Reader_ends_word⟩, ⟨_, _, me_Reader_read_script, F_Reader_read_script, b_Reader_read_script⟩, ⟨_, _, me_Reader_pass_remark, F_Reader_pass_remark, b_Reader_pass_remark⟩, ⟨_, _, me_Reader_read_command, F_Reader_read_command, b_Reader_read_command⟩, ⟨_, _, me_Reader_read_word, F_Reader_read_word, b_Reader_read_word⟩, ⟨_, _, me_Reader_read_braced, F_Reader_read_braced, b_Reader_read_braced⟩, ⟨_, _, me_Reader_read_quoted, F_Reader_read_quoted, b_Reader_read_quoted⟩, ⟨_, _, me_Reader_read_bare, F_Reader_read_bare, b_Reader_read_bare⟩, ⟨_, _, me_Reader_read_piece, F_Reader_read_piece, b_Reader_read_piece⟩, ⟨_, _, me_Reader_read_turned, F_Reader_read_turned, b_Reader_read_turned⟩, ⟨_, _, me_Reader_read_name, F_Reader_read_name, b_Reader_read_name⟩, ⟨_, _, me_Reader_read_letters, F_Reader_read_letters, b_Reader_read_letters⟩, ⟨_, _, me_Reader_read_run, F_Reader_read_run, b_Reader_read_run⟩⟩
  have xB : PlaceC P w K mg base "BadScript" CBadScript := ⟨ox_BadScript, mg_BadScript, _, _, _, aBadScript___init__, iBadScript___init__, ok_place_init ox_BadScript nBadScript_place F_BadScript___init__, b_BadScript___init__⟩
  have c_Reader := ok_rd_init (P := P) (w := w) (base := base) R F_Reader___init__ b_Reader___init__ mk_Reader
  have c_read_script := ok_reader (P := P) (w := w) (base := base) R M T xB c_pair_end c_meant c_is_letter c_is_name c_joined 13
  have c_parsed := ok_parsed (P := P) (w := w) (base := base) F_parsed b_parsed T R c_refuse_long c_Reader c_read_script
  have c__law_bag := ok__law_bag (P := P) (w := w) (base := base) F__law_bag b__law_bag T 
  have c__law_pull := ok__law_pull (P := P) (w := w) (base := base) F__law_pull b__law_pull T 
  have c__law_of := ok__law_of (P := P) (w := w) (base := base) F__law_of b__law_of T c__law_pull
  have c__law_text := ok__law_text (P := P) (w := w) (base := base) F__law_text b__law_text T c__law_pull c__law_of
  have c__law_turned := ok__law_turned (P := P) (w := w) (base := base) F__law_turned b__law_turned T 
  have c__law_pairs := ok__law_pairs (P := P) (w := w) (base := base) F__law_pairs b__law_pairs T 
  have c__law_bare := ok__law_bare (P := P) (w := w) (base := base) F__law_bare b__law_bare T 
  have c__law_all_words := ok__law_all_words (P := P) (w := w) (base := base) F__law_all_words b__law_all_words T 
  exact ok_law F_law T c__law_bag c__law_pull c__law_text c__law_turned c__law_pairs c__law_bare c__law_all_words c_word_text c_list_text c_read_list c_parsed.calm
theorem walk {l : PySem.W.OpenLaw} {q : Program} {loose : List Str} {XP : (Str → Option Value) → Heap → Prop} {YP : World → Heap → Prop} {d : DefRec} {K : Params → PySem.W.Frag} (hn : l.most = some 63) (hdf : d.params.defaults = [])
    (hY : ∀ (w : World) (h : Heap), YP w h → (K w.params).In h)
    (F : ∀ (w : World) (mg : Str → Option Value) (fa : Addr) (h : Heap), (K w.params).In h → h.Ns mainGlobals mg → mg d.name = some (.ref fa) →
      ∃ fd : FuncData, (∀ (s : Shared) (u : Value), BindsTo s fd ⟨[u], []⟩ [("_law_script", u)]) ∧ ∀ base : Heap, (K w.params).In base → base.Ns mainGlobals mg → FnOk l.prog w (K w.params) mg base C8.CX0 84 fa fd ["_law_script"] (spLaw (K w.params))) :
    PySem.W.WalkO q loose XP YP l.row.toRowW d [] (fun f vs => PySem.call f vs) :=
  L2.walk_of (n := 63) (k := 84) (x := "_law_script") (CX := fun _ => C8.CX0) (sp := fun w => spLaw (K w.params)) hn (by decide) hdf ⟨rfl, by decide, by decide⟩ hY F (fun _ _ a ns hl _ hS => ⟨a, ns, rfl, hS, hl, fun _ => rfl⟩) fun _ _ _ _ _ z => z
end
end My
open PySem PySem.W PyProof.Rows
set_option maxRecDepth 100000 in
set_option maxHeartbeats 0 in
theorem PySem.Challenge.cw_wordrooms_k06_whole_all_small_words_holds : PySem.Challenge.rw_wordrooms_k06_whole_all_small_words.Holds := by
  w_on; o_law; k_head; (case hw => w_witness2)
  k_fill
  refine My.walk (l := PySem.Challenge.rw_wordrooms_k06_whole_all_small_words) rfl rfl (fun w h Y => PySem.W.kIn_of Y) ?F
  case F =>
    intro w mg fa h KX G hmg
    refine' My.all_mk KX G hmg ?a0 ?l0 ?c0 ?k0 ?a1 ?l1 ?c1 ?k1 ?a2 ?l2 ?c2 ?k2 ?a3 ?l3 ?c3 ?k3 ?a4 ?l4 ?c4 ?k4 ?a5 ?l5 ?c5 ?k5 ?a6 ?l6 ?c6 ?k6 ?a7 ?l7 ?c7 ?k7 ?a8 ?l8 ?c8 ?k8 ?a9 ?l9 ?c9 ?k9 ?a10 ?l10 ?c10 ?k10 ?a11 ?l11 ?c11 ?k11 ?a12 ?l12 ?c12 ?k12 ?a13 ?l13 ?c13 ?k13 ?a14 ?l14 ?c14 ?k14 ?a15 ?l15 ?c15 ?k15 ?a16 ?l16 ?c16 ?k16 ?a17 ?l17 ?c17 ?k17 ?a18 ?l18 ?c18 ?k18 ?a19 ?l19 ?c19 ?k19 ?a20 ?l20 ?c20 ?k20 ?a21 ?l21 ?c21 ?k21 ?a22 ?l22 ?c22 ?k22 ?a23 ?l23 ?c23 ?k23 ?a24 ?l24 ?c24 ?k24 ?a25 ?l25 ?c25 ?k25 ?a26 ?l26 ?c26 ?k26 ?z0 ?z1 ?z2 ?z3 ?z4 ?z5 ?z6 ?y0 ?y1 ?y2 ?y3 ?y4 ?y5 ?y6 ?gBadList ?aBadList___init__ ?lBadList___init__ ?cBadList___init__ ?iBadList___init__ ?nBadList_place ?xBadList ?saBadList ?gaBadList ?ggBadList ?exBadList ?tyBadList ?kcBadList ?hdBadList ?icBadList ?suBadList ?gBadScript ?aBadScript___init__ ?lBadScript___init__ ?cBadScript___init__ ?iBadScript___init__ ?nBadScript_place ?xBadScript ?saBadScript ?gaBadScript ?ggBadScript ?exBadScript ?tyBadScript ?kcBadScript ?hdBadScript ?icBadScript ?suBadScript ?gReader ?aReader___init__ ?lReader___init__ ?cReader___init__ ?iReader___init__ ?kReader___init__ ?aReader_ends_text ?lReader_ends_text ?cReader_ends_text ?iReader_ends_text ?kReader_ends_text ?aReader_ends_script ?lReader_ends_script ?cReader_ends_script ?iReader_ends_script ?kReader_ends_script ?aReader_ends_command ?lReader_ends_command ?cReader_ends_command ?iReader_ends_command ?kReader_ends_command ?aReader_ends_word ?lReader_ends_word ?cReader_ends_word ?iReader_ends_word ?kReader_ends_word ?aReader_read_script ?lReader_read_script ?cReader_read_script ?iReader_read_script ?kReader_read_script ?aReader_pass_remark ?lReader_pass_remark ?cReader_pass_remark ?iReader_pass_remark ?kReader_pass_remark ?aReader_read_command ?lReader_read_command ?cReader_read_command ?iReader_read_command ?kReader_read_command ?aReader_read_word ?lReader_read_word ?cReader_read_word ?iReader_read_word ?kReader_read_word ?aReader_read_braced ?lReader_read_braced ?cReader_read_braced ?iReader_read_braced ?kReader_read_braced ?aReader_read_quoted ?lReader_read_quoted ?cReader_read_quoted ?iReader_read_quoted ?kReader_read_quoted ?aReader_read_bare ?lReader_read_bare ?cReader_read_bare ?iReader_read_bare ?kReader_read_bare ?aReader_read_piece ?lReader_read_piece ?cReader_read_piece ?iReader_read_piece ?kReader_read_piece ?aReader_read_turned ?lReader_read_turned ?cReader_read_turned ?iReader_read_turned ?kReader_read_turned ?aReader_read_name ?lReader_read_name ?cReader_read_name ?iReader_read_name ?kReader_read_name ?aReader_read_letters ?lReader_read_letters ?cReader_read_letters ?iReader_read_letters ?kReader_read_letters ?aReader_read_run ?lReader_read_run ?cReader_read_run ?iReader_read_run ?kReader_read_run ?nReader_source ?nReader_at ?nReader_within ?pgReader ?hdReader ?poReader ?saReader ?mkReader ?kcReader
    (case a0 => k_is); (case l0 => k_is); (case c0 => k_is); (case k0 => k_is); (case a1 => k_is); (case l1 => k_is)
    (case c1 => k_is); (case k1 => k_is); (case a2 => k_is); (case l2 => k_is); (case c2 => k_is); (case k2 => k_is)
    (case a3 => k_is); (case l3 => k_is); (case c3 => k_is); (case k3 => k_is); (case a4 => k_is); (case l4 => k_is)
    (case c4 => k_is); (case k4 => k_is); (case a5 => k_is); (case l5 => k_is); (case c5 => k_is); (case k5 => k_is)
    (case a6 => k_is); (case l6 => k_is); (case c6 => k_is); (case k6 => k_is); (case a7 => k_is); (case l7 => k_is)
    (case c7 => k_is); (case k7 => k_is); (case a8 => k_is); (case l8 => k_is); (case c8 => k_is); (case k8 => k_is)
    (case a9 => k_is); (case l9 => k_is); (case c9 => k_is); (case k9 => k_is); (case a10 => k_is); (case l10 => k_is)
    (case c10 => k_is); (case k10 => k_is); (case a11 => k_is); (case l11 => k_is); (case c11 => k_is); (case k11 => k_is)
    (case a12 => k_is); (case l12 => k_is); (case c12 => k_is); (case k12 => k_is); (case a13 => k_is); (case l13 => k_is)
    (case c13 => k_is); (case k13 => k_is); (case a14 => k_is); (case l14 => k_is); (case c14 => k_is); (case k14 => k_is)
    (case a15 => k_is); (case l15 => k_is); (case c15 => k_is); (case k15 => k_is); (case a16 => k_is); (case l16 => k_is)
    (case c16 => k_is); (case k16 => k_is); (case a17 => k_is); (case l17 => k_is); (case c17 => k_is); (case k17 => k_is)
    (case a18 => k_is); (case l18 => k_is); (case c18 => k_is); (case k18 => k_is); (case a19 => k_is); (case l19 => k_is)
    (case c19 => k_is); (case k19 => k_is); (case a20 => k_is); (case l20 => k_is); (case c20 => k_is); (case k20 => k_is)
    (case a21 => k_is); (case l21 => k_is); (case c21 => k_is); (case k21 => k_is); (case a22 => k_is); (case l22 => k_is)
    (case c22 => k_is); (case k22 => k_is); (case a23 => k_is); (case l23 => k_is); (case c23 => k_is); (case k23 => k_is)
    (case a24 => k_is); (case l24 => k_is); (case c24 => k_is); (case k24 => k_is); (case a25 => k_is); (case l25 => k_is)
    (case c25 => k_is); (case k25 => k_is); (case a26 => k_is); (case l26 => k_is); (case c26 => k_is); (case k26 => k_is)
    (case z0 => k_is); (case z1 => k_is); (case z2 => k_is); (case z3 => k_is); (case z4 => k_is); (case z5 => k_is)
    (case z6 => k_is); (case y0 => k_is); (case y1 => k_is); (case y2 => k_is); (case y3 => k_is); (case y4 => k_is)
    (case y5 => k_is); (case y6 => k_is); (case gBadList => k_is); (case aBadList___init__ => k_is); (case lBadList___init__ => k_is); (case cBadList___init__ => k_is)
    (case iBadList___init__ => k_is); (case nBadList_place => k_is); (case xBadList => k_is); (case saBadList => k_is); (case gaBadList => k_is); (case ggBadList => k_is)
    (case exBadList => k_is); (case tyBadList => k_is); (case kcBadList => k_is); (case hdBadList => k_is); (case icBadList => k_is); (case suBadList => first | rfl | k_is)
    (case gBadScript => k_is); (case aBadScript___init__ => k_is); (case lBadScript___init__ => k_is); (case cBadScript___init__ => k_is); (case iBadScript___init__ => k_is); (case nBadScript_place => k_is)
    (case xBadScript => k_is); (case saBadScript => k_is); (case gaBadScript => k_is); (case ggBadScript => k_is); (case exBadScript => k_is); (case tyBadScript => k_is)
    (case kcBadScript => k_is); (case hdBadScript => k_is); (case icBadScript => k_is); (case suBadScript => first | rfl | k_is); (case gReader => k_is); (case aReader___init__ => k_is)
    (case lReader___init__ => k_is); (case cReader___init__ => k_is); (case iReader___init__ => k_is); (case kReader___init__ => k_is); (case aReader_ends_text => k_is); (case lReader_ends_text => k_is)
    (case cReader_ends_text => k_is); (case iReader_ends_text => k_is); (case kReader_ends_text => k_is); (case aReader_ends_script => k_is); (case lReader_ends_script => k_is); (case cReader_ends_script => k_is)
    (case iReader_ends_script => k_is); (case kReader_ends_script => k_is); (case aReader_ends_command => k_is); (case lReader_ends_command => k_is); (case cReader_ends_command => k_is); (case iReader_ends_command => k_is)
    (case kReader_ends_command => k_is); (case aReader_ends_word => k_is); (case lReader_ends_word => k_is); (case cReader_ends_word => k_is); (case iReader_ends_word => k_is); (case kReader_ends_word => k_is)
    (case aReader_read_script => k_is); (case lReader_read_script => k_is); (case cReader_read_script => k_is); (case iReader_read_script => k_is); (case kReader_read_script => k_is); (case aReader_pass_remark => k_is)
    (case lReader_pass_remark => k_is); (case cReader_pass_remark => k_is); (case iReader_pass_remark => k_is); (case kReader_pass_remark => k_is); (case aReader_read_command => k_is); (case lReader_read_command => k_is)
    (case cReader_read_command => k_is); (case iReader_read_command => k_is); (case kReader_read_command => k_is); (case aReader_read_word => k_is); (case lReader_read_word => k_is); (case cReader_read_word => k_is)
    (case iReader_read_word => k_is); (case kReader_read_word => k_is); (case aReader_read_braced => k_is); (case lReader_read_braced => k_is); (case cReader_read_braced => k_is); (case iReader_read_braced => k_is)
    (case kReader_read_braced => k_is); (case aReader_read_quoted => k_is); (case lReader_read_quoted => k_is); (case cReader_read_quoted => k_is); (case iReader_read_quoted => k_is); (case kReader_read_quoted => k_is)
    (case aReader_read_bare => k_is); (case lReader_read_bare => k_is); (case cReader_read_bare => k_is); (case iReader_read_bare => k_is); (case kReader_read_bare => k_is); (case aReader_read_piece => k_is)
    (case lReader_read_piece => k_is); (case cReader_read_piece => k_is); (case iReader_read_piece => k_is); (case kReader_read_piece => k_is); (case aReader_read_turned => k_is); (case lReader_read_turned => k_is)
    (case cReader_read_turned => k_is); (case iReader_read_turned => k_is); (case kReader_read_turned => k_is); (case aReader_read_name => k_is); (case lReader_read_name => k_is); (case cReader_read_name => k_is)
    (case iReader_read_name => k_is); (case kReader_read_name => k_is); (case aReader_read_letters => k_is); (case lReader_read_letters => k_is); (case cReader_read_letters => k_is); (case iReader_read_letters => k_is)
    (case kReader_read_letters => k_is); (case aReader_read_run => k_is); (case lReader_read_run => k_is); (case cReader_read_run => k_is); (case iReader_read_run => k_is); (case kReader_read_run => k_is)
    (case nReader_source => k_is); (case nReader_at => k_is); (case nReader_within => k_is); (case pgReader => k_is); (case hdReader => k_is); (case poReader => k_is)
    (case saReader => k_is); (case mkReader => k_is); (case kcReader => k_is)
#print axioms PySem.Challenge.cw_wordrooms_k06_whole_all_small_words_holds
