import PyProof.Rows.All
import Wide.All
import OpenK.AllK
import Wide.FinOn
import HandS.ForMost
import HandS.Walk
import HandS.Codes
import HandS.IsInst
import HandS.Flow
import HandS.ForExc
import HandS.ExcInit
import HandS.ExcField
import PySem.Challenge.RW_wordrooms_k01_names_and_bounds
set_option Elab.async false
set_option linter.all false
set_option maxRecDepth 100000
namespace My
open PySem L2 SX
/-! ### signs and texts -/
theorem cnt_is (c : Nat) (l : List Nat) : Txt.count (S l) (S [c]) = ((l.count c : Nat) : Int) := by
  have h : Txt.count (S l) (S [c]) = PyProof.Rows.cnt c l := PyProof.Rows.count_cnt (S l) c
  rw [h]
  clear h
  induction l with
  | nil => rfl
  | cons a r ih =>
    rw [PyProof.Rows.cnt_cons, ih, List.count_cons]
    by_cases e : a = c
    · simp [e]; omega
    · simp [e]
theorem slice_nn (l : List Nat) (i j : Nat) (hi : i ≤ l.length) (hj : j ≤ l.length) : cutS (S l) (some (i : Int)) (some (j : Int)) = S ((l.drop i).take (j - i)) := by
  unfold cutS
  rw [S_len, HT.sIx_nat, HT.sIx_nat, Nat.min_eq_left hi, Nat.min_eq_left hj]
theorem slice_0n (l : List Nat) (j : Nat) (hj : j ≤ l.length) : cutS (S l) none (some (j : Int)) = S (l.take j) := by
  unfold cutS
  rw [S_len, HT.sIx_none, HT.sIx_nat, Nat.min_eq_left hj, Nat.sub_zero, List.drop_zero]
theorem dec_S (a b : List Nat) : decide (V.str (S a) = V.str (S b)) = decide (a = b) := by
  by_cases e : a = b
  · subst e; simp
  · have h : ¬ V.str (S a) = V.str (S b) := fun q => e (S_inj (V.str.inj q))
    rw [decide_eq_false h, decide_eq_false e]
theorem at_S {l : List Nat} {i : Nat} {c : Nat} (h : l[i]? = some c) : atI (S l).cps.toList (i : Int) = some c := atI_nat h
theorem size_S {l : List Nat} (h : l.length ≤ 100000) : (S l).length ≤ sizeLine := by
  rw [S_len]; exact Nat.le_trans h (by decide)
theorem lit_ob : (Str.ofString "{") = S [123] := by decide +kernel
theorem lit_cb : (Str.ofString "}") = S [125] := by decide +kernel
theorem lit_bs : (Str.ofString "\\") = S [92] := by decide +kernel
theorem lit_n : (Str.ofString "n") = S [110] := by decide +kernel
theorem lit_bsn : (Str.ofString "\\n") = S [92, 110] := by decide +kernel
theorem lit_nl : (Str.ofString "\n") = S [10] := by decide +kernel
theorem lit_e : (Str.ofString "") = S [] := by decide +kernel
theorem lit_cc : (Str.ofString "{}") = S [123, 125] := by decide +kernel
def specL : List Nat := [32, 92, 123, 125, 34, 36, 91, 93, 59, 35]
theorem lit_spec : (Str.ofString " \\{}\"$[];#") = S specL := by decide +kernel
/-! ### a word written -/
def tsig (c : Nat) : List Nat := if c = 10 then [92, 110] else if c ∈ specL then [92, c] else [c]
def turn (l : List Nat) : List Nat := l.flatMap tsig
theorem tsig_len (c : Nat) : (tsig c).length ≤ 2 := by
  unfold tsig
  split
  · simp
  · split <;> simp
theorem turn_len (l : List Nat) : (turn l).length ≤ 2 * l.length := by
  unfold turn
  induction l with
  | nil => simp
  | cons c r ih =>
    rw [List.flatMap_cons, List.length_append, List.length_cons]
    have := tsig_len c
    omega
theorem turn_snoc (l : List Nat) (c : Nat) : turn (l ++ [c]) = turn l ++ tsig c := by
  unfold turn
  rw [List.flatMap_append]
  simp
def dep (l : List Nat) : Int := (l.count 123 : Int) - (l.count 125 : Int)
def dl (c : Nat) : Int := if c = 123 then 1 else if c = 125 then -1 else 0
theorem dep_nil : dep [] = 0 := by simp [dep]
theorem dep_cons (c : Nat) (r : List Nat) : dep (c :: r) = dl c + dep r := by
  unfold dep dl
  rw [List.count_cons, List.count_cons]
  by_cases h1 : c = 123
  · subst h1; simp; omega
  · by_cases h2 : c = 125
    · subst h2; simp; omega
    · simp [h1, h2]
def Pairs (l : List Nat) : Bool := (List.range (l.length + 1)).all (fun i => decide (0 ≤ dep (l.take i))) && decide (dep l = 0)
def wtext (l : List Nat) : List Nat := if l = [] then [123, 125] else if l.length + 2 ≤ (turn l).length ∧ Pairs l = true then 123 :: (l ++ [125]) else turn l
/-- where the brace pairs: many open, at place k -/
def pend (m : Int) (k : Nat) : List Nat → Option Nat
  | [] => none
  | c :: r => if c = 123 then pend (m + 1) (k + 1) r else if c = 125 then (if m - 1 = 0 then some k else pend (m - 1) (k + 1) r) else pend m (k + 1) r
theorem pend_ok : ∀ (r : List Nat) (m : Int) (k : Nat), 1 ≤ m → (pend m k (r ++ [125]) = some (k + r.length) ↔ (∀ i, i ≤ r.length → 1 ≤ m + dep (r.take i)) ∧ m + dep r = 1)
  | [], m, k, hm => by
    show (if (125 : Nat) = 123 then _ else if (125 : Nat) = 125 then (if m - 1 = 0 then some k else pend (m - 1) (k + 1) []) else _) = some (k + 0) ↔ _
    rw [if_neg (by decide), if_pos rfl]
    by_cases h : m - 1 = 0
    · rw [if_pos h]
      refine ⟨fun _ => ⟨fun i hi => ?_, ?_⟩, fun _ => rfl⟩
      · simp [dep_nil]; omega
      · rw [dep_nil]; omega
    · rw [if_neg h]
      refine ⟨fun q => by simp [pend] at q, fun ⟨_, q⟩ => ?_⟩
      rw [dep_nil] at q
      omega
  | c :: r, m, k, hm => by
    have key : (∀ i, i ≤ (c :: r).length → 1 ≤ m + dep ((c :: r).take i)) ↔ ∀ i, i ≤ r.length → 1 ≤ (m + dl c) + dep (r.take i) := by
      constructor
      · intro h i hi
        have := h (i + 1) (by simp; omega)
        rw [List.take_succ_cons, dep_cons] at this
        omega
      · intro h i hi
        cases i with
        | zero => simp [dep_nil]; omega
        | succ i =>
          rw [List.take_succ_cons, dep_cons]
          have := h i (by simp at hi; omega)
          omega
    rw [key, dep_cons]
    have hk : k + (c :: r).length = (k + 1) + r.length := by simp; omega
    rw [hk]
    show (if c = 123 then pend (m + 1) (k + 1) (r ++ [125]) else if c = 125 then (if m - 1 = 0 then some k else pend (m - 1) (k + 1) (r ++ [125])) else pend m (k + 1) (r ++ [125])) = _ ↔ _
    by_cases h1 : c = 123
    · rw [if_pos h1, pend_ok r (m + 1) (k + 1) (by omega)]
      have : dl c = 1 := by simp [dl, h1]
      rw [this]
      constructor
      · rintro ⟨a, b⟩; exact ⟨a, by omega⟩
      · rintro ⟨a, b⟩; exact ⟨a, by omega⟩
    · rw [if_neg h1]
      by_cases h2 : c = 125
      · have hd : dl c = -1 := by simp [dl, h2]
        rw [if_pos h2, hd]
        by_cases h3 : m - 1 = 0
        · rw [if_pos h3]
          constructor
          · intro q
            have := Option.some.inj q
            omega
          · rintro ⟨a, _⟩
            have := a 0 (Nat.zero_le _)
            simp [dep_nil] at this
            omega
        · rw [if_neg h3, pend_ok r (m - 1) (k + 1) (by omega)]
          constructor
          · rintro ⟨a, b⟩; exact ⟨fun i hi => by have := a i hi; omega, by omega⟩
          · rintro ⟨a, b⟩; exact ⟨fun i hi => by have := a i hi; omega, by omega⟩
      · have hd : dl c = 0 := by simp [dl, h1, h2]
        rw [if_neg h2, hd, pend_ok r m (k + 1) hm]
        constructor
        · rintro ⟨a, b⟩; exact ⟨fun i hi => by have := a i hi; omega, by omega⟩
        · rintro ⟨a, b⟩; exact ⟨fun i hi => by have := a i hi; omega, by omega⟩
theorem pairs_iff (l : List Nat) : Pairs l = true ↔ (∀ i, i ≤ l.length → 0 ≤ dep (l.take i)) ∧ dep l = 0 := by
  unfold Pairs
  rw [Bool.and_eq_true, List.all_eq_true, decide_eq_true_eq]
  refine and_congr_left fun _ => ⟨fun h i hi => of_decide_eq_true (h i (List.mem_range.mpr (by omega))), fun h i hi => decide_eq_true (h i (by have := List.mem_range.mp hi; omega))⟩
theorem pend_pairs (l : List Nat) : pend 0 0 (123 :: (l ++ [125])) = some (l.length + 1) ↔ Pairs l = true := by
  show (if (123 : Nat) = 123 then pend (0 + 1) (0 + 1) (l ++ [125]) else _) = _ ↔ _
  rw [if_pos rfl, pairs_iff]
  have := pend_ok l (0 + 1) (0 + 1) (by omega)
  rw [show 0 + 1 + l.length = l.length + 1 by omega] at this
  rw [this]
  constructor
  · rintro ⟨a, b⟩; exact ⟨fun i hi => by have := a i hi; omega, by omega⟩
  · rintro ⟨a, b⟩; exact ⟨fun i hi => by have := a i hi; omega, by omega⟩
/-- the next sign -/
theorem pend_at {l : List Nat} {i : Nat} {c : Nat} (h : l[i]? = some c) (m : Int) (k : Nat) :
    pend m k (l.drop i) = if c = 123 then pend (m + 1) (k + 1) (l.drop (i + 1)) else if c = 125 then (if m - 1 = 0 then some k else pend (m - 1) (k + 1) (l.drop (i + 1))) else pend m (k + 1) (l.drop (i + 1)) := by
  obtain ⟨hl, e⟩ := List.getElem?_eq_some_iff.mp h
  rw [List.drop_eq_getElem_cons hl, e]
  rfl
end My
namespace My
open PySem L2 SX C8
theorem ite_S {a b : List Nat} {z : Str} {A B : Prop} (hz : z = S b) (h1 : a = b → A) (h2 : a ≠ b → B) : if decide (V.str (S a) = V.str z) = true then A else B := by
  subst hz
  rw [dec_S]
  by_cases e : a = b
  · rw [decide_eq_true e, if_pos rfl]; exact h1 e
  · rw [decide_eq_false e, if_neg Bool.false_ne_true]; exact h2 e
theorem iteD {p A B : Prop} [Decidable p] (h1 : p → A) (h2 : ¬ p → B) : if decide p = true then A else B := by
  by_cases e : p
  · rw [decide_eq_true e, if_pos rfl]; exact h1 e
  · rw [decide_eq_false e, if_neg Bool.false_ne_true]; exact h2 e
theorem iteI {i j : Int} {A B : Prop} (h1 : i = j → A) (h2 : i ≠ j → B) : if decide (V.int i = V.int j) = true then A else B :=
  iteD (fun e => h1 (V.int.inj e)) (fun e => h2 fun q => e (congrArg V.int q))
def oI : Option Nat → V
  | none => .non
  | some k => .int (k : Int)
/-! ### promises of the program's defs -/
def spPend : Sp := fun vs H Q _ => ∃ (l : List Nat) (i : Nat), vs = [.str (S l), .int (i : Int)] ∧ l.length ≤ 90000 ∧ i ≤ l.length ∧ Q (oI (pend 0 i (l.drop i))) H
def spStand : Sp := fun vs H Q _ => ∃ (l : List Nat), vs = [.str (S l)] ∧ l.length ≤ 80000 ∧ Q (.bl (Pairs l)) H
def spTsig : Sp := fun vs H Q _ => ∃ (c : Nat), vs = [.str (S [c])] ∧ Q (.str (S (tsig c))) H
def spTurned : Sp := fun vs H Q _ => ∃ (l : List Nat), vs = [.str (S l)] ∧ l.length ≤ 40000 ∧ ∀ H', Same H H' → Q (.str (S (turn l))) H'
def spWtext : Sp := fun vs H Q _ => ∃ (l : List Nat), vs = [.str (S l)] ∧ l.length ≤ 40000 ∧ ∀ H', Same H H' → Q (.str (S (wtext l))) H'
def spLturned : Sp := fun vs H Q _ => ∃ (l : List Nat), vs = [.str (S l)] ∧ l.length ≤ 40000 ∧ Q (.str (S (turn l))) H
def spLpairs : Sp := fun vs H Q _ => ∃ (l : List Nat), vs = [.str (S l)] ∧ l.length ≤ 40000 ∧ ∀ H', Same H H' → Q (.bl (Pairs l)) H'
/-! ### the law's bag -/
structure BagAt (H : Hp) (b l : Addr) : Prop where
  ex : ∃ (ns : List Int) (i : Nat) (cur salt : Int), H b = some (.lst [.ref l, .int (i : Int), .int cur, .int salt]) ∧ H l = some (.lst (ns.map V.int)) ∧ l ≠ b ∧ ns.length ≤ 63 ∧ i ≤ ns.length ∧ 0 ≤ cur ∧ 0 ≤ salt ∧ salt < 2147483647
theorem BagAt.mono {H H' : Hp} {b l : Addr} (B : BagAt H b l) (e : Same H H') : BagAt H' b l := by
  obtain ⟨ns, i, cur, salt, h1, h2, h3⟩ := B.ex
  exact ⟨ns, i, cur, salt, e _ _ h1, e _ _ h2, h3⟩
theorem BagAt.upd {H : Hp} {b l D : Addr} {o : HO} (B : BagAt H b l) (n1 : b ≠ D) (n2 : l ≠ D) : BagAt (L2.upd H D o) b l := by
  obtain ⟨ns, i, cur, salt, h1, h2, h3⟩ := B.ex
  exact ⟨ns, i, cur, salt, by rw [upd_ne n1]; exact h1, by rw [upd_ne n2]; exact h2, h3⟩
theorem BagAt.nb {H : Hp} {b l D : Addr} (B : BagAt H b l) (h : H D = none) : b ≠ D := by
  obtain ⟨ns, i, cur, salt, h1, h2, h3⟩ := B.ex
  exact ne_of_none h1 h
theorem BagAt.nl {H : Hp} {b l D : Addr} (B : BagAt H b l) (h : H D = none) : l ≠ D := by
  obtain ⟨ns, i, cur, salt, h1, h2, h3⟩ := B.ex
  exact ne_of_none h2 h
/-- all but b stays -/
def But (b : Addr) (H H' : Hp) : Prop := ∀ c o, H c = some o → c ≠ b → H' c = some o
theorem But.refl (b : Addr) (H : Hp) : But b H H := fun _ _ h _ => h
theorem But.trans {b : Addr} {H H1 H2 : Hp} (a : But b H H1) (c : But b H1 H2) : But b H H2 := fun x o h n => c x o (a x o h n) n
theorem Same.but {b : Addr} {H H' : Hp} (e : Same H H') : But b H H' := fun x o h _ => e x o h
theorem same_new {H : Hp} {p : Addr} (h : H p = none) (o : HO) : Same H (upd H p o) := fun b u q => by rw [upd_ne (ne_of_none q h)]; exact q
theorem same_mut {H H' : Hp} {p : Addr} {o : HO} (e : Same H H') (h : H p = none) : Same H (upd H' p o) := fun a u ha => by
  rw [upd_ne (ne_of_none ha h)]
  exact e a u ha
theorem but_mut {b : Addr} {H H' : Hp} {p : Addr} {o : HO} (e : But b H H') (h : H p = none) : But b H (upd H' p o) := fun a u ha n => by
  rw [upd_ne (ne_of_none ha h)]
  exact e a u ha n
theorem but_upd {b : Addr} {H H' : Hp} {o : HO} (e : But b H H') : But b H (upd H' b o) := fun a u ha n => by
  rw [upd_ne n]
  exact e a u ha n
theorem But.seq {K : PySem.W.Frag} {b a : Addr} {H H' : Hp} {xs : List V} (e : But b H H') (n : a ≠ b) (h : SqL K H a xs) : SqL K H' a xs := by
  rcases h with (h | ⟨o, h⟩) | h
  · exact .inl (.inl (e _ _ h n))
  · exact .inl (.inr ⟨o, e _ _ h n⟩)
  · exact .inr h
def spBag (K : PySem.W.Frag) : Sp := fun vs H Q _ => ∃ (a : Addr) (ns : List Int), vs = [.ref a] ∧ SqL K H a (ns.map V.int) ∧ ns.length ≤ 63 ∧ ∀ (b l : Addr) H', Same H H' → H b = none → BagAt H' b l → Q (.ref b) H'
def spPull : Sp := fun vs H Q _ => ∃ (b l : Addr) (n : Int), vs = [.ref b, .int n] ∧ BagAt H b l ∧ 0 < n ∧ n < 1073741824 ∧ ∀ (r : Nat) H', (r : Int) < n → But b H H' → BagAt H' b l → Q (.int (r : Int)) H'
def spOf (K : PySem.W.Frag) : Sp := fun vs H Q _ => ∃ (b l : Addr) (x : V), vs = [.ref b, x] ∧ BagAt H b l ∧
  ((∃ (a : Addr) (xs : List V), x = .ref a ∧ a ≠ b ∧ SqL K H a xs ∧ 0 < xs.length ∧ xs.length ≤ 1000 ∧ ∀ (v : V) H', v ∈ xs → But b H H' → BagAt H' b l → Q v H') ∨
   (∃ (z : List Nat), x = .str (S z) ∧ 0 < z.length ∧ z.length ≤ 1000 ∧ ∀ (c : Nat) H', c ∈ z → But b H H' → BagAt H' b l → Q (.str (S [c])) H'))
/-- a drawn text: of at most so many signs, each of those that the law has -/
def abc : List Nat := [97, 98, 32, 123, 125, 92, 10, 110, 120, 34, 36, 91, 93, 59, 35, 65, 122, 48, 57, 95, 45, 43, 33, 126, 99]
def spText : Sp := fun vs H Q _ => ∃ (b l : Addr) (n : Nat), vs = [.ref b, .int (n : Int)] ∧ BagAt H b l ∧ n ≤ 1000 ∧ ∀ (z : List Nat) H', z.length ≤ n → (∀ c ∈ z, c ∈ abc) → But b H H' → BagAt H' b l → Q (.str (S z)) H'
/-! ### two values that are told alike -/
def flatS : V → Bool
  | .non => true | .bl _ => true | .int _ => true | .str _ => true | _ => false
def Alike : Nat → Hp → V → V → Prop
  | 0, _, x, y => x = y ∧ flatS x = true
  | n + 1, H, x, y => (x = y ∧ flatS x = true) ∨ ∃ (a b : Addr) (xs ys : List V), x = .ref a ∧ y = .ref b ∧ ((H a = some (.lst xs) ∧ H b = some (.lst ys)) ∨ (H a = some (.tup xs) ∧ H b = some (.tup ys))) ∧
      xs.length = ys.length ∧ xs.length ≤ 10000 ∧ ∀ (i : Nat) (u v : V), xs[i]? = some u → ys[i]? = some v → Alike n H u v
theorem Alike.mono : ∀ {n : Nat} {H H' : Hp} {x y : V}, Same H H' → Alike n H x y → Alike n H' x y
  | 0, _, _, _, _, _, h => h
  | n + 1, H, H', x, y, e, h => by
    rcases h with h | ⟨a, b, xs, ys, h1, h2, h3, h4, h5, h6⟩
    · exact .inl h
    · refine .inr ⟨a, b, xs, ys, h1, h2, ?_, h4, h5, fun i u v hu hv => Alike.mono e (h6 i u v hu hv)⟩
      rcases h3 with ⟨p, q⟩ | ⟨p, q⟩
      · exact .inl ⟨e _ _ p, e _ _ q⟩
      · exact .inr ⟨e _ _ p, e _ _ q⟩
theorem Alike.flat {n : Nat} {H : Hp} {x : V} (h : flatS x = true) : Alike n H x x := by
  cases n with
  | zero => exact ⟨rfl, h⟩
  | succ n => exact .inl ⟨rfl, h⟩
def spLike : Nat → Sp
  | 0 => fun _ _ _ _ => False
  | n + 1 => fun vs H Q _ => ∃ (x y : V), vs = [x, y] ∧ Alike n H x y ∧ ∀ H', Same H H' → Q (.bl true) H'
/-- a script is handed in, True comes out -/
def spLaw (K : PySem.W.Frag) : Sp := fun vs H Q _ => ∃ (a : Addr) (ns : List Int), vs = [.ref a] ∧ SqL K H a (ns.map V.int) ∧ ns.length ≤ 63 ∧ ∀ H', Q (.bl true) H'
end My
namespace My
open PySem L2 SX
/-! ### reading a list's text -/
def White (c : Nat) : Prop := c = 32 ∨ c = 10
instance (c : Nat) : Decidable (White c) := inferInstanceAs (Decidable (_ ∨ _))
def whiteL : List Nat := [32, 10]
theorem lit_white : (Str.ofString " \n") = S whiteL := by decide +kernel
theorem mem_white (c : Nat) : c ∈ whiteL ↔ White c := by
  unfold whiteL White
  simp
def mean (c : Nat) : Nat := if c = 110 then 10 else c
def skipW : List Nat → Nat
  | [] => 0
  | c :: r => if White c then skipW r + 1 else 0
theorem skipW_le : ∀ l, skipW l ≤ l.length
  | [] => Nat.le_refl _
  | c :: r => by
    unfold skipW
    split
    · have := skipW_le r
      simp
      omega
    · simp
def rdBare : List Nat → Option (List Nat × Nat)
  | [] => some ([], 0)
  | c :: r => if White c then some ([], 0) else if c = 92 then (match r with | [] => none | d :: r' => (rdBare r').map fun p => (mean d :: p.1, p.2 + 2)) else (rdBare r).map fun p => (c :: p.1, p.2 + 1)
/-- the end of a word: white or nothing -/
def EndW : List Nat → Prop
  | [] => True
  | c :: _ => White c
/-- the word at the head of l: w, of n signs -/
inductive RdWord : List Nat → List Nat → Nat → Prop
  | braced {r : List Nat} {e : Nat} (h : pend 0 0 (123 :: r) = some e) (he : EndW ((123 :: r).drop (e + 1))) : RdWord (123 :: r) (((123 :: r).drop 1).take (e - 1)) (e + 1)
  | bare {c : Nat} {r w : List Nat} {n : Nat} (h1 : c ≠ 123) (h2 : ¬ White c) (h : rdBare (c :: r) = some (w, n)) : RdWord (c :: r) w n
/-- l is a text of ws -/
inductive Reads : List Nat → List (List Nat) → Prop
  | nil {l : List Nat} (h : l.drop (skipW l) = []) : Reads l []
  | cons {l w : List Nat} {n : Nat} {ws : List (List Nat)} (h : RdWord (l.drop (skipW l)) w n) (hn : 0 < n) (hr : Reads ((l.drop (skipW l)).drop n) ws) : Reads l (w :: ws)
theorem rdBare_le : ∀ (l w : List Nat) (n : Nat), rdBare l = some (w, n) → n ≤ l.length ∧ w.length ≤ n
  | [], w, n, h => by
    unfold rdBare at h
    cases h
    exact ⟨Nat.le_refl _, Nat.le_refl _⟩
  | c :: r, w, n, h => by
    unfold rdBare at h
    by_cases h1 : White c
    · rw [if_pos h1] at h
      cases h
      exact ⟨Nat.zero_le _, Nat.le_refl _⟩
    · rw [if_neg h1] at h
      by_cases h2 : c = 92
      · rw [if_pos h2] at h
        match r, h with
        | [], h => cases h
        | d :: r', h =>
          simp only [Option.map_eq_some_iff] at h
          obtain ⟨⟨w', n'⟩, h3, h4⟩ := h
          cases h4
          have := rdBare_le r' w' n' h3
          simp
          omega
      · rw [if_neg h2] at h
        simp only [Option.map_eq_some_iff] at h
        obtain ⟨⟨w', n'⟩, h3, h4⟩ := h
        cases h4
        have := rdBare_le r w' n' h3
        simp
        omega
theorem pend_more : ∀ (l t : List Nat) (m : Int) (k e : Nat), pend m k l = some e → pend m k (l ++ t) = some e
  | [], t, m, k, e, h => by cases h
  | c :: r, t, m, k, e, h => by
    show (if c = 123 then pend (m + 1) (k + 1) (r ++ t) else if c = 125 then (if m - 1 = 0 then some k else pend (m - 1) (k + 1) (r ++ t)) else pend m (k + 1) (r ++ t)) = some e
    have h' : (if c = 123 then pend (m + 1) (k + 1) r else if c = 125 then (if m - 1 = 0 then some k else pend (m - 1) (k + 1) r) else pend m (k + 1) r) = some e := h
    by_cases h1 : c = 123
    · rw [if_pos h1] at h' ⊢
      exact pend_more r t _ _ e h'
    · rw [if_neg h1] at h' ⊢
      by_cases h2 : c = 125
      · rw [if_pos h2] at h' ⊢
        by_cases h3 : m - 1 = 0
        · rw [if_pos h3] at h' ⊢
          exact h'
        · rw [if_neg h3] at h' ⊢
          exact pend_more r t _ _ e h'
      · rw [if_neg h2] at h' ⊢
        exact pend_more r t _ _ e h'
theorem pend_lt : ∀ (l : List Nat) (m : Int) (k e : Nat), pend m k l = some e → k ≤ e ∧ e < k + l.length
  | [], m, k, e, h => by cases h
  | c :: r, m, k, e, h => by
    have h' : (if c = 123 then pend (m + 1) (k + 1) r else if c = 125 then (if m - 1 = 0 then some k else pend (m - 1) (k + 1) r) else pend m (k + 1) r) = some e := h
    by_cases h1 : c = 123
    · rw [if_pos h1] at h'
      have := pend_lt r _ _ e h'
      simp
      omega
    · rw [if_neg h1] at h'
      by_cases h2 : c = 125
      · rw [if_pos h2] at h'
        by_cases h3 : m - 1 = 0
        · rw [if_pos h3] at h'
          cases h'
          simp
        · rw [if_neg h3] at h'
          have := pend_lt r _ _ e h'
          simp
          omega
      · rw [if_neg h2] at h'
        have := pend_lt r _ _ e h'
        simp
        omega
/-- the place counted from elsewhere -/
theorem pend_shift : ∀ (l : List Nat) (m : Int) (k j : Nat), pend m (k + j) l = (pend m k l).map (· + j)
  | [], m, k, j => rfl
  | c :: r, m, k, j => by
    show (if c = 123 then pend (m + 1) (k + j + 1) r else if c = 125 then (if m - 1 = 0 then some (k + j) else pend (m - 1) (k + j + 1) r) else pend m (k + j + 1) r) = (if c = 123 then pend (m + 1) (k + 1) r else if c = 125 then (if m - 1 = 0 then some k else pend (m - 1) (k + 1) r) else pend m (k + 1) r).map (· + j)
    have e : k + j + 1 = (k + 1) + j := by omega
    rw [e]
    split
    · exact pend_shift r _ _ _
    · split
      · split
        · rfl
        · exact pend_shift r _ _ _
      · exact pend_shift r _ _ _
theorem mean_of {c : Nat} (h : c ∈ specL) : mean c = c := by
  unfold mean
  rw [if_neg]
  intro e
  subst e
  revert h
  decide
theorem rdBare_tsig {c : Nat} {t w : List Nat} {n : Nat} (h : rdBare t = some (w, n)) : rdBare (tsig c ++ t) = some (c :: w, (tsig c).length + n) := by
  unfold tsig
  by_cases h1 : c = 10
  · rw [if_pos h1]
    show rdBare (92 :: 110 :: t) = _
    unfold rdBare
    rw [if_neg (by decide), if_pos rfl]
    show (rdBare t).map _ = _
    rw [h]
    subst h1
    show some (mean 110 :: w, n + 2) = some (10 :: w, 2 + n)
    rw [Nat.add_comm]
    rfl
  · rw [if_neg h1]
    by_cases h2 : c ∈ specL
    · rw [if_pos h2]
      show rdBare (92 :: c :: t) = _
      unfold rdBare
      rw [if_neg (by decide), if_pos rfl]
      show (rdBare t).map _ = _
      rw [h]
      show some (mean c :: w, n + 2) = some (c :: w, 2 + n)
      rw [mean_of h2, Nat.add_comm]
    · rw [if_neg h2]
      show rdBare (c :: t) = _
      have w1 : ¬ White c := by
        rintro (e | e)
        · exact h2 (by rw [e]; decide)
        · exact h1 e
      have w2 : ¬ c = 92 := fun e => h2 (by rw [e]; decide)
      unfold rdBare
      rw [if_neg w1, if_neg w2, h]
      show some (c :: w, n + 1) = some (c :: w, 1 + n)
      rw [Nat.add_comm]
theorem rdBare_end {t : List Nat} (h : EndW t) : rdBare t = some ([], 0) := by
  cases t with
  | nil => rfl
  | cons c r =>
    unfold rdBare
    rw [if_pos (show White c from h)]
theorem rdBare_turn {t : List Nat} (h : EndW t) : ∀ w : List Nat, rdBare (turn w ++ t) = some (w, (turn w).length)
  | [] => rdBare_end h
  | c :: r => by
    have e : turn (c :: r) = tsig c ++ turn r := by
      unfold turn
      rw [List.flatMap_cons]
    rw [e, List.append_assoc, rdBare_tsig (rdBare_turn h r), List.length_append]
/-- the head of a turned text -/
theorem tsig_head (c : Nat) : ∃ (d : Nat) (r : List Nat), tsig c = d :: r ∧ d ≠ 123 ∧ ¬ White d := by
  unfold tsig
  by_cases h1 : c = 10
  · rw [if_pos h1]; exact ⟨92, [110], rfl, by decide, by decide⟩
  · rw [if_neg h1]
    by_cases h2 : c ∈ specL
    · rw [if_pos h2]; exact ⟨92, [c], rfl, by decide, by decide⟩
    · rw [if_neg h2]
      refine ⟨c, [], rfl, fun e => h2 (by rw [e]; decide), ?_⟩
      rintro (e | e)
      · exact h2 (by rw [e]; decide)
      · exact h1 e
theorem skipW_no {c : Nat} {r : List Nat} (h : ¬ White c) : skipW (c :: r) = 0 := by
  unfold skipW
  rw [if_neg h]
/-- a written word is read -/
theorem rd_wtext (w : List Nat) {t : List Nat} (h : EndW t) : RdWord (wtext w ++ t) w (wtext w).length ∧ skipW (wtext w ++ t) = 0 ∧ 0 < (wtext w).length := by
  unfold wtext
  by_cases h0 : w = []
  · subst h0
    rw [if_pos rfl]
    refine ⟨?_, skipW_no (by decide), by decide⟩
    have := RdWord.braced (r := 125 :: t) (e := 1) (by rfl) (by exact h)
    exact this
  · rw [if_neg h0]
    by_cases h1 : w.length + 2 ≤ (turn w).length ∧ Pairs w = true
    · rw [if_pos h1]
      refine ⟨?_, skipW_no (by decide), by simp⟩
      have hp := pend_more _ t _ _ _ ((pend_pairs w).mpr h1.2)
      rw [List.cons_append] at hp
      have hd : (123 :: (w ++ [125]) ++ t).drop (w.length + 1 + 1) = t := by
        have e : w.length + 1 + 1 = (123 :: (w ++ [125])).length := by simp
        rw [e, List.drop_left]
      have := RdWord.braced (r := (w ++ [125]) ++ t) (e := w.length + 1) hp (by rw [← List.cons_append, hd]; exact h)
      have e2 : ((123 :: ((w ++ [125]) ++ t)).drop 1).take (w.length + 1 - 1) = w := by
        show ((w ++ [125]) ++ t).take w.length = w
        rw [List.append_assoc, List.take_left]
      rw [e2] at this
      have e3 : (123 :: (w ++ [125])).length = w.length + 1 + 1 := by simp
      rw [e3]
      exact this
    · rw [if_neg h1]
      obtain ⟨c, r, rfl⟩ : ∃ c r, w = c :: r := by
        cases w with
        | nil => exact absurd rfl h0
        | cons c r => exact ⟨c, r, rfl⟩
      have e : turn (c :: r) = tsig c ++ turn r := by
        unfold turn
        rw [List.flatMap_cons]
      obtain ⟨d, r', e1, n1, n2⟩ := tsig_head c
      have hr := rdBare_turn h (c :: r)
      rw [e, e1] at hr ⊢
      exact ⟨.bare n1 n2 hr, skipW_no n2, by simp⟩
/-- a list's text -/
def ltext (ws : List (List Nat)) : List Nat := TL.joinL [32] (ws.map wtext)
theorem reads_more {l : List Nat} {ws : List (List Nat)} (h : Reads l ws) {c : Nat} (hc : White c) : Reads (c :: l) ws := by
  have e0 : skipW (c :: l) = skipW l + 1 := by rw [skipW, if_pos hc]
  have e : (c :: l).drop (skipW (c :: l)) = l.drop (skipW l) := by
    rw [e0, List.drop_succ_cons]
  cases h with
  | nil h => exact .nil (by rw [e]; exact h)
  | cons h hn hr => exact .cons (by rw [e]; exact h) hn (by rw [e]; exact hr)
theorem reads_word {w : List Nat} {t : List Nat} {ws : List (List Nat)} (h : EndW t) (hr : Reads t ws) : Reads (wtext w ++ t) (w :: ws) := by
  obtain ⟨h1, h2, h3⟩ := rd_wtext w h
  refine .cons (by rw [h2]; exact h1) h3 ?_
  rw [h2, List.drop_zero, List.drop_left]
  exact hr
theorem reads_ltext : ∀ (ws : List (List Nat)) {t : List Nat} {vs : List (List Nat)}, EndW t → Reads t vs → Reads (ltext ws ++ t) (ws ++ vs)
  | [], t, vs, _, h => h
  | [w], t, vs, he, h => reads_word he h
  | w :: v :: r, t, vs, he, h => by
    have ih := reads_ltext (v :: r) he h
    have e : ltext (w :: v :: r) ++ t = wtext w ++ (32 :: (ltext (v :: r) ++ t)) := by
      show (wtext w ++ ([32] ++ TL.joinL [32] ((v :: r).map wtext))) ++ t = _
      rw [List.append_assoc]
      rfl
    rw [e]
    exact reads_word (show White 32 from .inl rfl) (reads_more ih (.inl rfl))
theorem reads_nil : Reads [] [] := .nil rfl
theorem reads_own (ws : List (List Nat)) : Reads (ltext ws) ws := by
  have := reads_ltext ws (t := []) (vs := []) trivial reads_nil
  rw [List.append_nil, List.append_nil] at this
  exact this
theorem wtext_len (w : List Nat) : (wtext w).length ≤ 2 * w.length + 2 := by
  unfold wtext
  split
  · simp
  · split
    · simp; omega
    · have := turn_len w; omega
theorem ltext_len : ∀ (ws : List (List Nat)) (k : Nat), (∀ w ∈ ws, w.length ≤ k) → (ltext ws).length ≤ ws.length * (2 * k + 3)
  | [], k, _ => by simp [ltext, TL.joinL]
  | [w], k, h => by
    show (wtext w).length ≤ _
    have := wtext_len w
    have := h w (List.mem_singleton.mpr rfl)
    simp
    omega
  | w :: v :: r, k, h => by
    have ih := ltext_len (v :: r) k fun x hx => h x (List.mem_cons_of_mem _ hx)
    show (wtext w ++ ([32] ++ ltext (v :: r))).length ≤ _
    have h1 := wtext_len w
    have h2 := h w List.mem_cons_self
    rw [List.length_append, List.length_append]
    have : (w :: v :: r).length * (2 * k + 3) = (v :: r).length * (2 * k + 3) + (2 * k + 3) := by
      rw [List.length_cons, Nat.succ_mul]
    rw [this]
    simp only [List.length_cons, List.length_nil] at ih ⊢
    omega
end My
namespace My
open PySem L2 SX
theorem joinL_nil : ∀ ps : List (List Nat), TL.joinL [] ps = ps.flatten
  | [] => rfl
  | [p] => by simp [TL.joinL]
  | p :: q :: r => by
    show p ++ ([] ++ TL.joinL [] (q :: r)) = _
    rw [joinL_nil (q :: r)]
    simp
theorem join0 {z : Str} (hz : z = S []) (ps : List (List Nat)) : Txt.join z (ps.map S) = S ps.flatten := by
  rw [hz, join_S, joinL_nil]
theorem iteN {p A B : Prop} [Decidable p] (h1 : ¬ p → A) (h2 : p → B) : if (!decide p) = true then A else B := by
  by_cases e : p
  · rw [decide_eq_true e]
    exact iteF (h2 e)
  · rw [decide_eq_false e]
    exact iteT (h1 e)
theorem iteNS {a b : List Nat} {z : Str} {A B : Prop} (hz : z = S b) (h1 : a ≠ b → A) (h2 : a = b → B) : if (!decide (V.str (S a) = V.str z)) = true then A else B := by
  subst hz
  rw [dec_S]
  exact iteN h1 h2
/-- a list of texts -/
def txs (ws : List (List Nat)) : List V := ws.map fun w => V.str (S w)
theorem txs_len (ws : List (List Nat)) : (txs ws).length = ws.length := List.length_map _
theorem txs_snoc (ws : List (List Nat)) (w : List Nat) : txs (ws ++ [w]) = txs ws ++ [V.str (S w)] := by
  unfold txs
  rw [List.map_append]
  rfl
theorem txs_map (ws : List (List Nat)) : txs ws = (ws.map S).map V.str := by
  unfold txs
  rw [List.map_map]
  rfl
theorem alike_txs {H : Hp} {a b : Addr} {ws : List (List Nat)} {n : Nat} (h1 : H a = some (.lst (txs ws))) (h2 : H b = some (.lst (txs ws))) (hz : ws.length ≤ 10000) : Alike (n + 1) H (.ref a) (.ref b) := by
  refine .inr ⟨a, b, _, _, rfl, rfl, .inl ⟨h1, h2⟩, rfl, by rw [txs_len]; exact hz, fun i u v hu hv => ?_⟩
  rw [hu] at hv
  cases hv
  unfold txs at hu
  rw [List.getElem?_map] at hu
  cases e : ws[i]? with
  | none => rw [e] at hu; cases hu
  | some l => rw [e] at hu; cases hu; exact Alike.flat rfl
theorem rdWord_le {l w : List Nat} {n : Nat} (h : RdWord l w n) : n ≤ l.length := by
  cases h with
  | braced h he =>
    have := (pend_lt _ _ _ _ h).2
    omega
  | bare h1 h2 h => exact (rdBare_le _ _ _ h).1
theorem atS' {l : List Nat} {i : Nat} (h : i < l.length) : atI (S l).cps.toList (i : Int) = some l[i] := atI_nat (List.getElem?_eq_getElem h)
theorem pend_i {l : List Nat} {i e : Nat} (h : pend 0 0 (l.drop i) = some e) : pend 0 i (l.drop i) = some (i + e) := by
  have := pend_shift (l.drop i) 0 0 i
  rw [Nat.zero_add, h] at this
  rw [this, Nat.add_comm]
  rfl
def spRefuse : Sp := fun vs H Q _ => ∃ (l : List Nat), vs = [.str (S l)] ∧ l.length ≤ 1000 ∧ Q .non H
def spBehind : Sp := fun vs H Q _ => ∃ (l : List Nat) (i : Nat), vs = [.str (S l), .int (i : Int)] ∧ l.length ≤ 1000 ∧ i ≤ l.length ∧ Q (.int ((i + skipW (l.drop i) : Nat) : Int)) H
def spMean : Sp := fun vs H Q _ => ∃ (c : Nat), vs = [.str (S [c])] ∧ Q (.str (S [mean c])) H
def spBare : Sp := fun vs H Q _ => ∃ (l : List Nat) (i : Nat) (w : List Nat) (n : Nat), vs = [.str (S l), .int (i : Int)] ∧ l.length ≤ 1000 ∧ i ≤ l.length ∧ rdBare (l.drop i) = some (w, n) ∧
  ∀ (p : Addr) H', Same H H' → H p = none → H' p = some (.tup [.str (S w), .int ((i + n : Nat) : Int)]) → Q (.ref p) H'
def spWord : Sp := fun vs H Q _ => ∃ (l : List Nat) (i : Nat) (w : List Nat) (n : Nat), vs = [.str (S l), .int (i : Int)] ∧ l.length ≤ 1000 ∧ i < l.length ∧ RdWord (l.drop i) w n ∧
  ∀ (p : Addr) H', Same H H' → H p = none → H' p = some (.tup [.str (S w), .int ((i + n : Nat) : Int)]) → Q (.ref p) H'
def spBraced : Sp := fun vs H Q _ => ∃ (l : List Nat) (i e : Nat), vs = [.str (S l), .int (i : Int)] ∧ l.length ≤ 1000 ∧ i < l.length ∧ pend 0 0 (l.drop i) = some e ∧ 1 ≤ e ∧ EndW ((l.drop i).drop (e + 1)) ∧
  ∀ (p : Addr) H', Same H H' → H p = none → H' p = some (.tup [.str (S (((l.drop i).drop 1).take (e - 1))), .int ((i + (e + 1) : Nat) : Int)]) → Q (.ref p) H'
def spRead : Sp := fun vs H Q _ => ∃ (l : List Nat) (ws : List (List Nat)), vs = [.str (S l)] ∧ l.length ≤ 1000 ∧ Reads l ws ∧ ∀ (p : Addr) H', Same H H' → H p = none → H' p = some (.lst (txs ws)) → Q (.ref p) H'
def spLtext (K : PySem.W.Frag) : Sp := fun vs H Q _ => ∃ (a : Addr) (ws : List (List Nat)), vs = [.ref a] ∧ SqL K H a (txs ws) ∧ ws.length ≤ 100 ∧ (∀ w ∈ ws, w.length ≤ 1000) ∧ ∀ H', Same H H' → Q (.str (S (ltext ws))) H'
end My
namespace My
open PySem L2 SX
/-! ### defs that may raise -/
section
variable {P : Program} {w : World} {K : PySem.W.Frag} {mg : Str → Option Value} {base : Heap}
/-- a def of the module that may raise, called by its name -/
structure CalX (P : Program) (w : World) (K : PySem.W.Frag) (mg : Str → Option Value) (base : Heap) (k : Nat) (x : Str) (sp : Sp) : Prop where
  ex : ∃ (f : Addr) (fd : FuncData) (ps : List Str), FnOk P w K mg base (L2.CX P w) k f fd ps sp ∧ mg x = some (.ref f) ∧ PySem.W.keepIn K (.ref f) = true ∧ Binds K fd ps []
/-- a method that may raise, of the class at C -/
structure MetX (P : Program) (w : World) (K : PySem.W.Frag) (mg : Str → Option Value) (base : Heap) (k : Nat) (C : Addr) (m : Str) (sp : Sp) : Prop where
  ex : ∃ (f : Addr) (fd : FuncData) (ps : List Str), Cls K C ∧ Meth K C m f ∧ FnOk P w K mg base (L2.CX P w) k f fd ps sp ∧ Binds K fd ps []
theorem fnX {x qual : Str} {st : Stmt} {f : Addr} {fd : FuncData} {N ps : List Str} {k : Nat} {sp : Sp} (F : C8.Fun K x qual st f fd) (S : FnScope N ps (C8.fnScope st)) (len : ∀ vs H Q E, sp vs H Q E → vs.length = ps.length)
    (hbody : ∀ (cdv : Value) (A : Around) (outer : List Env) (s : Shared) (H : Hp) (vs : List V) (Q : VK) (E : XK), Room k (A.deeper (PyProof.Rows.envOfC qual (C8.fnScope st) s.heap.objs.size f cdv)) → sp vs H Q E →
      ∃ t, PSs (cxOf (L2.CX P w) P w K mg base N qual (C8.fnScope st) f cdv A outer s H E) (C8.fnBody st) t ∧ t { nx := fun _ H' => Q .non H', rt := Q } (start N vs) H) : FnOk P w K mg base (L2.CX P w) (k + 1) f fd ps sp := by
  obtain ⟨oc, od, dV, kV, doc, pm, an, cdv, ct, osl, rfl, lk, hcd⟩ := F.ex
  exact fn_of lk hcd S len fun A outer s H vs Q E hr hsp => hbody cdv A outer s H vs Q E hr hsp
theorem calX {x : Str} {st : Stmt} {f : Addr} {fd : FuncData} {N ps : List Str} {k : Nat} {sp : Sp} (F : C8.Def K mg x st f fd) (b : Binds K fd ps []) (S : FnScope N ps (C8.fnScope st)) (len : ∀ vs H Q E, sp vs H Q E → vs.length = ps.length)
    (hbody : ∀ (cdv : Value) (A : Around) (outer : List Env) (s : Shared) (H : Hp) (vs : List V) (Q : VK) (E : XK), Room k (A.deeper (PyProof.Rows.envOfC x (C8.fnScope st) s.heap.objs.size f cdv)) → sp vs H Q E →
      ∃ t, PSs (cxOf (L2.CX P w) P w K mg base N x (C8.fnScope st) f cdv A outer s H E) (C8.fnBody st) t ∧ t { nx := fun _ H' => Q .non H', rt := Q } (start N vs) H) : CalX P w K mg base (k + 1) x sp :=
  ⟨f, fd, ps, fnX F.fn S len hbody, F.mgf, F.kp, b⟩
theorem metX {m qual : Str} {C : Addr} {st : Stmt} {f : Addr} {fd : FuncData} {N ps : List Str} {k : Nat} {sp : Sp} (c : Cls K C) (me : Meth K C m f) (F : C8.Fun K m qual st f fd) (b : Binds K fd ps []) (S : FnScope N ps (C8.fnScope st)) (len : ∀ vs H Q E, sp vs H Q E → vs.length = ps.length)
    (hbody : ∀ (cdv : Value) (A : Around) (outer : List Env) (s : Shared) (H : Hp) (vs : List V) (Q : VK) (E : XK), Room k (A.deeper (PyProof.Rows.envOfC qual (C8.fnScope st) s.heap.objs.size f cdv)) → sp vs H Q E →
      ∃ t, PSs (cxOf (L2.CX P w) P w K mg base N qual (C8.fnScope st) f cdv A outer s H E) (C8.fnBody st) t ∧ t { nx := fun _ H' => Q .non H', rt := Q } (start N vs) H) : MetX P w K mg base (k + 1) C m sp :=
  ⟨f, fd, ps, c, me, fnX F S len hbody, b⟩
end
section
variable {X : Cx} {k j : Nat} {C : Addr} {x m : Str} {sp : Sp} {p pos apos : Pos} {e o : Expr} {es : List Expr} {ta : TE} {t : TA} {E : XK}
/-- a call that may raise, within a def that lets it out or around which nothing is let out -/
theorem pe_x (c : CalX X.prog X.w X.K X.mg X.base k x sp) (hr : Room j X.A) (hk : k ≤ j) (hg : Gl X x) (hx : Passes (L2.CX X.prog X.w) X E) (ha : PA X (e :: es) t)
    (hdb : (x == ("__debug__" : Str)) = false := by decide) (he : starEach (e :: es) X.env = (false, eval e X.env) :: starEach es X.env := by rfl) (hpl : (backTo pos (starEach es X.env)).any (·.1) = false := by rfl) :
    PE X (.Call (.Name x p) (e :: es) [] pos) (tCall sp [] E t) := by
  obtain ⟨f, fd, ps, F, hm, kp, b⟩ := c.ex
  exact pe_call F (hr.mono hk) hg hm kp b .nil hx ha hdb he hpl
theorem pe_mx0 {pl : Sem Bool} (c : MetX X.prog X.w X.K X.mg X.base k C m sp) (hr : Room j X.A) (hk : k ≤ j) (hx : Passes (L2.CX X.prog X.w) X E) (he : PE X o ta)
    (ht : eval (.Call (.Attribute o m apos) [] [] pos) X.env = (do
      let ov ← eval o X.env
      standAt apos.atName
      let (f, first) ← holding [ov] (getMethod ov m pl)
      callWith pos f first (backTo pos (starEach [] X.env)) (backToKw pos (keywordEach [] X.env))) := by rfl) :
    PE X (.Call (.Attribute o m apos) [] [] pos) (tMeth C m sp [] E ta tNil) := by
  obtain ⟨f, fd, ps, hc, hm, F, b⟩ := c.ex
  exact pe_meth0 (pl := pl) he hc hm F (hr.mono hk) b .nil hx ht
end
/-! ### errors that tell a place -/
def spPlace (C : Addr) : Sp := fun vs H Q _ => ∃ (a : Addr) (y : V), vs = [.ref a, y] ∧ H a = some (exo a C none) ∧ ∀ dx, H dx = none → dx ≠ a → Q .non (upd (upd H dx (exd dx [("place", y)])) a (exo a C (some dx)))
/-- what the top says of such a class -/
structure PlaceC (P : Program) (w : World) (K : PySem.W.Frag) (mg : Str → Option Value) (base : Heap) (x : Str) (C : Addr) : Prop where
  ox : OexC K C
  mgx : mg x = some (.ref C)
  ini : ∃ (f : Addr) (fd : FuncData) (ps : List Str), PySem.W.findIn K (.ref C) "__init__" = some (some (.ref f)) ∧ PySem.W.typeIn K (.ref f) = some (.type "function") ∧ FnOk P w K mg base C8.CX0 1 f fd ps (spPlace C) ∧ Binds K fd ps []
/-- what is let out: an error of the class at C with this place -/
def Told (C : Addr) (n : Int) (H : Hp) (E : XK) : Prop := ∀ (d : Addr) H', Same H H' → H d = none → H' d = some (.xd [("place", .int n)]) → E (.ref C) (some d) H'
/-- the reading of «raise C(e)», by what is wished of the error -/
theorem place_ok {C : Addr} {H1 : Hp} {y : V} {Q : XK} (q : ∀ (d : Addr) H', Same H1 H' → H1 d = none → H' d = some (.xd [("place", y)]) → Q (.ref C) (some d) H') :
    ([y] : List V).length ≤ 1000 ∧ ∀ a, H1 a = none → spPlace C (.ref a :: ([y] ++ [])) (upd H1 a (exo a C none))
      (fun v H2 => v = .non ∧ ∃ (d : Addr) (fs : List (Str × V)), H2 a = some (exo a C (some d)) ∧ H2 d = some (exd d fs) ∧ H1 d = none ∧ Q (.ref C) (some d) (upd (del H2 a) d (.xd fs))) (fun _ _ _ => False) := by
  refine ⟨(by show 1 ≤ 1000; decide), fun a ha => ⟨a, y, rfl, upd_same, fun dx hdx nda => ⟨rfl, dx, _, upd_same, by rw [upd_ne nda, upd_same], ?_, ?_⟩⟩⟩
  · rw [upd_ne nda] at hdx
    exact hdx
  · rw [upd_ne nda] at hdx
    refine q dx _ (fun b o hb => ?_) hdx upd_same
    have n1 : b ≠ dx := ne_of_none hb hdx
    have n2 : b ≠ a := ne_of_none hb ha
    rw [upd_ne n1, del_ne n2, upd_ne n2, upd_ne n1, upd_ne n2]
    exact hb
theorem ps_place {X : Cx} {W : WX} {x : Str} {C : Addr} {e : Expr} {te : TE} {p pos pos2 : Pos} {j : Nat} (hc : X.calm = true) (T : PlaceC X.prog X.w X.K X.mg X.base x C) (hr : Room j X.A) (hk : 2 ≤ j) (tk : Takes X W) (hg : Gl X x) (he : PE X e te)
    (hdb : (x == ("__debug__" : Str)) = false := by decide) (h1 : starEach [e] X.env = (false, eval e X.env) :: starEach [] X.env := by rfl) (h2 : (backTo pos (starEach [] X.env)).any (·.1) = false := by rfl) :
    PS X (.Raise (some (.Call (.Name x p) [e] [] pos)) none pos2) (fun _ σ H => tMkO C (spPlace C) [] (tCons te tNil) σ H fun cls d H' => W cls d σ H') := by
  obtain ⟨f, fd, ps, iC, tI, F1, hb⟩ := T.ini
  exact ps_raise (pos := pos2) hc tk (pmk_oex (p := p) (pos := pos) T.ox iC tI F1 (hr.mono hk) hb .nil C8.pass0 hg T.mgx (pa_cons (hs := h1) he pa_nil) hdb h1 h2)
end My
namespace My
open PySem L2 SX
/-! ### what a script is read to: texts and tuples -/
inductive Tr where
  | s (w : List Nat)
  | n (ts : List Tr)
inductive TrAt (H : Hp) : V → Tr → Prop
  | s (w : List Nat) : TrAt H (.str (S w)) (.s w)
  | n {a : Addr} {vs : List V} {ts : List Tr} (h : H a = some (.tup vs)) (hl : vs.length = ts.length) (hk : ∀ (i : Nat) (u : V) (t : Tr), vs[i]? = some u → ts[i]? = some t → TrAt H u t) : TrAt H (.ref a) (.n ts)
/-- tuples stay -/
def Tups (H H' : Hp) : Prop := ∀ a xs, H a = some (.tup xs) → H' a = some (.tup xs)
theorem TrAt.mono {H H' : Hp} {v : V} {t : Tr} (e : Tups H H') (h : TrAt H v t) : TrAt H' v t := by
  induction h with
  | s w => exact .s w
  | n h hl _ ih => exact .n (e _ _ h) hl fun i u t hu ht => ih i u t hu ht
theorem Tups.refl (H : Hp) : Tups H H := fun _ _ h => h
theorem Tups.trans {H H1 H2 : Hp} (a : Tups H H1) (b : Tups H1 H2) : Tups H H2 := fun c o h => b c o (a c o h)
theorem Same.tups {H H' : Hp} (e : Same H H') : Tups H H' := fun a xs h => e a _ h
/-- a change at an address where no tuple stands -/
theorem Tups.upd {H : Hp} {p : Addr} {o : HO} (h : ∀ xs, H p ≠ some (.tup xs)) : Tups H (L2.upd H p o) := fun a xs ha => by
  rw [upd_ne]
  · exact ha
  · rintro rfl
    exact h xs ha
theorem But.tups {p : Addr} {H H' : Hp} (e : But p H H') (h : ∀ xs, H p ≠ some (.tup xs)) : Tups H H' := fun a xs ha => e a _ ha fun z => h xs (by rw [← z]; exact ha)
/-- things side by side -/
def TrsAt (H : Hp) (vs : List V) (ts : List Tr) : Prop := vs.length = ts.length ∧ ∀ (i : Nat) (u : V) (t : Tr), vs[i]? = some u → ts[i]? = some t → TrAt H u t
theorem TrsAt.nil (H : Hp) : TrsAt H [] [] := ⟨rfl, fun i u t h => by simp at h⟩
theorem TrsAt.mono {H H' : Hp} {vs : List V} {ts : List Tr} (e : Tups H H') (h : TrsAt H vs ts) : TrsAt H' vs ts := ⟨h.1, fun i u t hu ht => (h.2 i u t hu ht).mono e⟩
theorem TrsAt.snoc {H : Hp} {vs : List V} {ts : List Tr} {v : V} {t : Tr} (h : TrsAt H vs ts) (hv : TrAt H v t) : TrsAt H (vs ++ [v]) (ts ++ [t]) := by
  refine ⟨by simp [h.1], fun i u t' hu ht => ?_⟩
  by_cases hi : i < vs.length
  · rw [List.getElem?_append_left hi] at hu
    rw [List.getElem?_append_left (by rw [← h.1]; exact hi)] at ht
    exact h.2 i u t' hu ht
  · have ei : i = vs.length := by
      have := (List.getElem?_eq_some_iff.mp hu).1
      simp at this
      omega
    subst ei
    rw [List.getElem?_append_right (Nat.le_refl _), Nat.sub_self] at hu
    rw [List.getElem?_append_right (by rw [h.1]; exact Nat.le_refl _), h.1, Nat.sub_self] at ht
    cases hu
    cases ht
    exact hv
theorem TrsAt.tup {H : Hp} {a : Addr} {vs : List V} {ts : List Tr} (h : H a = some (.tup vs)) (k : TrsAt H vs ts) : TrAt H (.ref a) (.n ts) := .n h k.1 k.2
def wText : List Nat := [116, 101, 120, 116]
def wName : List Nat := [110, 97, 109, 101]
def wRun : List Nat := [114, 117, 110]
theorem lit_text : (Str.ofString "text") = S wText := by decide +kernel
theorem lit_name : (Str.ofString "name") = S wName := by decide +kernel
theorem lit_run : (Str.ofString "run") = S wRun := by decide +kernel
def tx (w : List Nat) : Tr := .n [.s wText, .s w]
def nm (w : List Nat) : Tr := .n [.s wName, .s w]
def rn (cs : List Tr) : Tr := .n [.s wRun, .n cs]
/-- a piece: its kind and its worth -/
def IsPc (t : Tr) : Prop := (∃ w, t = tx w) ∨ (∃ w, t = nm w) ∨ ∃ cs, t = rn cs
/-- pieces, texts side by side made one -/
def merge (rows : List Tr) (p : Tr) : List Tr :=
  match rows.getLast?, p with
  | some (.n [.s k, .s u]), .n [.s k', .s w] => if k = wText ∧ k' = wText then rows.dropLast ++ [tx (u ++ w)] else rows ++ [p]
  | _, _ => rows ++ [p]
def joinP (ps : List Tr) : List Tr := ps.foldl merge []
/-! ### the ends -/
def bS (w : Nat) : List Nat → Bool
  | [] => true
  | c :: _ => decide (0 < w) && decide (c = 93)
def bC (w : Nat) : List Nat → Bool
  | [] => true
  | c :: r => bS w (c :: r) || (decide (c = 10) || decide (c = 59))
def bW (w : Nat) : List Nat → Bool
  | [] => true
  | c :: r => bC w (c :: r) || decide (c = 32)
def dropRem : List Nat → List Nat
  | [] => []
  | c :: r => if c = 10 then c :: r else dropRem r
def low (c : Nat) : Bool := decide (97 ≤ c) && decide (c ≤ 122)
/-- behind a dollar sign: the name and what follows it -/
def nameOf : List Nat → Option (List Nat × List Nat)
  | 123 :: r => if 1 ≤ (r.takeWhile low).length ∧ (r.takeWhile low).length ≤ 8 then (match r.dropWhile low with | 125 :: r' => some (r.takeWhile low, r') | _ => none) else none
  | r => if 1 ≤ (r.takeWhile low).length ∧ (r.takeWhile low).length ≤ 8 then some (r.takeWhile low, r.dropWhile low) else none
/-- what comes of reading: things and what is left, or how much is left from the wrong place on -/
inductive Out where
  | ok (ts : List Tr) (r : List Nat)
  | er (k : Nat)
def Out.cons (t : Tr) : Out → Out
  | .ok ts r => .ok (t :: ts) r
  | .er k => .er k
mutual
inductive DScr : Nat → List Nat → Out → Prop
  | stop {w : Nat} {r : List Nat} (h : bS w r = true) : DScr w r (.ok [] r)
  | skip {w c : Nat} {r : List Nat} {o : Out} (h : bS w (c :: r) = false) (hc : bW w (c :: r) = true) (d : DScr w r o) : DScr w (c :: r) o
  | remark {w : Nat} {r : List Nat} {o : Out} (h : bW w (35 :: r) = false) (d : DScr w (dropRem r) o) : DScr w (35 :: r) o
  | cmd {w c : Nat} {r r1 : List Nat} {ts : List Tr} {o : Out} (h : bW w (c :: r) = false) (hc : c ≠ 35) (d : DCmd w (c :: r) (.ok ts r1)) (d2 : DScr w r1 o) : DScr w (c :: r) (o.cons (.n ts))
  | cmdE {w c k : Nat} {r : List Nat} (h : bW w (c :: r) = false) (hc : c ≠ 35) (d : DCmd w (c :: r) (.er k)) : DScr w (c :: r) (.er k)
inductive DCmd : Nat → List Nat → Out → Prop
  | stop {w : Nat} {r : List Nat} (h : bC w r = true) : DCmd w r (.ok [] r)
  | skip {w c : Nat} {r : List Nat} {o : Out} (h : bC w (c :: r) = false) (hc : bW w (c :: r) = true) (d : DCmd w r o) : DCmd w (c :: r) o
  | word {w c : Nat} {r r1 : List Nat} {t : Tr} {o : Out} (h : bW w (c :: r) = false) (d : DWrd w (c :: r) (.ok [t] r1)) (d2 : DCmd w r1 o) : DCmd w (c :: r) (o.cons t)
  | wordE {w c k : Nat} {r : List Nat} (h : bW w (c :: r) = false) (d : DWrd w (c :: r) (.er k)) : DCmd w (c :: r) (.er k)
inductive DWrd : Nat → List Nat → Out → Prop
  | braced {w e : Nat} {r : List Nat} (h : pend 0 0 (123 :: r) = some e) (he : bW w (r.drop e) = true) : DWrd w (123 :: r) (.ok [.n (if e = 1 then [] else [tx (r.take (e - 1))])] (r.drop e))
  | bracedE {w : Nat} {r : List Nat} (h : pend 0 0 (123 :: r) = none) : DWrd w (123 :: r) (.er (r.length + 1))
  | bracedB {w e : Nat} {r : List Nat} (h : pend 0 0 (123 :: r) = some e) (he : bW w (r.drop e) = false) : DWrd w (123 :: r) (.er (r.drop e).length)
  | quoted {w : Nat} {r r1 : List Nat} {ps : List Tr} (d : DQuo w (r.length + 1) r (.ok ps r1)) (he : bW w r1 = true) : DWrd w (34 :: r) (.ok [.n (joinP ps)] r1)
  | quotedB {w : Nat} {r r1 : List Nat} {ps : List Tr} (d : DQuo w (r.length + 1) r (.ok ps r1)) (he : bW w r1 = false) : DWrd w (34 :: r) (.er r1.length)
  | quotedE {w k : Nat} {r : List Nat} (d : DQuo w (r.length + 1) r (.er k)) : DWrd w (34 :: r) (.er k)
  | bare {w c : Nat} {r r1 : List Nat} {ps : List Tr} (h1 : c ≠ 123) (h2 : c ≠ 34) (d : DBar w (c :: r) (.ok ps r1)) (he : bW w r1 = true) : DWrd w (c :: r) (.ok [.n (joinP ps)] r1)
  | bareE {w c k : Nat} {r : List Nat} (h1 : c ≠ 123) (h2 : c ≠ 34) (d : DBar w (c :: r) (.er k)) : DWrd w (c :: r) (.er k)
inductive DQuo : Nat → Nat → List Nat → Out → Prop
  | stop {w q : Nat} {r : List Nat} : DQuo w q (34 :: r) (.ok [] r)
  | lacks {w q : Nat} : DQuo w q [] (.er q)
  | piece {w q c : Nat} {r r1 : List Nat} {t : Tr} {o : Out} (h : c ≠ 34) (d : DPc w (c :: r) (.ok [t] r1)) (d2 : DQuo w q r1 o) : DQuo w q (c :: r) (o.cons t)
  | pieceE {w q c k : Nat} {r : List Nat} (h : c ≠ 34) (d : DPc w (c :: r) (.er k)) : DQuo w q (c :: r) (.er k)
inductive DBar : Nat → List Nat → Out → Prop
  | stop {w : Nat} {r : List Nat} (h : bW w r = true) : DBar w r (.ok [] r)
  | piece {w c : Nat} {r r1 : List Nat} {t : Tr} {o : Out} (h : bW w (c :: r) = false) (d : DPc w (c :: r) (.ok [t] r1)) (d2 : DBar w r1 o) : DBar w (c :: r) (o.cons t)
  | pieceE {w c k : Nat} {r : List Nat} (h : bW w (c :: r) = false) (d : DPc w (c :: r) (.er k)) : DBar w (c :: r) (.er k)
inductive DPc : Nat → List Nat → Out → Prop
  | turn {w d : Nat} {r : List Nat} : DPc w (92 :: d :: r) (.ok [tx [mean d]] r)
  | turnE {w : Nat} : DPc w [92] (.er 1)
  | name {w : Nat} {r n r1 : List Nat} (h : nameOf r = some (n, r1)) : DPc w (36 :: r) (.ok [nm n] r1)
  | nameE {w : Nat} {r : List Nat} (h : nameOf r = none) : DPc w (36 :: r) (.er (r.length + 1))
  | run {w : Nat} {r r1 : List Nat} {cs : List Tr} (h : w < 12) (d : DScr (w + 1) r (.ok cs (93 :: r1))) : DPc w (91 :: r) (.ok [rn cs] r1)
  | runB {w : Nat} {r : List Nat} {cs : List Tr} (h : w < 12) (d : DScr (w + 1) r (.ok cs [])) : DPc w (91 :: r) (.er (r.length + 1))
  | runE {w k : Nat} {r : List Nat} (h : w < 12) (d : DScr (w + 1) r (.er k)) : DPc w (91 :: r) (.er k)
  | runM {w : Nat} {r : List Nat} (h : w = 12) : DPc w (91 :: r) (.er (r.length + 1))
  | sign {w c : Nat} {r : List Nat} (h1 : c ≠ 92) (h2 : c ≠ 36) (h3 : c ≠ 91) : DPc w (c :: r) (.ok [tx [c]] r)
end
end My
namespace My
open PySem L2 SX C8
def top (i : Nat) : Stmt := PySem.Challenge.pw_wordrooms_k01_names_and_bounds.main.body.getD i (.Pass ⟨0, 0, 0, 0⟩)
abbrev s_is_letter : Stmt := top 3
abbrev N_is_letter : List Str := ["sign"]
theorem sc_is_letter : FnScope N_is_letter ["sign"] (fnScope s_is_letter) := fnScope_by (by decide +kernel)
abbrev s_is_name : Stmt := top 4
abbrev N_is_name : List Str := ["text", "sign"]
theorem sc_is_name : FnScope N_is_name ["text"] (fnScope s_is_name) := fnScope_by (by decide +kernel)
abbrev s__law_bag : Stmt := top 8
abbrev N__law_bag : List Str := ["_law_script", "_law_salt", "_law_cell"]
theorem sc__law_bag : FnScope N__law_bag ["_law_script"] (fnScope s__law_bag) := fnScope_by (by decide +kernel)
abbrev s__law_pull : Stmt := top 9
abbrev N__law_pull : List Str := ["_law_bag_here", "_law_amount", "_law_cell", "_law_got", "_law_seed"]
theorem sc__law_pull : FnScope N__law_pull ["_law_bag_here", "_law_amount"] (fnScope s__law_pull) := fnScope_by (by decide +kernel)
abbrev s__law_like : Stmt := top 10
abbrev N__law_like : List Str := ["_law_found", "_law_due", "_law_k"]
theorem sc__law_like : FnScope N__law_like ["_law_found", "_law_due"] (fnScope s__law_like) := fnScope_by (by decide +kernel)
abbrev s__law_of : Stmt := top 11
abbrev N__law_of : List Str := ["_law_bag_here", "_law_things"]
theorem sc__law_of : FnScope N__law_of ["_law_bag_here", "_law_things"] (fnScope s__law_of) := fnScope_by (by decide +kernel)
abbrev s__law_is_name : Stmt := top 12
abbrev N__law_is_name : List Str := ["_law_text", "_law_sign"]
theorem sc__law_is_name : FnScope N__law_is_name ["_law_text"] (fnScope s__law_is_name) := fnScope_by (by decide +kernel)
abbrev s_law : Stmt := top 13
abbrev N_law : List Str := ["_law_script", "_law_bag_here", "_law_turn", "_law_text", "_law_at", "_law_k"]
theorem sc_law : FnScope N_law ["_law_script"] (fnScope s_law) := fnScope_by (by decide +kernel)
structure Txt (mg : Str → Option Value) : Prop where
  all : mg "all" = none
  len : mg "len" = none
  list : mg "list" = none
  isinstance : mg "isinstance" = none
  tuple : mg "tuple" = none
  bool : mg "bool" = none
  range : mg "range" = none
  g_LONGEST_NAME : ∃ u, mg "LONGEST_NAME" = some u ∧ RelV (.int 8) u
  g_LONGEST : ∃ u, mg "LONGEST" = some u ∧ RelV (.int 1000) u
  g_STEPS : ∃ u, mg "STEPS" = some u ∧ RelV (.int 400) u
  g_DEEPEST : ∃ u, mg "DEEPEST" = some u ∧ RelV (.int 24) u
end My
namespace My
open PySem L2 SX C8
theorem lit_a : (Str.ofString "a") = S [97] := by decide +kernel
theorem lit_z : (Str.ofString "z") = S [122] := by decide +kernel
theorem lt1 (a b : Nat) : decide ((S [a]).cps.toList < (S [b]).cps.toList) = decide (a < b) := by
  show decide ([a] < [b]) = _
  by_cases h : a < b
  · rw [decide_eq_true h, decide_eq_true]
    exact List.cons_lt_cons_iff.mpr (.inl h)
  · rw [decide_eq_false h, decide_eq_false]
    intro z
    rcases List.cons_lt_cons_iff.mp z with z | ⟨_, z⟩
    · exact h z
    · cases z
def spLetter : Sp := fun vs H Q _ => ∃ (c : Nat), vs = [.str (S [c])] ∧ Q (.bl (low c)) H
def isName (n : List Nat) : Bool := decide (1 ≤ n.length) && decide (n.length ≤ 8) && n.all low
def spName : Sp := fun vs H Q _ => ∃ (n : List Nat), vs = [.str (S n)] ∧ n.length ≤ 1000 ∧ ∀ H', Same H H' → Q (.bl (isName n)) H'
section
variable {P : Program} {w : World} {K : PySem.W.Frag} {mg : Str → Option Value} {base : Heap}
theorem ok_is_letter {f : Addr} {fd : FuncData} (F : Def K mg "is_letter" s_is_letter f fd) (b : Binds K fd ["sign"] []) (T : Txt mg) : Cal P w K mg base 1 "is_letter" spLetter [] := by
  refine cal0 F b .nil sc_is_letter (fun vs H Q E h => ?_) (fun cdv A outer s H vs Q E hr h => ?_)
  · obtain ⟨l, rfl, _⟩ := h
    rfl
  obtain ⟨c, rfl, q⟩ := h
  refine ⟨_, pss_one (ps_ret (pe_chain op_le_str op_le_str pe_str (pv 0) pe_str)), ?_⟩
  refine ⟨_, rfl, _, _, rfl, rfl, _, rfl, ?_⟩
  rw [lit_a, lt1]
  unfold low at q
  by_cases h : c < 97
  · rw [decide_eq_true h]
    rw [decide_eq_false (show ¬ 97 ≤ c by omega), Bool.false_and] at q
    exact iteF q
  · rw [decide_eq_false h]
    rw [decide_eq_true (show 97 ≤ c by omega), Bool.true_and] at q
    refine iteT ⟨_, _, rfl, rfl, ?_⟩
    rw [lit_z, lt1]
    have : (!decide (122 < c)) = decide (c ≤ 122) := by
      by_cases h2 : c ≤ 122
      · rw [decide_eq_true h2, decide_eq_false (by omega)]; rfl
      · rw [decide_eq_false h2, decide_eq_true (by omega)]; rfl
    rw [this]
    exact q
theorem allMap (bs : List Nat) : (bs.map low).all id = bs.all low := by
  induction bs with
  | nil => rfl
  | cons c r ih => simp only [List.map_cons, List.all_cons, ih, id]
theorem ok_is_name {f : Addr} {fd : FuncData} (F : Def K mg "is_name" s_is_name f fd) (b : Binds K fd ["text"] []) (T : Txt mg) (c_is_letter : Cal P w K mg base 1 "is_letter" spLetter []) : Cal P w K mg base 2 "is_name" spName [] := by
  refine cal0 F b .nil sc_is_name (fun vs H Q E h => ?_) (fun cdv A outer s H vs Q E hr h => ?_)
  · obtain ⟨l, rfl, _⟩ := h
    rfl
  obtain ⟨n, rfl, hl, q⟩ := h
  refine ⟨_, pss_one (ps_ret (pe_and (pe_chain op_le op_le pe_int (pe_callB call_len (by rfl) T.len (by decide +kernel) (pa_cons (pv 0) pa_nil)) (pe_gc rfl T.g_LONGEST_NAME)) (pe_one (pe_callB (cr_all rfl) (by rfl) T.all (by decide +kernel) (pa_cons (pe_lc (own := [("sign", 1)]) (g := gName 1) (by rfl) sc_is_name.nd (pi_str (pv 0)) (blkOk_by (own := [("sign", 1)]) (N := N_is_name) (sc := fnScope s_is_name) (by decide +kernel)) (fun _ _ _ _ _ => pg_name (i := 1) sc_is_name.nd rfl (Or.inl rfl)) (fun _ _ _ _ _ => pts_nil) (fun _ _ _ _ _ => (pe_c c_is_letter hr (by first | decide | assumption | omega) rfl (pa_cons (pv 1) pa_nil)))) pa_nil))))), ?_⟩
  have hz : (S n).length ≤ sizeLine := size_S (by omega)
  refine ⟨_, rfl, _, _, rfl, ⟨hz, rfl⟩, _, _, rfl, rfl, _, rfl, ?_⟩
  have e1 : decide ((1 : Int) ≤ ((S n).length : Int)) = decide (1 ≤ n.length) := by
    rw [S_len]
    by_cases h : 1 ≤ n.length
    · rw [decide_eq_true h, decide_eq_true (by omega)]
    · rw [decide_eq_false h, decide_eq_false (by omega)]
  rw [e1]
  unfold isName at q
  cases h1 : decide (1 ≤ n.length) with
  | false =>
    rw [h1] at q
    exact iteF ⟨_, rfl, iteF (q H (Same.refl H))⟩
  | true =>
    rw [h1, Bool.true_and] at q
    refine iteT ⟨_, _, rfl, rfl, _, rfl, ?_⟩
    have e2 : decide (((S n).length : Int) ≤ 8) = decide (n.length ≤ 8) := by
      rw [S_len]
      by_cases h : n.length ≤ 8
      · rw [decide_eq_true h, decide_eq_true (by omega)]
      · rw [decide_eq_false h, decide_eq_false (by omega)]
    rw [e2]
    cases h2 : decide (n.length ≤ 8) with
    | false =>
      rw [h2] at q
      exact iteF (q H (Same.refl H))
    | true =>
      rw [h2, Bool.true_and] at q
      refine iteT ⟨_, rfl, _, rfl, fun D hD => lc_it walk_str (fun i H2 => Same H H2 ∧ H2 D = some (.lst (((n.take i).map low).map V.bl))) ⟨same_new hD _, upd_same⟩ (fun _ _ _ _ => trivial) ?_ ?_⟩
      · rintro i x H2 H3 hi ⟨hs, hd⟩ ⟨rfl, c, hc, rfl⟩
        have hc' : n[i]? = some c := by
          have : (S n).cps.toList[i]? = some c := by rw [Array.getElem?_toList]; exact hc
          exact this
        refine ⟨rfl, _, rfl, c, rfl, _, hd, ?_, same_mut hs hD, ?_⟩
        · rw [List.length_map, List.length_map, List.length_take]
          exact Nat.lt_of_le_of_lt (show _ ≤ 2000 by omega) (by decide)
        · rw [upd_same, List.take_add_one, hc']
          simp
      · rintro H2 ⟨hs, hd⟩
        have hz : (S n).cps.size = n.length := S_len n
        rw [hz, List.take_length] at hd
        refine ⟨D, _, rfl, SqL.of hd, ?_⟩
        rw [allMap]
        exact q H2 hs
theorem ok__law_is_name {f : Addr} {fd : FuncData} (F : Def K mg "_law_is_name" s__law_is_name f fd) (b : Binds K fd ["_law_text"] []) (T : Txt mg) : Cal P w K mg base 1 "_law_is_name" spName [] := by
  refine cal0 F b .nil sc__law_is_name (fun vs H Q E h => ?_) (fun cdv A outer s H vs Q E hr h => ?_)
  · obtain ⟨l, rfl, _⟩ := h
    rfl
  obtain ⟨n, rfl, hl, q⟩ := h
  refine ⟨_, pss_one (ps_ret (pe_and (pe_chain op_le op_le pe_int (pe_callB call_len (by rfl) T.len (by decide +kernel) (pa_cons (pv 0) pa_nil)) pe_int) (pe_one (pe_callB (cr_all rfl) (by rfl) T.all (by decide +kernel) (pa_cons (pe_lc (own := [("_law_sign", 1)]) (g := gName 1) (by rfl) sc__law_is_name.nd (pi_str (pv 0)) (blkOk_by (own := [("_law_sign", 1)]) (N := N__law_is_name) (sc := fnScope s__law_is_name) (by decide +kernel)) (fun _ _ _ _ _ => pg_name (i := 1) sc__law_is_name.nd rfl (Or.inl rfl)) (fun _ _ _ _ _ => pts_nil) (fun _ _ _ _ _ => (pe_chain op_le_str op_le_str pe_str (pv 1) pe_str))) pa_nil))))), ?_⟩
  have hz : (S n).length ≤ sizeLine := size_S (by omega)
  refine ⟨_, rfl, _, _, rfl, ⟨hz, rfl⟩, _, _, rfl, rfl, _, rfl, ?_⟩
  have e1 : decide ((1 : Int) ≤ ((S n).length : Int)) = decide (1 ≤ n.length) := by
    rw [S_len]
    by_cases h : 1 ≤ n.length
    · rw [decide_eq_true h, decide_eq_true (by omega)]
    · rw [decide_eq_false h, decide_eq_false (by omega)]
  rw [e1]
  unfold isName at q
  cases h1 : decide (1 ≤ n.length) with
  | false =>
    rw [h1] at q
    exact iteF ⟨_, rfl, iteF (q H (Same.refl H))⟩
  | true =>
    rw [h1, Bool.true_and] at q
    refine iteT ⟨_, _, rfl, rfl, _, rfl, ?_⟩
    have e2 : decide (((S n).length : Int) ≤ 8) = decide (n.length ≤ 8) := by
      rw [S_len]
      by_cases h : n.length ≤ 8
      · rw [decide_eq_true h, decide_eq_true (by omega)]
      · rw [decide_eq_false h, decide_eq_false (by omega)]
    rw [e2]
    cases h2 : decide (n.length ≤ 8) with
    | false =>
      rw [h2] at q
      exact iteF (q H (Same.refl H))
    | true =>
      rw [h2, Bool.true_and] at q
      refine iteT ⟨_, rfl, _, rfl, fun D hD => lc_it walk_str (fun i H2 => Same H H2 ∧ H2 D = some (.lst (((n.take i).map low).map V.bl))) ⟨same_new hD _, upd_same⟩ (fun _ _ _ _ => trivial) ?_ ?_⟩
      · rintro i x H2 H3 hi ⟨hs, hd⟩ ⟨rfl, c, hc, rfl⟩
        have hc' : n[i]? = some c := by
          have : (S n).cps.toList[i]? = some c := by rw [Array.getElem?_toList]; exact hc
          exact this
        refine ⟨rfl, _, rfl, _, _, rfl, rfl, _, rfl, ?_⟩
        have fin : ∀ b : Bool, b = low c → ∃ acc, H3 D = some (.lst acc) ∧ acc.length < sizeLine ∧ Same H (upd H3 D (.lst (acc ++ [V.bl b]))) ∧ (upd H3 D (.lst (acc ++ [V.bl b]))) D = some (.lst (((n.take (i + 1)).map low).map V.bl)) := fun b hb => by
          subst hb
          refine ⟨_, hd, ?_, same_mut hs hD, ?_⟩
          · rw [List.length_map, List.length_map, List.length_take]
            exact Nat.lt_of_le_of_lt (show _ ≤ 2000 by omega) (by decide)
          · rw [upd_same, List.take_add_one, hc', List.map_append, List.map_append]
            rfl
        rw [lit_a, lt1]
        by_cases h : c < 97
        · rw [decide_eq_true h]
          exact iteF (fin false (by unfold low; rw [decide_eq_false (show ¬ 97 ≤ c by omega)]; rfl))
        · rw [decide_eq_false h]
          refine iteT ⟨_, _, rfl, rfl, ?_⟩
          rw [lit_z, lt1]
          refine fin _ ?_
          unfold low
          rw [decide_eq_true (show 97 ≤ c by omega), Bool.true_and]
          by_cases h2 : c ≤ 122
          · rw [decide_eq_true h2, decide_eq_false (by omega)]; rfl
          · rw [decide_eq_false h2, decide_eq_true (by omega)]; rfl
      · rintro H2 ⟨hs, hd⟩
        have hz : (S n).cps.size = n.length := S_len n
        rw [hz, List.take_length] at hd
        refine ⟨D, _, rfl, SqL.of hd, ?_⟩
        rw [allMap]
        exact q H2 hs
end
end My
namespace My
open PySem L2 SX C8
theorem cut63 {xs : List V} (h : xs.length ≤ 63) : cutV xs none (some 63) = xs := by
  unfold cutV
  have e : HT.sIx xs.length xs.length (some 63) = xs.length := by
    have := HT.sIx_nat xs.length xs.length 63
    rw [Nat.min_eq_right h] at this
    exact this
  rw [e, HT.sIx_none]
  simp
section
variable {P : Program} {w : World} {K : PySem.W.Frag} {mg : Str → Option Value} {base : Heap}
theorem ok__law_bag {f : Addr} {fd : FuncData} (F : Def K mg "_law_bag" s__law_bag f fd) (b : Binds K fd ["_law_script"] []) (T : Txt mg) : Cal P w K mg base 1 "_law_bag" (spBag K) [] := by
  refine cal0 F b .nil sc__law_bag (fun vs H Q E h => ?_) (fun cdv A outer s H vs Q E hr h => ?_)
  · obtain ⟨a, ns, rfl, _⟩ := h
    rfl
  obtain ⟨a, ns, rfl, hS, hl, q⟩ := h
  refine ⟨_, pss_cons (ps_set (i := 1) sc__law_bag.nd rfl (Or.inl rfl) pe_int)
    (pss_cons (ps_for PassesOwn.never rfl (pi_list (pe_slice sl_list (pv 0) po_none (po_some pe_int))) (pg_name (i := 2) sc__law_bag.nd rfl (Or.inl rfl))
      (pss_one (ps_set (i := 1) sc__law_bag.nd rfl (Or.inl rfl) (pe_op op_mod (pe_op op_add (pe_op op_add (pe_op op_mul (pv 1) pe_int) (pe_op op_mod (pv 2) pe_int)) pe_int) pe_int))))
    (pss_one (ps_ret (pe_lst (pa_cons (pe_callTy call_list_of (by rfl) T.list (by decide +kernel) (pa_cons (pe_slice sl_list (pv 0) po_none (po_some pe_int)) pa_nil)) (pa_cons pe_int (pa_cons pe_int (pa_cons (pv 1) pa_nil)))))))), ?_⟩
  have hl' : (ns.map V.int).length ≤ 63 := by rw [List.length_map]; exact hl
  refine ⟨_, rfl, _, rfl, a, _, rfl, hS, fun p hp => ?_⟩
  rw [cut63 hl']
  have s1 := same_new hp (HO.lst (ns.map V.int))
  refine ⟨p, rfl, ⟨_, SqL.of upd_same⟩, for_list (K := K) (a := p) (xs := ns.map V.int) (fun i σ H2 => ∃ (z : Int) (v : Option V), σ = [some (.ref a), some (.int z), v] ∧ Same H H2 ∧ H2 p = some (.lst (ns.map V.int)) ∧ 0 ≤ z ∧ z < 2147483647)
      ⟨8968, none, rfl, s1, upd_same, by decide, by decide⟩ (fun i σ H2 _ ⟨_, _, _, _, h, _⟩ => SqL.of h) ?_ ?_⟩
  · rintro i y σ H2 hi ⟨z, v, rfl, s2, h2, hz0, hz1⟩
    obtain ⟨n, rfl⟩ : ∃ n, y = V.int n := by
      rw [List.getElem?_map] at hi
      cases e : ns[i]? with
      | none => rw [e] at hi; cases hi
      | some n => rw [e] at hi; exact ⟨n, (Option.some.inj hi).symm⟩
    refine ⟨_, rfl, _, _, rfl, rfl, .inl ⟨by omega, by omega⟩, _, rfl, _, _, rfl, rfl, (by show (0 : Int) < 2147483629; decide), _, _, rfl, rfl, _, _, rfl, rfl, _, _, rfl, rfl, (by show (0 : Int) < 2147483647; decide), ?_⟩
    exact ⟨_, _, rfl, s2, h2, Int.emod_nonneg _ (by decide), Int.emod_lt_of_pos _ (by decide)⟩
  · rintro σ H2 ⟨z, v, rfl, s2, h2, hz0, hz1⟩
    refine ⟨_, rfl, _, rfl, a, _, rfl, Same.seq s2 hS, fun p2 hp2 => ?_⟩
    rw [cut63 hl']
    have s3 := s2.trans (same_new hp2 (HO.lst (ns.map V.int)))
    refine ⟨p2, _, rfl, .inl (SqL.of upd_same), fun l hl2 => ⟨_, rfl, (by show 4 ≤ sizeLine; decide), fun b2 hb2 => ?_⟩⟩
    have s4 := s3.trans (same_new hl2 (HO.lst (ns.map V.int)))
    have s5 := s4.trans (same_new hb2 (HO.lst [.ref l, .int 0, .int 0, .int z]))
    have nlb : l ≠ b2 := ne_of_none (show (upd (upd H2 p2 (.lst (ns.map V.int))) l (.lst (ns.map V.int))) l = some (.lst (ns.map V.int)) from upd_same) hb2
    exact q b2 l _ s5 (Same.free s4 hb2) ⟨ns, 0, 0, z, upd_same, by rw [upd_ne nlb]; exact upd_same, nlb, hl, Nat.zero_le _, Int.le_refl _, hz0, hz1⟩
end
end My
namespace My
open PySem L2 SX C8
section
variable {P : Program} {w : World} {K : PySem.W.Frag} {mg : Str → Option Value} {base : Heap}
theorem ok__law_pull {f : Addr} {fd : FuncData} (F : Def K mg "_law_pull" s__law_pull f fd) (b : Binds K fd ["_law_bag_here", "_law_amount"] []) (T : Txt mg) : Cal P w K mg base 1 "_law_pull" spPull [] := by
  refine cal0 F b .nil sc__law_pull (fun vs H Q E h => ?_) (fun cdv A outer s H vs Q E hr h => ?_)
  · obtain ⟨a, l, n, rfl, _⟩ := h
    rfl
  obtain ⟨b, l, n, rfl, B, hn0, hn1, q⟩ := h
  obtain ⟨ns, i, cur, salt, hb, hl, nlb, hlen, hi, hc, hs0, hs1⟩ := B.ex
  refine ⟨_, pss_cut (ps_if (PW.pt (pw_and (pt_cmpR op_eq (pe_ix ix_list (pv 0) pe_int (fun _ _ => rfl)) pe_int (nomark _)) (pw_and1 (pt_cmpR op_lt (pe_ix ix_list (pv 0) pe_int (fun _ _ => rfl)) (pe_callB call_len (by rfl) T.len (by decide +kernel) (pa_cons (pe_ix ix_list (pv 0) pe_int (fun _ _ => rfl)) pa_nil)) (nomark _)))))
      (pss_cons (ps_set (i := 2) sc__law_pull.nd rfl (Or.inl rfl) (pe_ix ix_seq (pe_ix ix_list (pv 0) pe_int (fun _ _ => rfl)) (pe_ix ix_list (pv 0) pe_int (fun _ _ => rfl)) (fun _ _ => rfl)))
      (pss_cons (ps_asg (pe_op op_add (pe_ix ix_list (pv 0) pe_int (fun _ _ => rfl)) pe_int) (pg_sub (pv 0) pe_int set_list))
      (pss_one (ps_if (pt_cmpR op_ge (pv 2) (pe_op op_pow pe_int pe_int) (nomark _))
        (pss_one (ps_asg (pv 2) (pg_sub (pv 0) pe_int set_list)))
        (pss_one (ps_asg (pe_op op_mod (pe_op op_add (pe_op op_add (pe_op op_mul (pe_ix ix_list (pv 0) pe_int (fun _ _ => rfl)) pe_int) (pe_op op_mul (pe_op op_mod (pv 2) pe_int) pe_int)) pe_int) pe_int) (pg_sub (pv 0) pe_int set_list)))))))
      (pss_nil))
    (pss_cons (ps_if (pt_cmpR op_gt (pe_ix ix_list (pv 0) pe_int (fun _ _ => rfl)) pe_int (nomark _))
      (pss_cons (ps_set (i := 3) sc__law_pull.nd rfl (Or.inl rfl) (pe_op op_mod (pe_ix ix_list (pv 0) pe_int (fun _ _ => rfl)) (pv 1)))
      (pss_cons (ps_asg (pe_op op_fdiv (pe_ix ix_list (pv 0) pe_int (fun _ _ => rfl)) (pv 1)) (pg_sub (pv 0) pe_int set_list))
      (pss_one (ps_ret (pv 3)))))
      (pss_nil))
    (pss_cons (ps_set (i := 4) sc__law_pull.nd rfl (Or.inl rfl) (pe_ix ix_list (pv 0) pe_int (fun _ _ => rfl)))
    (pss_cons (ps_asg (pe_op op_mod (pe_op op_add (pe_op op_add (pe_op op_mul (pv 4) pe_int) (pe_op op_mul (pe_op op_fdiv (pv 4) pe_int) pe_int)) pe_int) pe_int) (pg_sub (pv 0) pe_int set_list))
    (pss_one (ps_ret (pe_op op_mod (pe_op op_add (pe_op op_fdiv (pe_ix ix_list (pv 0) pe_int (fun _ _ => rfl)) pe_int) (pe_op op_mul (pe_op op_mod (pe_ix ix_list (pv 0) pe_int (fun _ _ => rfl)) pe_int) pe_int)) (pv 1))))))), ?_⟩
  have put : ∀ {H2 : Hp} {o : HO}, H2 l = some (.lst (ns.map V.int)) → (upd H2 b o) l = some (.lst (ns.map V.int)) := fun {H2 o} h => by rw [upd_ne nlb]; exact h
  have e18 : (10 : Int) ^ (18 : Int).toNat = 1000000000000000000 := by decide
  refine ⟨fun σ H2 => ∃ (v : Option V) (i : Nat) (cur salt : Int), σ = [some (.ref b), some (.int n), v, none, none] ∧ But b H H2 ∧ H2 b = some (.lst [.ref l, .int (i : Int), .int cur, .int salt]) ∧ H2 l = some (.lst (ns.map V.int)) ∧ i ≤ ns.length ∧ 0 ≤ cur ∧ 0 ≤ salt ∧ salt < 2147483647, ?_, ?_⟩
  · have same : ∃ (v : Option V) (i : Nat) (cur salt : Int), L2.start N__law_pull [V.ref b, V.int n] = [some (.ref b), some (.int n), v, none, none] ∧ But b H H ∧ H b = some (.lst [.ref l, .int (i : Int), .int cur, .int salt]) ∧ H l = some (.lst (ns.map V.int)) ∧ i ≤ ns.length ∧ 0 ≤ cur ∧ 0 ≤ salt ∧ salt < 2147483647 :=
      ⟨none, i, cur, salt, rfl, But.refl b H, hb, hl, hi, hc, hs0, hs1⟩
    refine ⟨_, rfl, _, _, _, _, rfl, rfl, SqL.of hb, rfl, rfl, _, rfl, iteI (fun e => ?_) (fun _ => iteF same)⟩
    refine ⟨_, rfl, _, _, _, _, rfl, rfl, SqL.of hb, rfl, _, rfl, _, _, _, _, rfl, rfl, SqL.of hb, rfl, _, _, rfl, .inl ⟨_, SqL.of hl, rfl⟩, _, _, rfl, rfl, _, rfl, iteD (fun e2 => ?_) (fun n2 => same)⟩
    have hlt : i < ns.length := by rw [List.length_map] at e2; omega
    have ha : atI (ns.map V.int) (i : Int) = some (.int ns[i]) := atI_nat (by rw [List.getElem?_map, List.getElem?_eq_getElem hlt] <;> rfl)
    refine ⟨_, rfl, _, _, _, _, rfl, rfl, SqL.of hb, rfl, _, rfl, _, _, _, _, rfl, rfl, SqL.of hb, rfl, .inl ⟨_, _, _, _, rfl, rfl, SqL.of hl, ha, ?_⟩⟩
    refine ⟨_, rfl, _, _, _, _, rfl, rfl, SqL.of hb, rfl, _, _, rfl, rfl, _, rfl, _, _, _, _, rfl, rfl, hb, rfl, ?_⟩
    have ei : ((i : Int) + 1) = ((i + 1 : Nat) : Int) := by omega
    refine ⟨_, rfl, _, _, rfl, rfl, ⟨by decide, by decide, by decide⟩, _, _, rfl, rfl, _, rfl, iteD (fun e3 => ?_) (fun n3 => ?_)⟩
    · rw [e18] at e3
      refine ⟨_, rfl, _, rfl, _, _, _, _, rfl, rfl, upd_same, rfl, ?_⟩
      refine ⟨_, i + 1, ns[i], salt, rfl, but_upd (but_upd (But.refl b H)), ?_, put (put hl), by omega, by omega, hs0, hs1⟩
      rw [upd_same, ← ei]
      rfl
    · have m0 : 0 ≤ ns[i] % 2147483629 := Int.emod_nonneg _ (by decide)
      have m1 : ns[i] % 2147483629 < 2147483629 := Int.emod_lt_of_pos _ (by decide)
      refine ⟨_, rfl, _, _, _, _, rfl, rfl, SqL.of upd_same, rfl, _, _, rfl, rfl, .inl ⟨by omega, by omega⟩, _, rfl, _, _, rfl, rfl, (by show (0 : Int) < 2147483629; decide), _, _, rfl, rfl, .inl ⟨by omega, by omega⟩, _, _, rfl, rfl, _, _, rfl, rfl, _, _, rfl, rfl, (by show (0 : Int) < 2147483647; decide), _, rfl, _, _, _, _, rfl, rfl, upd_same, rfl, ?_⟩
      refine ⟨_, i + 1, cur, (salt * 69621 + ns[i] % 2147483629 * 48271 + 5) % 2147483647, rfl, but_upd (but_upd (But.refl b H)), ?_, put (put hl), by omega, hc, Int.emod_nonneg (b := 2147483647) _ (by decide), Int.emod_lt_of_pos (b := 2147483647) _ (by decide)⟩
      rw [upd_same, ← ei]
      rfl
  · rintro σ H2 ⟨v, i2, cur2, salt2, rfl, s2, hb2, hl2, hi2, hc2, h20, h21⟩
    refine ⟨_, rfl, _, _, _, _, rfl, rfl, SqL.of hb2, rfl, _, _, rfl, rfl, _, rfl, iteD (fun e => ?_) (fun _ => ?_)⟩
    · have hq : 0 ≤ cur2 / n := Int.ediv_nonneg hc2 (by omega)
      refine ⟨_, rfl, _, _, _, _, rfl, rfl, SqL.of hb2, rfl, _, rfl, _, _, rfl, rfl, hn0, ?_⟩
      refine ⟨_, rfl, _, _, _, _, rfl, rfl, SqL.of hb2, rfl, _, rfl, _, _, rfl, rfl, ⟨hn0, hn1⟩, _, rfl, _, _, _, _, rfl, rfl, hb2, rfl, _, rfl, ?_⟩
      have m0 : 0 ≤ cur2 % n := Int.emod_nonneg _ (by omega)
      have m1 : cur2 % n < n := Int.emod_lt_of_pos _ hn0
      have em : ((cur2 % n).toNat : Int) = cur2 % n := by omega
      have := q (cur2 % n).toNat (upd H2 b (.lst [.ref l, .int (i2 : Int), .int (cur2 / n), .int salt2])) (by omega) (but_upd s2) ⟨ns, i2, cur2 / n, salt2, upd_same, put hl2, nlb, hlen, hi2, hq, h20, h21⟩
      rw [em] at this
      exact this
    · refine ⟨_, rfl, _, _, _, _, rfl, rfl, SqL.of hb2, rfl, ?_⟩
      have d0 : 0 ≤ salt2 / 127773 := Int.ediv_nonneg h20 (by decide)
      have d1 : salt2 / 127773 ≤ salt2 := Int.ediv_le_self _ h20
      refine ⟨_, rfl, _, _, rfl, rfl, .inl ⟨by omega, by omega⟩, _, rfl, _, _, rfl, rfl, ⟨by decide, by decide⟩, _, _, rfl, rfl, .inl ⟨by omega, by omega⟩, _, _, rfl, rfl, _, _, rfl, rfl, _, _, rfl, rfl, (by show (0 : Int) < 2147483647; decide), _, rfl, _, _, _, _, rfl, rfl, hb2, rfl, ?_⟩
      have z0 : 0 ≤ (salt2 * 39373 + salt2 / 127773 * 31 + 1013904223) % 2147483647 := Int.emod_nonneg _ (by decide)
      have z1 : (salt2 * 39373 + salt2 / 127773 * 31 + 1013904223) % 2147483647 < 2147483647 := Int.emod_lt_of_pos _ (by decide)
      have g0 : 0 ≤ (salt2 * 39373 + salt2 / 127773 * 31 + 1013904223) % 2147483647 % 8191 := Int.emod_nonneg _ (by decide)
      have g1 : (salt2 * 39373 + salt2 / 127773 * 31 + 1013904223) % 2147483647 % 8191 < 8191 := Int.emod_lt_of_pos _ (by decide)
      have goal : ∀ r : Int, 0 ≤ r → r < n → Q (.int r) (upd H2 b (.lst [.ref l, .int (i2 : Int), .int cur2, .int ((salt2 * 39373 + salt2 / 127773 * 31 + 1013904223) % 2147483647)])) := fun r r0 r1 => by
        have er : ((r.toNat : Nat) : Int) = r := Int.toNat_of_nonneg r0
        have := q r.toNat (upd H2 b (.lst [.ref l, .int (i2 : Int), .int cur2, .int ((salt2 * 39373 + salt2 / 127773 * 31 + 1013904223) % 2147483647)])) (by rw [er]; exact r1) (but_upd s2) ⟨ns, i2, cur2, _, upd_same, put hl2, nlb, hlen, hi2, hc2, z0, z1⟩
        rw [er] at this
        exact this
      refine ⟨_, rfl, _, _, _, _, rfl, rfl, SqL.of upd_same, rfl, _, _, rfl, rfl, ⟨by decide, by decide⟩, _, rfl, _, _, _, _, rfl, rfl, SqL.of upd_same, rfl, _, _, rfl, rfl, (by show (0 : Int) < 8191; decide), _, _, rfl, rfl, .inl ⟨Int.lt_of_lt_of_le (by decide) g0, Int.lt_trans g1 (by decide)⟩, _, _, rfl, rfl, _, rfl, _, _, rfl, rfl, hn0, ?_⟩
      exact goal _ (Int.emod_nonneg _ (by omega)) (Int.emod_lt_of_pos _ hn0)
end
end My
namespace My
open PySem L2 SX C8
section
variable {P : Program} {w : World} {K : PySem.W.Frag} {mg : Str → Option Value} {base : Heap}
theorem ok__law_of {f : Addr} {fd : FuncData} (F : Def K mg "_law_of" s__law_of f fd) (b : Binds K fd ["_law_bag_here", "_law_things"] []) (T : Txt mg) (c__law_pull : Cal P w K mg base 1 "_law_pull" spPull []) : Cal P w K mg base 2 "_law_of" (spOf K) [] := by
  refine cal0 F b .nil sc__law_of (fun vs H Q E h => ?_) (fun cdv A outer s H vs Q E hr h => ?_)
  · obtain ⟨a, l, n, rfl, _⟩ := h
    rfl
  obtain ⟨b, l, x, rfl, B, q⟩ := h
  refine ⟨_, pss_one (ps_ret (pe_ix ix_seq (pv 1) (pe_c c__law_pull hr (by first | decide | assumption | omega) rfl (pa_cons (pv 0) (pa_cons (pe_callB call_len (by rfl) T.len (by decide +kernel) (pa_cons (pv 1) pa_nil)) pa_nil))) (fun _ _ => rfl))), ?_⟩
  rcases q with ⟨a, xs, rfl, nlb, hl, h0, h1, q⟩ | ⟨z, rfl, h0, h1, q⟩
  · refine ⟨_, rfl, _, rfl, _, rfl, _, _, rfl, .inl ⟨xs, hl, rfl⟩, b, l, _, rfl, B, by omega, by omega, fun r H' hr' s' B' => ?_⟩
    have hlt : r < xs.length := by omega
    have ha : atI xs (r : Int) = some xs[r] := atI_nat (List.getElem?_eq_getElem hlt)
    exact .inl ⟨_, _, _, _, rfl, rfl, But.seq s' nlb hl, ha, q _ H' (List.getElem_mem hlt) s' B'⟩
  · have hz : (S z).length ≤ sizeLine := size_S (by omega)
    refine ⟨_, rfl, _, rfl, _, rfl, _, _, rfl, ⟨hz, rfl⟩, b, l, _, rfl, B, by rw [S_len]; omega, by rw [S_len]; omega, fun r H' hr' s' B' => ?_⟩
    rw [S_len] at hr'
    have hlt : r < z.length := by omega
    have ha : atI (S z).cps.toList (r : Int) = some z[r] := atI_nat (List.getElem?_eq_getElem hlt)
    exact .inr (.inr ⟨_, _, _, rfl, rfl, hz, ha, q _ H' (List.getElem_mem hlt) s' B'⟩)
end
end My
namespace My
open PySem L2 SX C8
/-- what isinstance says of a flat value -/
def tyN : V → String
  | .non => "NoneType" | .bl _ => "bool" | .int _ => "int" | .str _ => "str" | _ => ""
theorem tyX_flat {K : PySem.W.Frag} {H : Hp} : ∀ {x : V}, flatS x = true → TyX K H x (.type (tyN x))
  | .non, _ => .base .non
  | .bl b, _ => .base (.bl b)
  | .int i, _ => .base (.int i)
  | .str z, _ => .base (.str z)
  | .byt _, h => by cases h
  | .flt _, h => by cases h
  | .ref _, h => by cases h
  | .ty _, h => by cases h
theorem kit_tup {K : PySem.W.Frag} : ∀ {x : V}, flatS x = true → PySem.W.kitOne K (.type (tyN x)) (.type "tuple") = some false
  | .non, _ => kit_ty (a := "NoneType") (b := "tuple") (by decide +kernel)
  | .bl b, _ => kit_ty (a := "bool") (b := "tuple") (by decide +kernel)
  | .int i, _ => kit_ty (a := "int") (b := "tuple") (by decide +kernel)
  | .str z, _ => kit_ty (a := "str") (b := "tuple") (by decide +kernel)
  | .byt _, h => by cases h
  | .flt _, h => by cases h
  | .ref _, h => by cases h
  | .ty _, h => by cases h
theorem kit_lst {K : PySem.W.Frag} : ∀ {x : V}, flatS x = true → PySem.W.kitOne K (.type (tyN x)) (.type "list") = some false
  | .non, _ => kit_ty (a := "NoneType") (b := "list") (by decide +kernel)
  | .bl b, _ => kit_ty (a := "bool") (b := "list") (by decide +kernel)
  | .int i, _ => kit_ty (a := "int") (b := "list") (by decide +kernel)
  | .str z, _ => kit_ty (a := "str") (b := "list") (by decide +kernel)
  | .byt _, h => by cases h
  | .flt _, h => by cases h
  | .ref _, h => by cases h
  | .ty _, h => by cases h
theorem kit_bool {K : PySem.W.Frag} : ∀ {x : V}, flatS x = true → ∃ b, PySem.W.kitOne K (.type (tyN x)) (.type "bool") = some b
  | .non, _ => ⟨false, kit_ty (a := "NoneType") (b := "bool") (by decide +kernel)⟩
  | .bl b, _ => ⟨true, kit_ty (a := "bool") (b := "bool") (by decide +kernel)⟩
  | .int i, _ => ⟨false, kit_ty (a := "int") (b := "bool") (by decide +kernel)⟩
  | .str z, _ => ⟨false, kit_ty (a := "str") (b := "bool") (by decide +kernel)⟩
  | .byt _, h => by cases h
  | .flt _, h => by cases h
  | .ref _, h => by cases h
  | .ty _, h => by cases h
theorem scal_flat : ∀ {x : V}, flatS x = true → scal x x = true
  | .non, _ => rfl
  | .bl b, _ => rfl
  | .int i, _ => rfl
  | .str z, _ => rfl
  | .byt _, h => by cases h
  | .flt _, h => by cases h
  | .ref _, h => by cases h
  | .ty _, h => by cases h
theorem kit_any_flat {K : PySem.W.Frag} {x : V} (h : flatS x = true) : PySem.W.kitAny K (.type (tyN x)) [.type "tuple", .type "list"] = some false :=
  kitAny_cons (kit_tup h) (fun _ => kitAny_cons (kit_lst h) (fun _ => kitAny_nil) fun z => by cases z) fun z => by cases z
theorem decB (b : Bool) : decide (V.bl b = V.bl b) = true := decide_eq_true rfl
theorem trues : ∀ n : Nat, (List.replicate n true).all id = true
  | 0 => rfl
  | n + 1 => trues n
section
variable {P : Program} {w : World} {K : PySem.W.Frag} {mg : Str → Option Value} {base : Heap}
theorem ok__law_like {f : Addr} {fd : FuncData} (F : Def K mg "_law_like" s__law_like f fd) (b : Binds K fd ["_law_found", "_law_due"] []) (T : Txt mg) : ∀ n, Cal P w K mg base n "_law_like" (spLike n) []
  | 0 => ⟨f, fd, ["_law_found", "_law_due"], [], ⟨fun _ _ _ _ h => h.elim, fun _ _ _ _ _ _ _ _ _ _ _ _ _ h => h.elim⟩, F.mgf, F.kp, b, .nil⟩
  | n + 1 => by
    have c__law_like := ok__law_like F b T n
    refine cal0 F b .nil sc__law_like (fun vs H Q E h => ?_) (fun cdv A outer s H vs Q E hr h => ?_)
    · obtain ⟨x, y, rfl, _⟩ := h
      rfl
    obtain ⟨x, y, rfl, ha, q⟩ := h
    have hle : n ≤ n := Nat.le_refl n
    refine ⟨_, pss_cons (ps_if (PW.pt (pw_or (pt_cmpR op_ne (pe_callB call_isi (by rfl) T.isinstance (by decide +kernel) (pa_cons (pv 1) (pa_cons (pe_bltn (v := .ty "tuple") (by rfl) T.tuple (by decide +kernel) rfl) pa_nil))) (pe_callB call_isi (by rfl) T.isinstance (by decide +kernel) (pa_cons (pv 0) (pa_cons (pe_bltn (v := .ty "tuple") (by rfl) T.tuple (by decide +kernel) rfl) pa_nil))) (nomark _)) (pw_or1 (pt_cmpR op_ne (pe_callB call_isi (by rfl) T.isinstance (by decide +kernel) (pa_cons (pv 1) (pa_cons (pe_bltn (v := .ty "list") (by rfl) T.list (by decide +kernel) rfl) pa_nil))) (pe_callB call_isi (by rfl) T.isinstance (by decide +kernel) (pa_cons (pv 0) (pa_cons (pe_bltn (v := .ty "list") (by rfl) T.list (by decide +kernel) rfl) pa_nil))) (nomark _)))))
      (pss_one (ps_ret pe_bl))
      (pss_nil))
    (pss_cons (ps_if (pt_not (pt_val (pe_callB call_isiT (by rfl) T.isinstance (by decide +kernel) (pa_cons (pv 1) (pa_cons (pe_tup (pa_cons (pe_bltn (v := .ty "tuple") (by rfl) T.tuple (by decide +kernel) rfl) (pa_cons (pe_bltn (v := .ty "list") (by rfl) T.list (by decide +kernel) rfl) pa_nil))) pa_nil)))))
      (pss_one (ps_ret (pe_and (pe_cmpR op_eq (pe_callB call_isi (by rfl) T.isinstance (by decide +kernel) (pa_cons (pv 0) (pa_cons (pe_bltn (v := .ty "bool") (by rfl) T.bool (by decide +kernel) rfl) pa_nil))) (pe_callB call_isi (by rfl) T.isinstance (by decide +kernel) (pa_cons (pv 1) (pa_cons (pe_bltn (v := .ty "bool") (by rfl) T.bool (by decide +kernel) rfl) pa_nil))) (nomark _)) (pe_one (pe_cmpR op_eq (pv 0) (pv 1) (nomark _))))))
      (pss_nil))
    (pss_one (ps_ret (pe_and (pe_cmpR op_eq (pe_callB call_len (by rfl) T.len (by decide +kernel) (pa_cons (pv 0) pa_nil)) (pe_callB call_len (by rfl) T.len (by decide +kernel) (pa_cons (pv 1) pa_nil)) (nomark _)) (pe_one (pe_callB (cr_all rfl) (by rfl) T.all (by decide +kernel) (pa_cons (pe_lc (own := [("_law_k", 2)]) (g := gName 2) (by rfl) sc__law_like.nd (pi_range1 rfl T.range (pa_cons (pe_callB call_len (by rfl) T.len (by decide +kernel) (pa_cons (pv 1) pa_nil)) pa_nil)) (blkOk_by (own := [("_law_k", 2)]) (N := N__law_like) (sc := fnScope s__law_like) (by decide +kernel)) (fun _ _ _ _ _ => pg_name (i := 2) sc__law_like.nd rfl (Or.inl rfl)) (fun _ _ _ _ _ => pts_nil) (fun _ _ _ _ _ => (pe_c c__law_like hr (by first | decide | assumption | omega) rfl (pa_cons (pe_ix (show IxR _ (rIx K) from ix_seq) (pv 0) (pv 2) (fun _ _ => rfl)) (pa_cons (pe_ix (show IxR _ (rIx K) from ix_seq) (pv 1) (pv 2) (fun _ _ => rfl)) pa_nil))))) pa_nil))))))), ?_⟩
    have flatP : x = y → flatS x = true → PySem.W.kitAny K (.type (tyN x)) [.type "tuple", .type "list"] = some false := fun _ fx => kit_any_flat fx
    have hcase : (x = y ∧ flatS x = true) ∨ ∃ (m : Nat) (a b' : Addr) (xs ys : List V), n = m + 1 ∧ x = .ref a ∧ y = .ref b' ∧ ((H a = some (.lst xs) ∧ H b' = some (.lst ys)) ∨ (H a = some (.tup xs) ∧ H b' = some (.tup ys))) ∧
        xs.length = ys.length ∧ xs.length ≤ 10000 ∧ ∀ (i : Nat) (u v : V), xs[i]? = some u → ys[i]? = some v → Alike m H u v := by
      cases n with
      | zero => exact .inl ha
      | succ m =>
        rcases ha with h | ⟨a, b', xs, ys, h⟩
        · exact .inl h
        · exact .inr ⟨m, a, b', xs, ys, rfl, h⟩
    rcases hcase with ⟨e, fx⟩ | ⟨m, a, b', xs, ys, rfl, rfl, rfl, hH, hlen, hsz, hel⟩
    · subst e
      have T1 := tyX_flat (K := K) (H := H) fx
      obtain ⟨kb, hk⟩ := kit_bool (K := K) fx
      refine ⟨_, rfl, x, _, _, _, _, rfl, .ty _, T1, kit_tup fx, _, rfl, x, _, _, _, _, rfl, .ty _, T1, kit_tup fx, rfl, _, rfl, ?_⟩
      rw [decB]
      refine iteF ⟨_, rfl, x, _, _, _, _, rfl, .ty _, T1, kit_lst fx, _, rfl, x, _, _, _, _, rfl, .ty _, T1, kit_lst fx, rfl, _, rfl, ?_⟩
      rw [decB]
      refine iteF ⟨_, rfl, (by show 2 ≤ sizeLine; decide), fun tp htp => ?_⟩
      have s1 := same_new htp (HO.tup [.ty "tuple", .ty "list"])
      refine ⟨x, tp, _, _, [.type "tuple", .type "list"], false, rfl, upd_same, .cons (.ty _) (.cons (.ty _) .nil), tyX_flat fx, kit_any_flat fx, _, rfl, iteT ?_⟩
      refine ⟨_, rfl, x, _, _, _, _, rfl, .ty _, tyX_flat fx, hk, _, rfl, x, _, _, _, _, rfl, .ty _, tyX_flat fx, hk, by cases kb <;> rfl, _, rfl, ?_⟩
      rw [decB]
      refine iteT ⟨_, rfl, _, rfl, scal_flat fx, ?_⟩
      rw [decide_eq_true (rfl : x = x)]
      exact q _ s1
    · obtain ⟨kn, bt, bl, k1, k2, k3, tyA, tyB, isS⟩ : ∃ (kn : String) (bt bl : Bool), PySem.W.kitOne K (.type kn) (.type "tuple") = some bt ∧ PySem.W.kitOne K (.type kn) (.type "list") = some bl ∧ PySem.W.kitAny K (.type kn) [.type "tuple", .type "list"] = some true ∧
          (∀ H', Same H H' → TyX K H' (.ref a) (.type kn)) ∧ (∀ H', Same H H' → TyX K H' (.ref b') (.type kn)) ∧ (∀ H', Same H H' → ((SqL K H' a xs ∧ SqL K H' b' ys) ∨ (SqT K H' a xs ∧ SqT K H' b' ys))) := by
        rcases hH with ⟨h1, h2⟩ | ⟨h1, h2⟩
        · refine ⟨"list", false, true, kit_ty (by decide +kernel), kit_ty (by decide +kernel), ?_, fun H' e => .base (.lst (e _ _ h1)), fun H' e => .base (.lst (e _ _ h2)), fun H' e => .inl ⟨SqL.of (e _ _ h1), SqL.of (e _ _ h2)⟩⟩
          exact kitAny_cons (kit_ty (r := false) (by decide +kernel)) (fun _ => kitAny_cons (kit_ty (r := true) (by decide +kernel)) (fun z => by cases z) fun _ => rfl) fun z => by cases z
        · refine ⟨"tuple", true, false, kit_ty (by decide +kernel), kit_ty (by decide +kernel), ?_, fun H' e => .base (.tup (e _ _ h1)), fun H' e => .base (.tup (e _ _ h2)), fun H' e => .inr ⟨SqT.of (e _ _ h1), SqT.of (e _ _ h2)⟩⟩
          exact kitAny_cons (kit_ty (r := true) (by decide +kernel)) (fun z => by cases z) fun _ => rfl
      have r0 := Same.refl H
      refine ⟨_, rfl, _, _, _, _, _, rfl, .ty _, tyB H r0, k1, _, rfl, _, _, _, _, _, rfl, .ty _, tyA H r0, k1, by cases bt <;> rfl, _, rfl, ?_⟩
      rw [decB]
      refine iteF ⟨_, rfl, _, _, _, _, _, rfl, .ty _, tyB H r0, k2, _, rfl, _, _, _, _, _, rfl, .ty _, tyA H r0, k2, by cases bl <;> rfl, _, rfl, ?_⟩
      rw [decB]
      refine iteF ⟨_, rfl, (by show 2 ≤ sizeLine; decide), fun tp htp => ?_⟩
      have s1 := same_new htp (HO.tup [.ty "tuple", .ty "list"])
      refine ⟨_, tp, _, _, [.type "tuple", .type "list"], true, rfl, upd_same, .cons (.ty _) (.cons (.ty _) .nil), tyB _ s1, k3, _, rfl, iteF ?_⟩
      have lenA : LenV K (.ref a) (upd H tp (.tup [.ty "tuple", .ty "list"])) xs.length := by
        rcases isS _ s1 with ⟨h1, h2⟩ | ⟨h1, h2⟩
        · exact .inl ⟨_, h1, rfl⟩
        · exact .inr ⟨_, h1, rfl⟩
      have lenB : LenV K (.ref b') (upd H tp (.tup [.ty "tuple", .ty "list"])) ys.length := by
        rcases isS _ s1 with ⟨h1, h2⟩ | ⟨h1, h2⟩
        · exact .inl ⟨_, h2, rfl⟩
        · exact .inr ⟨_, h2, rfl⟩
      refine ⟨_, rfl, _, _, rfl, lenA, _, rfl, _, _, rfl, lenB, rfl, _, rfl, ?_⟩
      rw [decide_eq_true (show V.int (xs.length : Int) = V.int (ys.length : Int) by rw [hlen])]
      refine iteT ⟨_, rfl, _, _, rfl, lenB, _, rfl, by omega, by omega, fun D hD => ?_⟩
      refine lc_range (lo := 0) (n := (ys.length : Int).toNat) (fun i H2 => Same H H2 ∧ H2 D = some (.lst ((List.replicate i true).map V.bl))) ⟨s1.trans (same_new hD _), upd_same⟩ ?_ ?_
      · rintro i H2 hi ⟨hs, hd⟩
        have e0 : (0 : Int) + (i : Int) = (i : Int) := Int.zero_add _
        rw [e0]
        have hix : i < xs.length := by omega
        have hiy : i < ys.length := by omega
        have ax : atI xs (i : Int) = some xs[i] := atI_nat (List.getElem?_eq_getElem hix)
        have ay : atI ys (i : Int) = some ys[i] := atI_nat (List.getElem?_eq_getElem hiy)
        have hA := Alike.mono hs (hel i xs[i] ys[i] (List.getElem?_eq_getElem hix) (List.getElem?_eq_getElem hiy))
        have fin : ∀ H3, Same H2 H3 → ∃ acc, H3 D = some (.lst acc) ∧ acc.length < sizeLine ∧ Same H (upd H3 D (.lst (acc ++ [V.bl true]))) ∧ (upd H3 D (.lst (acc ++ [V.bl true]))) D = some (.lst ((List.replicate (i + 1) true).map V.bl)) := fun H3 s3 => by
          refine ⟨_, s3 _ _ hd, ?_, same_mut (hs.trans s3) (Same.free s1 hD), ?_⟩
          · rw [List.length_map, List.length_replicate]
            exact Nat.lt_of_lt_of_le (show i < 20000 by omega) (by decide)
          · rw [upd_same, List.replicate_succ']
            simp
        rcases isS _ hs with ⟨h1, h2⟩ | ⟨h1, h2⟩
        · exact ⟨rfl, _, rfl, _, rfl, .inl ⟨_, _, _, _, rfl, rfl, h1, ax, _, rfl, _, rfl, .inl ⟨_, _, _, _, rfl, rfl, h2, ay, _, _, rfl, hA, fin⟩⟩⟩
        · exact ⟨rfl, _, rfl, _, rfl, .inr (.inl ⟨_, _, _, _, rfl, rfl, h1, ax, _, rfl, _, rfl, .inr (.inl ⟨_, _, _, _, rfl, rfl, h2, ay, _, _, rfl, hA, fin⟩)⟩)⟩
      · rintro H2 ⟨hs, hd⟩
        refine ⟨D, _, rfl, SqL.of hd, ?_⟩
        rw [trues]
        exact q H2 hs
end
end My
namespace My
open PySem L2 SX C8
theorem lit_abc : (Str.ofString "abcxyz") = S [97, 98, 99, 120, 121, 122] := by decide +kernel
theorem ins_lits : ∀ v ∈ ([V.str (Str.ofString "A"), .str (Str.ofString "1"), .str (Str.ofString " "), .str (Str.ofString "_"), .str (Str.ofString "-"), .str (Str.ofString "{"), .str (Str.ofString "\n"), .str (Str.ofString "~")] : List V), ∃ z : List Nat, v = .str (S z) ∧ z.length ≤ 1 := by
  have e1 : (Str.ofString "A") = S [65] := by decide +kernel
  have e2 : (Str.ofString "1") = S [49] := by decide +kernel
  have e3 : (Str.ofString " ") = S [32] := by decide +kernel
  have e4 : (Str.ofString "_") = S [95] := by decide +kernel
  have e5 : (Str.ofString "-") = S [45] := by decide +kernel
  have e6 : (Str.ofString "~") = S [126] := by decide +kernel
  rw [e1, e2, e3, e4, e5, lit_ob, lit_nl, e6]
  intro v hv
  simp only [List.mem_cons, List.not_mem_nil, or_false] at hv
  rcases hv with rfl | rfl | rfl | rfl | rfl | rfl | rfl | rfl
  all_goals exact ⟨_, rfl, by decide⟩
theorem cut_head (t : List Nat) (j : Nat) : ∃ u : List Nat, cutS (S t) none (some (j : Int)) = S u ∧ u.length ≤ j := by
  refine ⟨_, rfl, ?_⟩
  rw [S_len, HT.sIx_none, HT.sIx_nat, List.length_take, List.length_drop]
  omega
theorem cut_tail9 (t : List Nat) (j : Nat) : ∃ u : List Nat, cutS (S t) (some (j : Int)) none = S u ∧ u.length ≤ t.length - j := by
  refine ⟨_, rfl, ?_⟩
  rw [S_len, HT.sIx_nat, HT.sIx_none, List.length_take, List.length_drop]
  omega
theorem map_sings (cs : List Nat) : (cs.map fun c => S [c]) = (cs.map fun c => [c]).map S := by rw [List.map_map] <;> rfl
theorem flat_sings (cs : List Nat) : (cs.map fun c => [c]).flatten = cs := by
  induction cs with
  | nil => rfl
  | cons c r ih => simp only [List.map_cons, List.flatten_cons, ih]; rfl
theorem sum_sings (cs : List Nat) : ((cs.map fun c => S [c]).map (·.length)).sum = cs.length := by
  induction cs with
  | nil => rfl
  | cons c r ih => simp only [List.map_cons, List.sum_cons, ih, List.length_cons]; rw [S_len]; simp; omega
section
variable {P : Program} {w : World} {K : PySem.W.Frag} {mg : Str → Option Value} {base : Heap}
theorem ok_law {f : Addr} {fd : FuncData} (F : Def K mg "law" s_law f fd) (T : Txt mg) (c__law_bag : Cal P w K mg base 1 "_law_bag" (spBag K) []) (c__law_pull : Cal P w K mg base 1 "_law_pull" spPull []) (c__law_of : Cal P w K mg base 2 "_law_of" (spOf K) []) (c__law_like : Cal P w K mg base 3 "_law_like" (spLike 3) [])
    (c_is_name : Cal P w K mg base 2 "is_name" spName []) (c__law_is_name : Cal P w K mg base 1 "_law_is_name" spName []) : FnOk P w K mg base C8.CX0 4 f fd ["_law_script"] (spLaw K) := by
  refine fn0 F.fn sc_law (fun vs H Q E h => ?_) (fun cdv A outer s H vs Q E hr h => ?_)
  · obtain ⟨a, ns, rfl, _⟩ := h
    rfl
  obtain ⟨a, ns, rfl, hS, hl, q⟩ := h
  refine ⟨_, pss_cons (ps_set (i := 1) sc_law.nd rfl (Or.inr rfl) (pe_c c__law_bag hr (by first | decide | assumption | omega) rfl (pa_cons (pv 0) pa_nil)))
    (pss_cons (ps_for PassesOwn.never rfl (pi_range1 rfl T.range (pa_cons pe_int pa_nil)) (pg_name (i := 2) sc_law.nd rfl (Or.inl rfl))
      (pss_cons (ps_set (i := 3) sc_law.nd rfl (Or.inl rfl) (pe_join pe_str (pe_lc (own := [("_law_k", 5)]) (g := gName 5) (by rfl) sc_law.nd (pi_range1 rfl T.range (pa_cons (pe_c c__law_pull hr (by first | decide | assumption | omega) rfl (pa_cons (pv 1) (pa_cons pe_int pa_nil))) pa_nil)) (blkOk_by (own := [("_law_k", 5)]) (N := N_law) (sc := fnScope s_law) (by decide +kernel)) (fun _ _ _ _ _ => pg_name (i := 5) sc_law.nd rfl (Or.inl rfl)) (fun _ _ _ _ _ => pts_nil) (fun _ _ _ _ _ => (pe_c c__law_of hr (by first | decide | assumption | omega) rfl (pa_cons (pv 1) (pa_cons pe_str pa_nil)))))))
      (pss_cut (ps_if (pt_cmpR op_eq (pe_c c__law_pull hr (by first | decide | assumption | omega) rfl (pa_cons (pv 1) (pa_cons pe_int pa_nil))) pe_int (nomark _))
        (pss_cons (ps_set (i := 4) sc_law.nd rfl (Or.inl rfl) (pe_c c__law_pull hr (by first | decide | assumption | omega) rfl (pa_cons (pv 1) (pa_cons (pe_op op_add (pe_callB call_len (by rfl) T.len (by decide +kernel) (pa_cons (pv 3) pa_nil)) pe_int) pa_nil))))
        (pss_one (ps_set (i := 3) sc_law.nd rfl (Or.inl rfl) (pe_op op_add_str (pe_op op_add_str (pe_slice sl_str (pv 3) po_none (po_some (pv 4))) (pe_c c__law_of hr (by first | decide | assumption | omega) rfl (pa_cons (pv 1) (pa_cons (pe_lst (pa_cons pe_str (pa_cons pe_str (pa_cons pe_str (pa_cons pe_str (pa_cons pe_str (pa_cons pe_str (pa_cons pe_str (pa_cons pe_str pa_nil))))))))) pa_nil)))) (pe_slice sl_str (pv 3) (po_some (pv 4)) po_none)))))
        (pss_nil))
      (pss_one (ps_if (pt_not (pt_val (pe_c c__law_like hr (by first | decide | assumption | omega) rfl (pa_cons (pe_c c_is_name hr (by first | decide | assumption | omega) rfl (pa_cons (pv 3) pa_nil)) (pa_cons (pe_c c__law_is_name hr (by first | decide | assumption | omega) rfl (pa_cons (pv 3) pa_nil)) pa_nil)))))
        (pss_one (ps_ret pe_bl))
        (pss_nil))))))
    (pss_one (ps_ret (pe_c c__law_like hr (by first | decide | assumption | omega) rfl (pa_cons (pe_lst (pa_cons (pe_gc rfl T.g_LONGEST) (pa_cons (pe_gc rfl T.g_STEPS) (pa_cons (pe_gc rfl T.g_DEEPEST) pa_nil)))) (pa_cons (pe_lst (pa_cons pe_int (pa_cons pe_int (pa_cons pe_int pa_nil)))) pa_nil)))))), ?_⟩
  refine ⟨_, rfl, a, ns, rfl, hS, hl, fun b l H1 s1 hb B1 => ?_⟩
  refine ⟨12, rfl, by decide, by decide, for_range (n := 12) (fun i σ H2 => ∃ v2 v3 v4, σ = [some (.ref a), some (.ref b), v2, v3, v4, none] ∧ BagAt H2 b l) ⟨none, none, none, rfl, B1⟩ ?_ ?_⟩
  · rintro i σ H2 hi ⟨v2, v3, v4, rfl, B2⟩
    refine ⟨⟨_, rfl⟩, _, rfl, b, l, 13, rfl, B2, by decide, by decide, fun m H3 hm b3 B3 => ⟨_, rfl, by omega, by omega, fun D hD => ?_⟩⟩
    have nbD := B3.nb hD
    have nlD := B3.nl hD
    have en : (m : Int).toNat = m := by omega
    rw [en]
    refine lc_range (lo := 0) (n := m) (fun i H4 => But b H3 H4 ∧ BagAt H4 b l ∧ ∃ cs : List Nat, cs.length = i ∧ H4 D = some (.lst ((cs.map fun c => S [c]).map V.str))) ⟨Same.but (same_new hD _), B3.mono (same_new hD _), [], rfl, upd_same⟩ ?_ ?_
    · rintro i H4 hi ⟨b4, B4, cs, hc1, hd⟩
      refine ⟨rfl, _, rfl, b, l, _, rfl, B4, .inr ⟨_, by rw [lit_abc], by decide, by decide, fun c H5 hc b5 B5 => ?_⟩⟩
      refine ⟨_, b5 _ _ hd nbD.symm, ?_, but_mut (b4.trans b5) hD, B5.upd nbD nlD, cs ++ [c], by simp [hc1], ?_⟩
      · rw [List.length_map, List.length_map, hc1]
        exact Nat.lt_of_lt_of_le (show i < 2000 by omega) (by decide)
      · rw [upd_same]
        simp
    · rintro H4 ⟨b4, B4, cs, hc1, hd⟩
      refine ⟨_, D, cs.map fun c => S [c], rfl, rfl, .inl (SqL.of hd), ?_, ?_⟩
      · rw [lit_e, show (S ([] : List Nat)).length = 0 from rfl, Nat.mul_zero, sum_sings, hc1]
        omega
      rw [map_sings, join0 lit_e, flat_sings]
      refine ⟨fun σ H5 => ∃ (u : List Nat) (w4 : Option V), σ = [some (.ref a), some (.ref b), some (.int (0 + (i : Int))), some (.str (S u)), w4, none] ∧ BagAt H5 b l ∧ u.length ≤ 20, ?_, ?_⟩
      · refine ⟨_, rfl, b, l, 3, rfl, B4, by decide, by decide, fun k H5 hk b5 B5 => ⟨rfl, _, rfl, iteI (fun _ => ?_) (fun _ => ?_)⟩⟩
        · refine ⟨_, rfl, _, rfl, _, _, rfl, ⟨size_S (by omega), rfl⟩, _, _, rfl, rfl, b, l, _, rfl, B5, by omega, by rw [S_len]; omega, fun x H6 hx b6 B6 => ?_⟩
          rw [S_len] at hx
          refine ⟨_, rfl, _, rfl, _, rfl, _, rfl, size_S (by omega), ?_⟩
          obtain ⟨h1, eh1, hh1⟩ := cut_head cs x
          rw [eh1]
          refine ⟨_, rfl, (by show 8 ≤ sizeLine; decide), fun p hp => ?_⟩
          refine ⟨b, l, _, rfl, B6.mono (same_new hp _), .inl ⟨p, _, rfl, (B6.nb hp).symm, SqL.of upd_same, by show 0 < 8; decide, by show 8 ≤ 1000; decide, fun v H7 hv b7 B7 => ?_⟩⟩
          obtain ⟨e, rfl, he⟩ := ins_lits v hv
          refine ⟨_, _, rfl, rfl, (by rw [S_len, S_len]; exact Nat.le_trans (show _ ≤ 100000 by omega) (by decide)), ?_⟩
          rw [S_cat]
          refine ⟨_, rfl, _, rfl, _, rfl, _, rfl, size_S (by omega), ?_⟩
          obtain ⟨h3, eh3, hh3⟩ := cut_tail9 cs x
          rw [eh3]
          refine ⟨_, _, rfl, rfl, (by rw [S_len, S_len, List.length_append]; exact Nat.le_trans (show _ ≤ 100000 by omega) (by decide)), ?_⟩
          rw [S_cat]
          exact ⟨_, _, rfl, B7, by rw [List.length_append, List.length_append]; omega⟩
        · exact ⟨cs, _, rfl, B5, by omega⟩
      · rintro σ H5 ⟨u, w4, rfl, B5, hu⟩
        refine ⟨_, rfl, u, rfl, by omega, fun H6 s6 => ⟨_, rfl, u, rfl, by omega, fun H7 s7 => ?_⟩⟩
        exact ⟨_, _, rfl, Alike.flat rfl, fun H8 s8 => ⟨true, rfl, iteF ⟨_, _, _, rfl, ((B5.mono s6).mono s7).mono s8⟩⟩⟩
  · rintro σ H2 ⟨v2, v3, v4, rfl, B2⟩
    refine ⟨(by show 3 ≤ sizeLine; decide), fun p hp => ⟨(by show 3 ≤ sizeLine; decide), fun p2 hp2 => ?_⟩⟩
    have s7 := same_new hp2 (HO.lst [.int 1000, .int 400, .int 24])
    refine ⟨_, _, rfl, .inr ⟨p, p2, _, _, rfl, rfl, .inl ⟨s7 _ _ upd_same, upd_same⟩, rfl, (by show 3 ≤ 10000; decide), fun i u v hu hv => ?_⟩, fun H8 _ => q H8⟩
    match i, hu, hv with
    | 0, hu, hv =>
      cases hu
      cases hv
      exact Alike.flat rfl
    | 1, hu, hv =>
      cases hu
      cases hv
      exact Alike.flat rfl
    | 2, hu, hv =>
      cases hu
      cases hv
      exact Alike.flat rfl
    | i + 3, hu, hv => cases hu
end
end My
namespace My
open PySem L2 SX C8
section
set_option maxHeartbeats 0 in
theorem all_mk {P : Program} {w : World} {K : PySem.W.Frag} {h : Heap} {mg : Str → Option Value} {fa : Addr} (X : K.In h) (G : h.Ns mainGlobals mg) (hfa : mg "law" = some (.ref fa))
    {f0 : Addr} {od0 an0 : Option Addr} {sl0 : Array (Option Value)} {oc0 kV0 dc0 pm0 cd0 ct0 : Value}
    (a0 : PySem.W.nsIn K mainGlobals "is_letter" = some (some (.ref f0)))
    (l0 : K.lookup f0 = some ⟨oc0, od0, .func (PySem.W.fnOf "is_letter" "is_letter" (fnArgs s_is_letter) (fnBody s_is_letter) (fnScope s_is_letter) .none kV0 dc0 pm0 an0 cd0 ct0), sl0⟩)
    (c0 : PySem.W.codeIn K cd0 "is_letter" = true)
    (k0 : PySem.W.keepIn K (.ref f0) = true)
    {f1 : Addr} {od1 an1 : Option Addr} {sl1 : Array (Option Value)} {oc1 kV1 dc1 pm1 cd1 ct1 : Value}
    (a1 : PySem.W.nsIn K mainGlobals "is_name" = some (some (.ref f1)))
    (l1 : K.lookup f1 = some ⟨oc1, od1, .func (PySem.W.fnOf "is_name" "is_name" (fnArgs s_is_name) (fnBody s_is_name) (fnScope s_is_name) .none kV1 dc1 pm1 an1 cd1 ct1), sl1⟩)
    (c1 : PySem.W.codeIn K cd1 "is_name" = true)
    (k1 : PySem.W.keepIn K (.ref f1) = true)
    {f2 : Addr} {od2 an2 : Option Addr} {sl2 : Array (Option Value)} {oc2 kV2 dc2 pm2 cd2 ct2 : Value}
    (a2 : PySem.W.nsIn K mainGlobals "_law_bag" = some (some (.ref f2)))
    (l2 : K.lookup f2 = some ⟨oc2, od2, .func (PySem.W.fnOf "_law_bag" "_law_bag" (fnArgs s__law_bag) (fnBody s__law_bag) (fnScope s__law_bag) .none kV2 dc2 pm2 an2 cd2 ct2), sl2⟩)
    (c2 : PySem.W.codeIn K cd2 "_law_bag" = true)
    (k2 : PySem.W.keepIn K (.ref f2) = true)
    {f3 : Addr} {od3 an3 : Option Addr} {sl3 : Array (Option Value)} {oc3 kV3 dc3 pm3 cd3 ct3 : Value}
    (a3 : PySem.W.nsIn K mainGlobals "_law_pull" = some (some (.ref f3)))
    (l3 : K.lookup f3 = some ⟨oc3, od3, .func (PySem.W.fnOf "_law_pull" "_law_pull" (fnArgs s__law_pull) (fnBody s__law_pull) (fnScope s__law_pull) .none kV3 dc3 pm3 an3 cd3 ct3), sl3⟩)
    (c3 : PySem.W.codeIn K cd3 "_law_pull" = true)
    (k3 : PySem.W.keepIn K (.ref f3) = true)
    {f4 : Addr} {od4 an4 : Option Addr} {sl4 : Array (Option Value)} {oc4 kV4 dc4 pm4 cd4 ct4 : Value}
    (a4 : PySem.W.nsIn K mainGlobals "_law_like" = some (some (.ref f4)))
    (l4 : K.lookup f4 = some ⟨oc4, od4, .func (PySem.W.fnOf "_law_like" "_law_like" (fnArgs s__law_like) (fnBody s__law_like) (fnScope s__law_like) .none kV4 dc4 pm4 an4 cd4 ct4), sl4⟩)
    (c4 : PySem.W.codeIn K cd4 "_law_like" = true)
    (k4 : PySem.W.keepIn K (.ref f4) = true)
    {f5 : Addr} {od5 an5 : Option Addr} {sl5 : Array (Option Value)} {oc5 kV5 dc5 pm5 cd5 ct5 : Value}
    (a5 : PySem.W.nsIn K mainGlobals "_law_of" = some (some (.ref f5)))
    (l5 : K.lookup f5 = some ⟨oc5, od5, .func (PySem.W.fnOf "_law_of" "_law_of" (fnArgs s__law_of) (fnBody s__law_of) (fnScope s__law_of) .none kV5 dc5 pm5 an5 cd5 ct5), sl5⟩)
    (c5 : PySem.W.codeIn K cd5 "_law_of" = true)
    (k5 : PySem.W.keepIn K (.ref f5) = true)
    {f6 : Addr} {od6 an6 : Option Addr} {sl6 : Array (Option Value)} {oc6 kV6 dc6 pm6 cd6 ct6 : Value}
    (a6 : PySem.W.nsIn K mainGlobals "_law_is_name" = some (some (.ref f6)))
    (l6 : K.lookup f6 = some ⟨oc6, od6, .func (PySem.W.fnOf "_law_is_name" "_law_is_name" (fnArgs s__law_is_name) (fnBody s__law_is_name) (fnScope s__law_is_name) .none kV6 dc6 pm6 an6 cd6 ct6), sl6⟩)
    (c6 : PySem.W.codeIn K cd6 "_law_is_name" = true)
    (k6 : PySem.W.keepIn K (.ref f6) = true)
    {f7 : Addr} {od7 an7 : Option Addr} {sl7 : Array (Option Value)} {oc7 kV7 dc7 pm7 cd7 ct7 : Value}
    (a7 : PySem.W.nsIn K mainGlobals "law" = some (some (.ref f7)))
    (l7 : K.lookup f7 = some ⟨oc7, od7, .func (PySem.W.fnOf "law" "law" (fnArgs s_law) (fnBody s_law) (fnScope s_law) .none kV7 dc7 pm7 an7 cd7 ct7), sl7⟩)
    (c7 : PySem.W.codeIn K cd7 "law" = true)
    (k7 : PySem.W.keepIn K (.ref f7) = true)
    (z0 : PySem.W.nsIn K mainGlobals "all" = some none)
    (z1 : PySem.W.nsIn K mainGlobals "len" = some none)
    (z2 : PySem.W.nsIn K mainGlobals "list" = some none)
    (z3 : PySem.W.nsIn K mainGlobals "isinstance" = some none)
    (z4 : PySem.W.nsIn K mainGlobals "tuple" = some none)
    (z5 : PySem.W.nsIn K mainGlobals "bool" = some none)
    (z6 : PySem.W.nsIn K mainGlobals "range" = some none)
    {t0 : Tok}
    (y0 : PySem.W.nsIn K mainGlobals "LONGEST_NAME" = some (some (.int 8 t0)))
    {t1 : Tok}
    (y1 : PySem.W.nsIn K mainGlobals "LONGEST" = some (some (.int 1000 t1)))
    {t2 : Tok}
    (y2 : PySem.W.nsIn K mainGlobals "STEPS" = some (some (.int 400 t2)))
    {t3 : Tok}
    (y3 : PySem.W.nsIn K mainGlobals "DEEPEST" = some (some (.int 24 t3)))
    : ∃ fd : FuncData, (∀ (s : Shared) (v : Value), BindsTo s fd ⟨[v], []⟩ [("_law_script", v)]) ∧ ∀ base : Heap, K.In base → base.Ns mainGlobals mg → FnOk P w K mg base C8.CX0 4 fa fd ["_law_script"] (spLaw K) := by
  have e := hfa.symm.trans (PySem.W.mg_of X G a7)
  cases e
  have T : Txt mg := ⟨PySem.W.mg_none_of X G z0, PySem.W.mg_none_of X G z1, PySem.W.mg_none_of X G z2, PySem.W.mg_none_of X G z3, PySem.W.mg_none_of X G z4, PySem.W.mg_none_of X G z5, PySem.W.mg_none_of X G z6, ⟨_, PySem.W.mg_of X G y0, ⟨_, rfl⟩⟩, ⟨_, PySem.W.mg_of X G y1, ⟨_, rfl⟩⟩, ⟨_, PySem.W.mg_of X G y2, ⟨_, rfl⟩⟩, ⟨_, PySem.W.mg_of X G y3, ⟨_, rfl⟩⟩⟩
  have F_is_letter : Def K mg "is_letter" s_is_letter f0 _ := ⟨⟨oc0, od0, .none, kV0, dc0, pm0, an0, cd0, ct0, sl0, rfl, l0, c0⟩, PySem.W.mg_of X G a0, k0⟩
  have b_is_letter := F_is_letter.fn.binds (ps := ["sign"]) rfl fun _ _ _ _ _ _ us hl => match us, hl with | [_], _ => rfl
  have F_is_name : Def K mg "is_name" s_is_name f1 _ := ⟨⟨oc1, od1, .none, kV1, dc1, pm1, an1, cd1, ct1, sl1, rfl, l1, c1⟩, PySem.W.mg_of X G a1, k1⟩
  have b_is_name := F_is_name.fn.binds (ps := ["text"]) rfl fun _ _ _ _ _ _ us hl => match us, hl with | [_], _ => rfl
  have F__law_bag : Def K mg "_law_bag" s__law_bag f2 _ := ⟨⟨oc2, od2, .none, kV2, dc2, pm2, an2, cd2, ct2, sl2, rfl, l2, c2⟩, PySem.W.mg_of X G a2, k2⟩
  have b__law_bag := F__law_bag.fn.binds (ps := ["_law_script"]) rfl fun _ _ _ _ _ _ us hl => match us, hl with | [_], _ => rfl
  have F__law_pull : Def K mg "_law_pull" s__law_pull f3 _ := ⟨⟨oc3, od3, .none, kV3, dc3, pm3, an3, cd3, ct3, sl3, rfl, l3, c3⟩, PySem.W.mg_of X G a3, k3⟩
  have b__law_pull := F__law_pull.fn.binds (ps := ["_law_bag_here", "_law_amount"]) rfl fun _ _ _ _ _ _ us hl => match us, hl with | [_, _], _ => rfl
  have F__law_like : Def K mg "_law_like" s__law_like f4 _ := ⟨⟨oc4, od4, .none, kV4, dc4, pm4, an4, cd4, ct4, sl4, rfl, l4, c4⟩, PySem.W.mg_of X G a4, k4⟩
  have b__law_like := F__law_like.fn.binds (ps := ["_law_found", "_law_due"]) rfl fun _ _ _ _ _ _ us hl => match us, hl with | [_, _], _ => rfl
  have F__law_of : Def K mg "_law_of" s__law_of f5 _ := ⟨⟨oc5, od5, .none, kV5, dc5, pm5, an5, cd5, ct5, sl5, rfl, l5, c5⟩, PySem.W.mg_of X G a5, k5⟩
  have b__law_of := F__law_of.fn.binds (ps := ["_law_bag_here", "_law_things"]) rfl fun _ _ _ _ _ _ us hl => match us, hl with | [_, _], _ => rfl
  have F__law_is_name : Def K mg "_law_is_name" s__law_is_name f6 _ := ⟨⟨oc6, od6, .none, kV6, dc6, pm6, an6, cd6, ct6, sl6, rfl, l6, c6⟩, PySem.W.mg_of X G a6, k6⟩
  have b__law_is_name := F__law_is_name.fn.binds (ps := ["_law_text"]) rfl fun _ _ _ _ _ _ us hl => match us, hl with | [_], _ => rfl
  have F_law : Def K mg "law" s_law fa _ := ⟨⟨oc7, od7, .none, kV7, dc7, pm7, an7, cd7, ct7, sl7, rfl, l7, c7⟩, PySem.W.mg_of X G a7, k7⟩
  have b_law := F_law.fn.binds (ps := ["_law_script"]) rfl fun _ _ _ _ _ _ us hl => match us, hl with | [_], _ => rfl
  refine ⟨PySem.W.fnOf "law" "law" (fnArgs s_law) (fnBody s_law) (fnScope s_law) .none kV7 dc7 pm7 an7 cd7 ct7, fun s v => .of_eq rfl, fun base _ _ => ?_⟩
  have c_is_letter := ok_is_letter (P := P) (w := w) (base := base) F_is_letter b_is_letter T 
  have c_is_name := ok_is_name (P := P) (w := w) (base := base) F_is_name b_is_name T c_is_letter
  have c__law_bag := ok__law_bag (P := P) (w := w) (base := base) F__law_bag b__law_bag T 
  have c__law_pull := ok__law_pull (P := P) (w := w) (base := base) F__law_pull b__law_pull T 
  have c__law_like := ok__law_like (P := P) (w := w) (base := base) F__law_like b__law_like T 3
  have c__law_of := ok__law_of (P := P) (w := w) (base := base) F__law_of b__law_of T c__law_pull
  have c__law_is_name := ok__law_is_name (P := P) (w := w) (base := base) F__law_is_name b__law_is_name T 
  exact ok_law F_law T c__law_bag c__law_pull c__law_of c__law_like c_is_name c__law_is_name
theorem walk {l : PySem.W.OpenLaw} {q : Program} {loose : List Str} {XP : (Str → Option Value) → Heap → Prop} {YP : World → Heap → Prop} {d : DefRec} {K : Params → PySem.W.Frag} (hn : l.most = some 63) (hdf : d.params.defaults = [])
    (hY : ∀ (w : World) (h : Heap), YP w h → (K w.params).In h)
    (F : ∀ (w : World) (mg : Str → Option Value) (fa : Addr) (h : Heap), (K w.params).In h → h.Ns mainGlobals mg → mg d.name = some (.ref fa) →
      ∃ fd : FuncData, (∀ (s : Shared) (u : Value), BindsTo s fd ⟨[u], []⟩ [("_law_script", u)]) ∧ ∀ base : Heap, (K w.params).In base → base.Ns mainGlobals mg → FnOk l.prog w (K w.params) mg base C8.CX0 4 fa fd ["_law_script"] (spLaw (K w.params))) :
    PySem.W.WalkO q loose XP YP l.row.toRowW d [] (fun f vs => PySem.call f vs) :=
  L2.walk_of (n := 63) (k := 4) (x := "_law_script") (CX := fun _ => C8.CX0) (sp := fun w => spLaw (K w.params)) hn (by decide) hdf ⟨rfl, by decide, by decide⟩ hY F (fun _ _ a ns hl _ hS => ⟨a, ns, rfl, hS, hl, fun _ => rfl⟩) fun _ _ _ _ _ z => z
end
end My
open PySem PySem.W PyProof.Rows
set_option maxRecDepth 100000 in
set_option maxHeartbeats 0 in
theorem PySem.Challenge.cw_wordrooms_k01_names_and_bounds_holds : PySem.Challenge.rw_wordrooms_k01_names_and_bounds.Holds := by
  w_on; o_law; k_head; (case hw => w_witness2)
  k_fill
  refine My.walk (l := PySem.Challenge.rw_wordrooms_k01_names_and_bounds) rfl rfl (fun w h Y => PySem.W.kIn_of Y) ?F
  case F =>
    intro w mg fa h KX G hmg
    refine' My.all_mk KX G hmg ?a0 ?l0 ?c0 ?k0 ?a1 ?l1 ?c1 ?k1 ?a2 ?l2 ?c2 ?k2 ?a3 ?l3 ?c3 ?k3 ?a4 ?l4 ?c4 ?k4 ?a5 ?l5 ?c5 ?k5 ?a6 ?l6 ?c6 ?k6 ?a7 ?l7 ?c7 ?k7 ?z0 ?z1 ?z2 ?z3 ?z4 ?z5 ?z6 ?y0 ?y1 ?y2 ?y3
    (case a0 => k_is); (case l0 => k_is); (case c0 => k_is); (case k0 => k_is); (case a1 => k_is); (case l1 => k_is)
    (case c1 => k_is); (case k1 => k_is); (case a2 => k_is); (case l2 => k_is); (case c2 => k_is); (case k2 => k_is)
    (case a3 => k_is); (case l3 => k_is); (case c3 => k_is); (case k3 => k_is); (case a4 => k_is); (case l4 => k_is)
    (case c4 => k_is); (case k4 => k_is); (case a5 => k_is); (case l5 => k_is); (case c5 => k_is); (case k5 => k_is)
    (case a6 => k_is); (case l6 => k_is); (case c6 => k_is); (case k6 => k_is); (case a7 => k_is); (case l7 => k_is)
    (case c7 => k_is); (case k7 => k_is); (case z0 => k_is); (case z1 => k_is); (case z2 => k_is); (case z3 => k_is)
    (case z4 => k_is); (case z5 => k_is); (case z6 => k_is); (case y0 => k_is); (case y1 => k_is); (case y2 => k_is)
    (case y3 => k_is)
#print axioms PySem.Challenge.cw_wordrooms_k01_names_and_bounds_holds
