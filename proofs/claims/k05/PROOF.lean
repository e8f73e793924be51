import PyProof.Rows.All
import Wide.All
import OpenK.AllK
import Wide.FinOn
import HandS.ForMost
import HandS.Walk
import HandS.Codes
import HandS.IsInst
import HandS.Flow
import HandS.ForExc
import HandS.ExcInit
import HandS.ExcField
import PyProof.StrBlock2
import PySem.Challenge.RW_wordrooms_k05_whole_lists_within_lists
set_option Elab.async false
set_option linter.all false
set_option maxRecDepth 100000
namespace My
open PySem L2 SX
/-! ### signs and texts -/
theorem cnt_is (c : Nat) (l : List Nat) : Txt.count (S l) (S [c]) = ((l.count c : Nat) : Int) := by
  have h : Txt.count (S l) (S [c]) = PyProof.Rows.cnt c l := PyProof.Rows.count_cnt (S l) c
  rw [h]
  clear h
  induction l with
  | nil => rfl
  | cons a r ih =>
    rw [PyProof.Rows.cnt_cons, ih, List.count_cons]
    by_cases e : a = c
    · simp [e]; omega
    · simp [e]
theorem slice_nn (l : List Nat) (i j : Nat) (hi : i ≤ l.length) (hj : j ≤ l.length) : cutS (S l) (some (i : Int)) (some (j : Int)) = S ((l.drop i).take (j - i)) := by
  unfold cutS
  rw [S_len, HT.sIx_nat, HT.sIx_nat, Nat.min_eq_left hi, Nat.min_eq_left hj]
theorem slice_0n (l : List Nat) (j : Nat) (hj : j ≤ l.length) : cutS (S l) none (some (j : Int)) = S (l.take j) := by
  unfold cutS
  rw [S_len, HT.sIx_none, HT.sIx_nat, Nat.min_eq_left hj, Nat.sub_zero, List.drop_zero]
theorem dec_S (a b : List Nat) : decide (V.str (S a) = V.str (S b)) = decide (a = b) := by
  by_cases e : a = b
  · subst e; simp
  · have h : ¬ V.str (S a) = V.str (S b) := fun q => e (S_inj (V.str.inj q))
    rw [decide_eq_false h, decide_eq_false e]
theorem at_S {l : List Nat} {i : Nat} {c : Nat} (h : l[i]? = some c) : atI (S l).cps.toList (i : Int) = some c := atI_nat h
theorem size_S {l : List Nat} (h : l.length ≤ 100000) : (S l).length ≤ sizeLine := by
  rw [S_len]; exact Nat.le_trans h (by decide)
theorem lit_ob : (Str.ofString "{") = S [123] := by decide +kernel
theorem lit_cb : (Str.ofString "}") = S [125] := by decide +kernel
theorem lit_bs : (Str.ofString "\\") = S [92] := by decide +kernel
theorem lit_n : (Str.ofString "n") = S [110] := by decide +kernel
theorem lit_bsn : (Str.ofString "\\n") = S [92, 110] := by decide +kernel
theorem lit_nl : (Str.ofString "\n") = S [10] := by decide +kernel
theorem lit_e : (Str.ofString "") = S [] := by decide +kernel
theorem lit_cc : (Str.ofString "{}") = S [123, 125] := by decide +kernel
def specL : List Nat := [32, 92, 123, 125, 34, 36, 91, 93, 59, 35]
theorem lit_spec : (Str.ofString " \\{}\"$[];#") = S specL := by decide +kernel
/-! ### a word written -/
def tsig (c : Nat) : List Nat := if c = 10 then [92, 110] else if c ∈ specL then [92, c] else [c]
def turn (l : List Nat) : List Nat := l.flatMap tsig
theorem tsig_len (c : Nat) : (tsig c).length ≤ 2 := by
  unfold tsig
  split
  · simp
  · split <;> simp
theorem turn_len (l : List Nat) : (turn l).length ≤ 2 * l.length := by
  unfold turn
  induction l with
  | nil => simp
  | cons c r ih =>
    rw [List.flatMap_cons, List.length_append, List.length_cons]
    have := tsig_len c
    omega
theorem turn_snoc (l : List Nat) (c : Nat) : turn (l ++ [c]) = turn l ++ tsig c := by
  unfold turn
  rw [List.flatMap_append]
  simp
def dep (l : List Nat) : Int := (l.count 123 : Int) - (l.count 125 : Int)
def dl (c : Nat) : Int := if c = 123 then 1 else if c = 125 then -1 else 0
theorem dep_nil : dep [] = 0 := by simp [dep]
theorem dep_cons (c : Nat) (r : List Nat) : dep (c :: r) = dl c + dep r := by
  unfold dep dl
  rw [List.count_cons, List.count_cons]
  by_cases h1 : c = 123
  · subst h1; simp; omega
  · by_cases h2 : c = 125
    · subst h2; simp; omega
    · simp [h1, h2]
def Pairs (l : List Nat) : Bool := (List.range (l.length + 1)).all (fun i => decide (0 ≤ dep (l.take i))) && decide (dep l = 0)
def wtext (l : List Nat) : List Nat := if l = [] then [123, 125] else if l.length + 2 ≤ (turn l).length ∧ Pairs l = true then 123 :: (l ++ [125]) else turn l
/-- where the brace pairs: many open, at place k -/
def pend (m : Int) (k : Nat) : List Nat → Option Nat
  | [] => none
  | c :: r => if c = 123 then pend (m + 1) (k + 1) r else if c = 125 then (if m - 1 = 0 then some k else pend (m - 1) (k + 1) r) else pend m (k + 1) r
theorem pend_ok : ∀ (r : List Nat) (m : Int) (k : Nat), 1 ≤ m → (pend m k (r ++ [125]) = some (k + r.length) ↔ (∀ i, i ≤ r.length → 1 ≤ m + dep (r.take i)) ∧ m + dep r = 1)
  | [], m, k, hm => by
    show (if (125 : Nat) = 123 then _ else if (125 : Nat) = 125 then (if m - 1 = 0 then some k else pend (m - 1) (k + 1) []) else _) = some (k + 0) ↔ _
    rw [if_neg (by decide), if_pos rfl]
    by_cases h : m - 1 = 0
    · rw [if_pos h]
      refine ⟨fun _ => ⟨fun i hi => ?_, ?_⟩, fun _ => rfl⟩
      · simp [dep_nil]; omega
      · rw [dep_nil]; omega
    · rw [if_neg h]
      refine ⟨fun q => by simp [pend] at q, fun ⟨_, q⟩ => ?_⟩
      rw [dep_nil] at q
      omega
  | c :: r, m, k, hm => by
    have key : (∀ i, i ≤ (c :: r).length → 1 ≤ m + dep ((c :: r).take i)) ↔ ∀ i, i ≤ r.length → 1 ≤ (m + dl c) + dep (r.take i) := by
      constructor
      · intro h i hi
        have := h (i + 1) (by simp; omega)
        rw [List.take_succ_cons, dep_cons] at this
        omega
      · intro h i hi
        cases i with
        | zero => simp [dep_nil]; omega
        | succ i =>
          rw [List.take_succ_cons, dep_cons]
          have := h i (by simp at hi; omega)
          omega
    rw [key, dep_cons]
    have hk : k + (c :: r).length = (k + 1) + r.length := by simp; omega
    rw [hk]
    show (if c = 123 then pend (m + 1) (k + 1) (r ++ [125]) else if c = 125 then (if m - 1 = 0 then some k else pend (m - 1) (k + 1) (r ++ [125])) else pend m (k + 1) (r ++ [125])) = _ ↔ _
    by_cases h1 : c = 123
    · rw [if_pos h1, pend_ok r (m + 1) (k + 1) (by omega)]
      have : dl c = 1 := by simp [dl, h1]
      rw [this]
      constructor
      · rintro ⟨a, b⟩; exact ⟨a, by omega⟩
      · rintro ⟨a, b⟩; exact ⟨a, by omega⟩
    · rw [if_neg h1]
      by_cases h2 : c = 125
      · have hd : dl c = -1 := by simp [dl, h2]
        rw [if_pos h2, hd]
        by_cases h3 : m - 1 = 0
        · rw [if_pos h3]
          constructor
          · intro q
            have := Option.some.inj q
            omega
          · rintro ⟨a, _⟩
            have := a 0 (Nat.zero_le _)
            simp [dep_nil] at this
            omega
        · rw [if_neg h3, pend_ok r (m - 1) (k + 1) (by omega)]
          constructor
          · rintro ⟨a, b⟩; exact ⟨fun i hi => by have := a i hi; omega, by omega⟩
          · rintro ⟨a, b⟩; exact ⟨fun i hi => by have := a i hi; omega, by omega⟩
      · have hd : dl c = 0 := by simp [dl, h1, h2]
        rw [if_neg h2, hd, pend_ok r m (k + 1) hm]
        constructor
        · rintro ⟨a, b⟩; exact ⟨fun i hi => by have := a i hi; omega, by omega⟩
        · rintro ⟨a, b⟩; exact ⟨fun i hi => by have := a i hi; omega, by omega⟩
theorem pairs_iff (l : List Nat) : Pairs l = true ↔ (∀ i, i ≤ l.length → 0 ≤ dep (l.take i)) ∧ dep l = 0 := by
  unfold Pairs
  rw [Bool.and_eq_true, List.all_eq_true, decide_eq_true_eq]
  refine and_congr_left fun _ => ⟨fun h i hi => of_decide_eq_true (h i (List.mem_range.mpr (by omega))), fun h i hi => decide_eq_true (h i (by have := List.mem_range.mp hi; omega))⟩
theorem pend_pairs (l : List Nat) : pend 0 0 (123 :: (l ++ [125])) = some (l.length + 1) ↔ Pairs l = true := by
  show (if (123 : Nat) = 123 then pend (0 + 1) (0 + 1) (l ++ [125]) else _) = _ ↔ _
  rw [if_pos rfl, pairs_iff]
  have := pend_ok l (0 + 1) (0 + 1) (by omega)
  rw [show 0 + 1 + l.length = l.length + 1 by omega] at this
  rw [this]
  constructor
  · rintro ⟨a, b⟩; exact ⟨fun i hi => by have := a i hi; omega, by omega⟩
  · rintro ⟨a, b⟩; exact ⟨fun i hi => by have := a i hi; omega, by omega⟩
/-- the next sign -/
theorem pend_at {l : List Nat} {i : Nat} {c : Nat} (h : l[i]? = some c) (m : Int) (k : Nat) :
    pend m k (l.drop i) = if c = 123 then pend (m + 1) (k + 1) (l.drop (i + 1)) else if c = 125 then (if m - 1 = 0 then some k else pend (m - 1) (k + 1) (l.drop (i + 1))) else pend m (k + 1) (l.drop (i + 1)) := by
  obtain ⟨hl, e⟩ := List.getElem?_eq_some_iff.mp h
  rw [List.drop_eq_getElem_cons hl, e]
  rfl
end My
namespace My
open PySem L2 SX C8
theorem ite_S {a b : List Nat} {z : Str} {A B : Prop} (hz : z = S b) (h1 : a = b → A) (h2 : a ≠ b → B) : if decide (V.str (S a) = V.str z) = true then A else B := by
  subst hz
  rw [dec_S]
  by_cases e : a = b
  · rw [decide_eq_true e, if_pos rfl]; exact h1 e
  · rw [decide_eq_false e, if_neg Bool.false_ne_true]; exact h2 e
theorem iteD {p A B : Prop} [Decidable p] (h1 : p → A) (h2 : ¬ p → B) : if decide p = true then A else B := by
  by_cases e : p
  · rw [decide_eq_true e, if_pos rfl]; exact h1 e
  · rw [decide_eq_false e, if_neg Bool.false_ne_true]; exact h2 e
theorem iteI {i j : Int} {A B : Prop} (h1 : i = j → A) (h2 : i ≠ j → B) : if decide (V.int i = V.int j) = true then A else B :=
  iteD (fun e => h1 (V.int.inj e)) (fun e => h2 fun q => e (congrArg V.int q))
def oI : Option Nat → V
  | none => .non
  | some k => .int (k : Int)
/-! ### promises of the program's defs -/
def spPend : Sp := fun vs H Q _ => ∃ (l : List Nat) (i : Nat), vs = [.str (S l), .int (i : Int)] ∧ l.length ≤ 90000 ∧ i ≤ l.length ∧ Q (oI (pend 0 i (l.drop i))) H
def spStand : Sp := fun vs H Q _ => ∃ (l : List Nat), vs = [.str (S l)] ∧ l.length ≤ 80000 ∧ Q (.bl (Pairs l)) H
def spTsig : Sp := fun vs H Q _ => ∃ (c : Nat), vs = [.str (S [c])] ∧ Q (.str (S (tsig c))) H
def spTurned : Sp := fun vs H Q _ => ∃ (l : List Nat), vs = [.str (S l)] ∧ l.length ≤ 40000 ∧ ∀ H', Same H H' → Q (.str (S (turn l))) H'
def spWtext : Sp := fun vs H Q _ => ∃ (l : List Nat), vs = [.str (S l)] ∧ l.length ≤ 40000 ∧ ∀ H', Same H H' → Q (.str (S (wtext l))) H'
def spLturned : Sp := fun vs H Q _ => ∃ (l : List Nat), vs = [.str (S l)] ∧ l.length ≤ 40000 ∧ Q (.str (S (turn l))) H
def spLpairs : Sp := fun vs H Q _ => ∃ (l : List Nat), vs = [.str (S l)] ∧ l.length ≤ 40000 ∧ ∀ H', Same H H' → Q (.bl (Pairs l)) H'
/-! ### the law's bag -/
structure BagAt (H : Hp) (b l : Addr) : Prop where
  ex : ∃ (ns : List Int) (i : Nat) (cur salt : Int), H b = some (.lst [.ref l, .int (i : Int), .int cur, .int salt]) ∧ H l = some (.lst (ns.map V.int)) ∧ l ≠ b ∧ ns.length ≤ 63 ∧ i ≤ ns.length ∧ 0 ≤ cur ∧ 0 ≤ salt ∧ salt < 2147483647
theorem BagAt.mono {H H' : Hp} {b l : Addr} (B : BagAt H b l) (e : Same H H') : BagAt H' b l := by
  obtain ⟨ns, i, cur, salt, h1, h2, h3⟩ := B.ex
  exact ⟨ns, i, cur, salt, e _ _ h1, e _ _ h2, h3⟩
theorem BagAt.upd {H : Hp} {b l D : Addr} {o : HO} (B : BagAt H b l) (n1 : b ≠ D) (n2 : l ≠ D) : BagAt (L2.upd H D o) b l := by
  obtain ⟨ns, i, cur, salt, h1, h2, h3⟩ := B.ex
  exact ⟨ns, i, cur, salt, by rw [upd_ne n1]; exact h1, by rw [upd_ne n2]; exact h2, h3⟩
theorem BagAt.nb {H : Hp} {b l D : Addr} (B : BagAt H b l) (h : H D = none) : b ≠ D := by
  obtain ⟨ns, i, cur, salt, h1, h2, h3⟩ := B.ex
  exact ne_of_none h1 h
theorem BagAt.nl {H : Hp} {b l D : Addr} (B : BagAt H b l) (h : H D = none) : l ≠ D := by
  obtain ⟨ns, i, cur, salt, h1, h2, h3⟩ := B.ex
  exact ne_of_none h2 h
/-- all but b stays -/
def But (b : Addr) (H H' : Hp) : Prop := ∀ c o, H c = some o → c ≠ b → H' c = some o
theorem But.refl (b : Addr) (H : Hp) : But b H H := fun _ _ h _ => h
theorem But.trans {b : Addr} {H H1 H2 : Hp} (a : But b H H1) (c : But b H1 H2) : But b H H2 := fun x o h n => c x o (a x o h n) n
theorem Same.but {b : Addr} {H H' : Hp} (e : Same H H') : But b H H' := fun x o h _ => e x o h
theorem same_new {H : Hp} {p : Addr} (h : H p = none) (o : HO) : Same H (upd H p o) := fun b u q => by rw [upd_ne (ne_of_none q h)]; exact q
theorem same_mut {H H' : Hp} {p : Addr} {o : HO} (e : Same H H') (h : H p = none) : Same H (upd H' p o) := fun a u ha => by
  rw [upd_ne (ne_of_none ha h)]
  exact e a u ha
theorem but_mut {b : Addr} {H H' : Hp} {p : Addr} {o : HO} (e : But b H H') (h : H p = none) : But b H (upd H' p o) := fun a u ha n => by
  rw [upd_ne (ne_of_none ha h)]
  exact e a u ha n
theorem but_upd {b : Addr} {H H' : Hp} {o : HO} (e : But b H H') : But b H (upd H' b o) := fun a u ha n => by
  rw [upd_ne n]
  exact e a u ha n
theorem But.seq {K : PySem.W.Frag} {b a : Addr} {H H' : Hp} {xs : List V} (e : But b H H') (n : a ≠ b) (h : SqL K H a xs) : SqL K H' a xs := by
  rcases h with (h | ⟨o, h⟩) | h
  · exact .inl (.inl (e _ _ h n))
  · exact .inl (.inr ⟨o, e _ _ h n⟩)
  · exact .inr h
def spBag (K : PySem.W.Frag) : Sp := fun vs H Q _ => ∃ (a : Addr) (ns : List Int), vs = [.ref a] ∧ SqL K H a (ns.map V.int) ∧ ns.length ≤ 63 ∧ ∀ (b l : Addr) H', Same H H' → H b = none → BagAt H' b l → Q (.ref b) H'
def spPull : Sp := fun vs H Q _ => ∃ (b l : Addr) (n : Int), vs = [.ref b, .int n] ∧ BagAt H b l ∧ 0 < n ∧ n < 1073741824 ∧ ∀ (r : Nat) H', (r : Int) < n → But b H H' → BagAt H' b l → Q (.int (r : Int)) H'
def spOf (K : PySem.W.Frag) : Sp := fun vs H Q _ => ∃ (b l : Addr) (x : V), vs = [.ref b, x] ∧ BagAt H b l ∧
  ((∃ (a : Addr) (xs : List V), x = .ref a ∧ a ≠ b ∧ SqL K H a xs ∧ 0 < xs.length ∧ xs.length ≤ 1000 ∧ ∀ (v : V) H', v ∈ xs → But b H H' → BagAt H' b l → Q v H') ∨
   (∃ (z : List Nat), x = .str (S z) ∧ 0 < z.length ∧ z.length ≤ 1000 ∧ ∀ (c : Nat) H', c ∈ z → But b H H' → BagAt H' b l → Q (.str (S [c])) H'))
/-- a drawn text: of at most so many signs, each of those that the law has -/
def abc : List Nat := [97, 98, 32, 123, 125, 92, 10, 110, 120, 34, 36, 91, 93, 59, 35, 65, 122, 48, 57, 95, 45, 43, 33, 126, 99]
def spText : Sp := fun vs H Q _ => ∃ (b l : Addr) (n : Nat), vs = [.ref b, .int (n : Int)] ∧ BagAt H b l ∧ n ≤ 1000 ∧ ∀ (z : List Nat) H', z.length ≤ n → (∀ c ∈ z, c ∈ abc) → But b H H' → BagAt H' b l → Q (.str (S z)) H'
/-! ### two values that are told alike -/
def flatS : V → Bool
  | .non => true | .bl _ => true | .int _ => true | .str _ => true | _ => false
def Alike : Nat → Hp → V → V → Prop
  | 0, _, x, y => x = y ∧ flatS x = true
  | n + 1, H, x, y => (x = y ∧ flatS x = true) ∨ ∃ (a b : Addr) (xs ys : List V), x = .ref a ∧ y = .ref b ∧ ((H a = some (.lst xs) ∧ H b = some (.lst ys)) ∨ (H a = some (.tup xs) ∧ H b = some (.tup ys))) ∧
      xs.length = ys.length ∧ xs.length ≤ 10000 ∧ ∀ (i : Nat) (u v : V), xs[i]? = some u → ys[i]? = some v → Alike n H u v
theorem Alike.mono : ∀ {n : Nat} {H H' : Hp} {x y : V}, Same H H' → Alike n H x y → Alike n H' x y
  | 0, _, _, _, _, _, h => h
  | n + 1, H, H', x, y, e, h => by
    rcases h with h | ⟨a, b, xs, ys, h1, h2, h3, h4, h5, h6⟩
    · exact .inl h
    · refine .inr ⟨a, b, xs, ys, h1, h2, ?_, h4, h5, fun i u v hu hv => Alike.mono e (h6 i u v hu hv)⟩
      rcases h3 with ⟨p, q⟩ | ⟨p, q⟩
      · exact .inl ⟨e _ _ p, e _ _ q⟩
      · exact .inr ⟨e _ _ p, e _ _ q⟩
theorem Alike.flat {n : Nat} {H : Hp} {x : V} (h : flatS x = true) : Alike n H x x := by
  cases n with
  | zero => exact ⟨rfl, h⟩
  | succ n => exact .inl ⟨rfl, h⟩
def spLike : Nat → Sp
  | 0 => fun _ _ _ _ => False
  | n + 1 => fun vs H Q _ => ∃ (x y : V), vs = [x, y] ∧ Alike n H x y ∧ ∀ H', Same H H' → Q (.bl true) H'
/-- a script is handed in, True comes out -/
def spLaw (K : PySem.W.Frag) : Sp := fun vs H Q _ => ∃ (a : Addr) (ns : List Int), vs = [.ref a] ∧ SqL K H a (ns.map V.int) ∧ ns.length ≤ 63 ∧ ∀ H', Q (.bl true) H'
end My
namespace My
open PySem L2 SX
/-! ### reading a list's text -/
def White (c : Nat) : Prop := c = 32 ∨ c = 10
instance (c : Nat) : Decidable (White c) := inferInstanceAs (Decidable (_ ∨ _))
def whiteL : List Nat := [32, 10]
theorem lit_white : (Str.ofString " \n") = S whiteL := by decide +kernel
theorem mem_white (c : Nat) : c ∈ whiteL ↔ White c := by
  unfold whiteL White
  simp
def mean (c : Nat) : Nat := if c = 110 then 10 else c
def skipW : List Nat → Nat
  | [] => 0
  | c :: r => if White c then skipW r + 1 else 0
theorem skipW_le : ∀ l, skipW l ≤ l.length
  | [] => Nat.le_refl _
  | c :: r => by
    unfold skipW
    split
    · have := skipW_le r
      simp
      omega
    · simp
def rdBare : List Nat → Option (List Nat × Nat)
  | [] => some ([], 0)
  | c :: r => if White c then some ([], 0) else if c = 92 then (match r with | [] => none | d :: r' => (rdBare r').map fun p => (mean d :: p.1, p.2 + 2)) else (rdBare r).map fun p => (c :: p.1, p.2 + 1)
/-- the end of a word: white or nothing -/
def EndW : List Nat → Prop
  | [] => True
  | c :: _ => White c
/-- the word at the head of l: w, of n signs -/
inductive RdWord : List Nat → List Nat → Nat → Prop
  | braced {r : List Nat} {e : Nat} (h : pend 0 0 (123 :: r) = some e) (he : EndW ((123 :: r).drop (e + 1))) : RdWord (123 :: r) (((123 :: r).drop 1).take (e - 1)) (e + 1)
  | bare {c : Nat} {r w : List Nat} {n : Nat} (h1 : c ≠ 123) (h2 : ¬ White c) (h : rdBare (c :: r) = some (w, n)) : RdWord (c :: r) w n
/-- l is a text of ws -/
inductive Reads : List Nat → List (List Nat) → Prop
  | nil {l : List Nat} (h : l.drop (skipW l) = []) : Reads l []
  | cons {l w : List Nat} {n : Nat} {ws : List (List Nat)} (h : RdWord (l.drop (skipW l)) w n) (hn : 0 < n) (hr : Reads ((l.drop (skipW l)).drop n) ws) : Reads l (w :: ws)
theorem rdBare_le : ∀ (l w : List Nat) (n : Nat), rdBare l = some (w, n) → n ≤ l.length ∧ w.length ≤ n
  | [], w, n, h => by
    unfold rdBare at h
    cases h
    exact ⟨Nat.le_refl _, Nat.le_refl _⟩
  | c :: r, w, n, h => by
    unfold rdBare at h
    by_cases h1 : White c
    · rw [if_pos h1] at h
      cases h
      exact ⟨Nat.zero_le _, Nat.le_refl _⟩
    · rw [if_neg h1] at h
      by_cases h2 : c = 92
      · rw [if_pos h2] at h
        match r, h with
        | [], h => cases h
        | d :: r', h =>
          simp only [Option.map_eq_some_iff] at h
          obtain ⟨⟨w', n'⟩, h3, h4⟩ := h
          cases h4
          have := rdBare_le r' w' n' h3
          simp
          omega
      · rw [if_neg h2] at h
        simp only [Option.map_eq_some_iff] at h
        obtain ⟨⟨w', n'⟩, h3, h4⟩ := h
        cases h4
        have := rdBare_le r w' n' h3
        simp
        omega
theorem pend_more : ∀ (l t : List Nat) (m : Int) (k e : Nat), pend m k l = some e → pend m k (l ++ t) = some e
  | [], t, m, k, e, h => by cases h
  | c :: r, t, m, k, e, h => by
    show (if c = 123 then pend (m + 1) (k + 1) (r ++ t) else if c = 125 then (if m - 1 = 0 then some k else pend (m - 1) (k + 1) (r ++ t)) else pend m (k + 1) (r ++ t)) = some e
    have h' : (if c = 123 then pend (m + 1) (k + 1) r else if c = 125 then (if m - 1 = 0 then some k else pend (m - 1) (k + 1) r) else pend m (k + 1) r) = some e := h
    by_cases h1 : c = 123
    · rw [if_pos h1] at h' ⊢
      exact pend_more r t _ _ e h'
    · rw [if_neg h1] at h' ⊢
      by_cases h2 : c = 125
      · rw [if_pos h2] at h' ⊢
        by_cases h3 : m - 1 = 0
        · rw [if_pos h3] at h' ⊢
          exact h'
        · rw [if_neg h3] at h' ⊢
          exact pend_more r t _ _ e h'
      · rw [if_neg h2] at h' ⊢
        exact pend_more r t _ _ e h'
theorem pend_lt : ∀ (l : List Nat) (m : Int) (k e : Nat), pend m k l = some e → k ≤ e ∧ e < k + l.length
  | [], m, k, e, h => by cases h
  | c :: r, m, k, e, h => by
    have h' : (if c = 123 then pend (m + 1) (k + 1) r else if c = 125 then (if m - 1 = 0 then some k else pend (m - 1) (k + 1) r) else pend m (k + 1) r) = some e := h
    by_cases h1 : c = 123
    · rw [if_pos h1] at h'
      have := pend_lt r _ _ e h'
      simp
      omega
    · rw [if_neg h1] at h'
      by_cases h2 : c = 125
      · rw [if_pos h2] at h'
        by_cases h3 : m - 1 = 0
        · rw [if_pos h3] at h'
          cases h'
          simp
        · rw [if_neg h3] at h'
          have := pend_lt r _ _ e h'
          simp
          omega
      · rw [if_neg h2] at h'
        have := pend_lt r _ _ e h'
        simp
        omega
/-- the place counted from elsewhere -/
theorem pend_shift : ∀ (l : List Nat) (m : Int) (k j : Nat), pend m (k + j) l = (pend m k l).map (· + j)
  | [], m, k, j => rfl
  | c :: r, m, k, j => by
    show (if c = 123 then pend (m + 1) (k + j + 1) r else if c = 125 then (if m - 1 = 0 then some (k + j) else pend (m - 1) (k + j + 1) r) else pend m (k + j + 1) r) = (if c = 123 then pend (m + 1) (k + 1) r else if c = 125 then (if m - 1 = 0 then some k else pend (m - 1) (k + 1) r) else pend m (k + 1) r).map (· + j)
    have e : k + j + 1 = (k + 1) + j := by omega
    rw [e]
    split
    · exact pend_shift r _ _ _
    · split
      · split
        · rfl
        · exact pend_shift r _ _ _
      · exact pend_shift r _ _ _
theorem mean_of {c : Nat} (h : c ∈ specL) : mean c = c := by
  unfold mean
  rw [if_neg]
  intro e
  subst e
  revert h
  decide
theorem rdBare_tsig {c : Nat} {t w : List Nat} {n : Nat} (h : rdBare t = some (w, n)) : rdBare (tsig c ++ t) = some (c :: w, (tsig c).length + n) := by
  unfold tsig
  by_cases h1 : c = 10
  · rw [if_pos h1]
    show rdBare (92 :: 110 :: t) = _
    unfold rdBare
    rw [if_neg (by decide), if_pos rfl]
    show (rdBare t).map _ = _
    rw [h]
    subst h1
    show some (mean 110 :: w, n + 2) = some (10 :: w, 2 + n)
    rw [Nat.add_comm]
    rfl
  · rw [if_neg h1]
    by_cases h2 : c ∈ specL
    · rw [if_pos h2]
      show rdBare (92 :: c :: t) = _
      unfold rdBare
      rw [if_neg (by decide), if_pos rfl]
      show (rdBare t).map _ = _
      rw [h]
      show some (mean c :: w, n + 2) = some (c :: w, 2 + n)
      rw [mean_of h2, Nat.add_comm]
    · rw [if_neg h2]
      show rdBare (c :: t) = _
      have w1 : ¬ White c := by
        rintro (e | e)
        · exact h2 (by rw [e]; decide)
        · exact h1 e
      have w2 : ¬ c = 92 := fun e => h2 (by rw [e]; decide)
      unfold rdBare
      rw [if_neg w1, if_neg w2, h]
      show some (c :: w, n + 1) = some (c :: w, 1 + n)
      rw [Nat.add_comm]
theorem rdBare_end {t : List Nat} (h : EndW t) : rdBare t = some ([], 0) := by
  cases t with
  | nil => rfl
  | cons c r =>
    unfold rdBare
    rw [if_pos (show White c from h)]
theorem rdBare_turn {t : List Nat} (h : EndW t) : ∀ w : List Nat, rdBare (turn w ++ t) = some (w, (turn w).length)
  | [] => rdBare_end h
  | c :: r => by
    have e : turn (c :: r) = tsig c ++ turn r := by
      unfold turn
      rw [List.flatMap_cons]
    rw [e, List.append_assoc, rdBare_tsig (rdBare_turn h r), List.length_append]
/-- the head of a turned text -/
theorem tsig_head (c : Nat) : ∃ (d : Nat) (r : List Nat), tsig c = d :: r ∧ d ≠ 123 ∧ ¬ White d := by
  unfold tsig
  by_cases h1 : c = 10
  · rw [if_pos h1]; exact ⟨92, [110], rfl, by decide, by decide⟩
  · rw [if_neg h1]
    by_cases h2 : c ∈ specL
    · rw [if_pos h2]; exact ⟨92, [c], rfl, by decide, by decide⟩
    · rw [if_neg h2]
      refine ⟨c, [], rfl, fun e => h2 (by rw [e]; decide), ?_⟩
      rintro (e | e)
      · exact h2 (by rw [e]; decide)
      · exact h1 e
theorem skipW_no {c : Nat} {r : List Nat} (h : ¬ White c) : skipW (c :: r) = 0 := by
  unfold skipW
  rw [if_neg h]
/-- a written word is read -/
theorem rd_wtext (w : List Nat) {t : List Nat} (h : EndW t) : RdWord (wtext w ++ t) w (wtext w).length ∧ skipW (wtext w ++ t) = 0 ∧ 0 < (wtext w).length := by
  unfold wtext
  by_cases h0 : w = []
  · subst h0
    rw [if_pos rfl]
    refine ⟨?_, skipW_no (by decide), by decide⟩
    have := RdWord.braced (r := 125 :: t) (e := 1) (by rfl) (by exact h)
    exact this
  · rw [if_neg h0]
    by_cases h1 : w.length + 2 ≤ (turn w).length ∧ Pairs w = true
    · rw [if_pos h1]
      refine ⟨?_, skipW_no (by decide), by simp⟩
      have hp := pend_more _ t _ _ _ ((pend_pairs w).mpr h1.2)
      rw [List.cons_append] at hp
      have hd : (123 :: (w ++ [125]) ++ t).drop (w.length + 1 + 1) = t := by
        have e : w.length + 1 + 1 = (123 :: (w ++ [125])).length := by simp
        rw [e, List.drop_left]
      have := RdWord.braced (r := (w ++ [125]) ++ t) (e := w.length + 1) hp (by rw [← List.cons_append, hd]; exact h)
      have e2 : ((123 :: ((w ++ [125]) ++ t)).drop 1).take (w.length + 1 - 1) = w := by
        show ((w ++ [125]) ++ t).take w.length = w
        rw [List.append_assoc, List.take_left]
      rw [e2] at this
      have e3 : (123 :: (w ++ [125])).length = w.length + 1 + 1 := by simp
      rw [e3]
      exact this
    · rw [if_neg h1]
      obtain ⟨c, r, rfl⟩ : ∃ c r, w = c :: r := by
        cases w with
        | nil => exact absurd rfl h0
        | cons c r => exact ⟨c, r, rfl⟩
      have e : turn (c :: r) = tsig c ++ turn r := by
        unfold turn
        rw [List.flatMap_cons]
      obtain ⟨d, r', e1, n1, n2⟩ := tsig_head c
      have hr := rdBare_turn h (c :: r)
      rw [e, e1] at hr ⊢
      exact ⟨.bare n1 n2 hr, skipW_no n2, by simp⟩
/-- a list's text -/
def ltext (ws : List (List Nat)) : List Nat := TL.joinL [32] (ws.map wtext)
theorem reads_more {l : List Nat} {ws : List (List Nat)} (h : Reads l ws) {c : Nat} (hc : White c) : Reads (c :: l) ws := by
  have e0 : skipW (c :: l) = skipW l + 1 := by rw [skipW, if_pos hc]
  have e : (c :: l).drop (skipW (c :: l)) = l.drop (skipW l) := by
    rw [e0, List.drop_succ_cons]
  cases h with
  | nil h => exact .nil (by rw [e]; exact h)
  | cons h hn hr => exact .cons (by rw [e]; exact h) hn (by rw [e]; exact hr)
theorem reads_word {w : List Nat} {t : List Nat} {ws : List (List Nat)} (h : EndW t) (hr : Reads t ws) : Reads (wtext w ++ t) (w :: ws) := by
  obtain ⟨h1, h2, h3⟩ := rd_wtext w h
  refine .cons (by rw [h2]; exact h1) h3 ?_
  rw [h2, List.drop_zero, List.drop_left]
  exact hr
theorem reads_ltext : ∀ (ws : List (List Nat)) {t : List Nat} {vs : List (List Nat)}, EndW t → Reads t vs → Reads (ltext ws ++ t) (ws ++ vs)
  | [], t, vs, _, h => h
  | [w], t, vs, he, h => reads_word he h
  | w :: v :: r, t, vs, he, h => by
    have ih := reads_ltext (v :: r) he h
    have e : ltext (w :: v :: r) ++ t = wtext w ++ (32 :: (ltext (v :: r) ++ t)) := by
      show (wtext w ++ ([32] ++ TL.joinL [32] ((v :: r).map wtext))) ++ t = _
      rw [List.append_assoc]
      rfl
    rw [e]
    exact reads_word (show White 32 from .inl rfl) (reads_more ih (.inl rfl))
theorem reads_nil : Reads [] [] := .nil rfl
theorem reads_own (ws : List (List Nat)) : Reads (ltext ws) ws := by
  have := reads_ltext ws (t := []) (vs := []) trivial reads_nil
  rw [List.append_nil, List.append_nil] at this
  exact this
theorem wtext_len (w : List Nat) : (wtext w).length ≤ 2 * w.length + 2 := by
  unfold wtext
  split
  · simp
  · split
    · simp; omega
    · have := turn_len w; omega
theorem ltext_len : ∀ (ws : List (List Nat)) (k : Nat), (∀ w ∈ ws, w.length ≤ k) → (ltext ws).length ≤ ws.length * (2 * k + 3)
  | [], k, _ => by simp [ltext, TL.joinL]
  | [w], k, h => by
    show (wtext w).length ≤ _
    have := wtext_len w
    have := h w (List.mem_singleton.mpr rfl)
    simp
    omega
  | w :: v :: r, k, h => by
    have ih := ltext_len (v :: r) k fun x hx => h x (List.mem_cons_of_mem _ hx)
    show (wtext w ++ ([32] ++ ltext (v :: r))).length ≤ _
    have h1 := wtext_len w
    have h2 := h w List.mem_cons_self
    rw [List.length_append, List.length_append]
    have : (w :: v :: r).length * (2 * k + 3) = (v :: r).length * (2 * k + 3) + (2 * k + 3) := by
      rw [List.length_cons, Nat.succ_mul]
    rw [this]
    simp only [List.length_cons, List.length_nil] at ih ⊢
    omega
end My
namespace My
open PySem L2 SX
theorem joinL_nil : ∀ ps : List (List Nat), TL.joinL [] ps = ps.flatten
  | [] => rfl
  | [p] => by simp [TL.joinL]
  | p :: q :: r => by
    show p ++ ([] ++ TL.joinL [] (q :: r)) = _
    rw [joinL_nil (q :: r)]
    simp
theorem join0 {z : Str} (hz : z = S []) (ps : List (List Nat)) : Txt.join z (ps.map S) = S ps.flatten := by
  rw [hz, join_S, joinL_nil]
theorem iteN {p A B : Prop} [Decidable p] (h1 : ¬ p → A) (h2 : p → B) : if (!decide p) = true then A else B := by
  by_cases e : p
  · rw [decide_eq_true e]
    exact iteF (h2 e)
  · rw [decide_eq_false e]
    exact iteT (h1 e)
theorem iteNS {a b : List Nat} {z : Str} {A B : Prop} (hz : z = S b) (h1 : a ≠ b → A) (h2 : a = b → B) : if (!decide (V.str (S a) = V.str z)) = true then A else B := by
  subst hz
  rw [dec_S]
  exact iteN h1 h2
/-- a list of texts -/
def txs (ws : List (List Nat)) : List V := ws.map fun w => V.str (S w)
theorem txs_len (ws : List (List Nat)) : (txs ws).length = ws.length := List.length_map _
theorem txs_snoc (ws : List (List Nat)) (w : List Nat) : txs (ws ++ [w]) = txs ws ++ [V.str (S w)] := by
  unfold txs
  rw [List.map_append]
  rfl
theorem txs_map (ws : List (List Nat)) : txs ws = (ws.map S).map V.str := by
  unfold txs
  rw [List.map_map]
  rfl
theorem alike_txs {H : Hp} {a b : Addr} {ws : List (List Nat)} {n : Nat} (h1 : H a = some (.lst (txs ws))) (h2 : H b = some (.lst (txs ws))) (hz : ws.length ≤ 10000) : Alike (n + 1) H (.ref a) (.ref b) := by
  refine .inr ⟨a, b, _, _, rfl, rfl, .inl ⟨h1, h2⟩, rfl, by rw [txs_len]; exact hz, fun i u v hu hv => ?_⟩
  rw [hu] at hv
  cases hv
  unfold txs at hu
  rw [List.getElem?_map] at hu
  cases e : ws[i]? with
  | none => rw [e] at hu; cases hu
  | some l => rw [e] at hu; cases hu; exact Alike.flat rfl
theorem rdWord_le {l w : List Nat} {n : Nat} (h : RdWord l w n) : n ≤ l.length := by
  cases h with
  | braced h he =>
    have := (pend_lt _ _ _ _ h).2
    omega
  | bare h1 h2 h => exact (rdBare_le _ _ _ h).1
theorem atS' {l : List Nat} {i : Nat} (h : i < l.length) : atI (S l).cps.toList (i : Int) = some l[i] := atI_nat (List.getElem?_eq_getElem h)
theorem pend_i {l : List Nat} {i e : Nat} (h : pend 0 0 (l.drop i) = some e) : pend 0 i (l.drop i) = some (i + e) := by
  have := pend_shift (l.drop i) 0 0 i
  rw [Nat.zero_add, h] at this
  rw [this, Nat.add_comm]
  rfl
def spRefuse : Sp := fun vs H Q _ => ∃ (l : List Nat), vs = [.str (S l)] ∧ l.length ≤ 1000 ∧ Q .non H
def spBehind : Sp := fun vs H Q _ => ∃ (l : List Nat) (i : Nat), vs = [.str (S l), .int (i : Int)] ∧ l.length ≤ 1000 ∧ i ≤ l.length ∧ Q (.int ((i + skipW (l.drop i) : Nat) : Int)) H
def spMean : Sp := fun vs H Q _ => ∃ (c : Nat), vs = [.str (S [c])] ∧ Q (.str (S [mean c])) H
def spBare : Sp := fun vs H Q _ => ∃ (l : List Nat) (i : Nat) (w : List Nat) (n : Nat), vs = [.str (S l), .int (i : Int)] ∧ l.length ≤ 1000 ∧ i ≤ l.length ∧ rdBare (l.drop i) = some (w, n) ∧
  ∀ (p : Addr) H', Same H H' → H p = none → H' p = some (.tup [.str (S w), .int ((i + n : Nat) : Int)]) → Q (.ref p) H'
def spWord : Sp := fun vs H Q _ => ∃ (l : List Nat) (i : Nat) (w : List Nat) (n : Nat), vs = [.str (S l), .int (i : Int)] ∧ l.length ≤ 1000 ∧ i < l.length ∧ RdWord (l.drop i) w n ∧
  ∀ (p : Addr) H', Same H H' → H p = none → H' p = some (.tup [.str (S w), .int ((i + n : Nat) : Int)]) → Q (.ref p) H'
def spBraced : Sp := fun vs H Q _ => ∃ (l : List Nat) (i e : Nat), vs = [.str (S l), .int (i : Int)] ∧ l.length ≤ 1000 ∧ i < l.length ∧ pend 0 0 (l.drop i) = some e ∧ 1 ≤ e ∧ EndW ((l.drop i).drop (e + 1)) ∧
  ∀ (p : Addr) H', Same H H' → H p = none → H' p = some (.tup [.str (S (((l.drop i).drop 1).take (e - 1))), .int ((i + (e + 1) : Nat) : Int)]) → Q (.ref p) H'
def spRead : Sp := fun vs H Q _ => ∃ (l : List Nat) (ws : List (List Nat)), vs = [.str (S l)] ∧ l.length ≤ 1000 ∧ Reads l ws ∧ ∀ (p : Addr) H', Same H H' → H p = none → H' p = some (.lst (txs ws)) → Q (.ref p) H'
def spLtext (K : PySem.W.Frag) : Sp := fun vs H Q _ => ∃ (a : Addr) (ws : List (List Nat)), vs = [.ref a] ∧ SqL K H a (txs ws) ∧ ws.length ≤ 100 ∧ (∀ w ∈ ws, w.length ≤ 1000) ∧ ∀ H', Same H H' → Q (.str (S (ltext ws))) H'
end My
namespace My
open PySem L2 SX
def dataT (ws : List (List Nat)) : PyData := .list (ws.map fun w => PyData.str (S w))
theorem dp_all {K : PySem.W.Frag} {H : Hp} : ∀ ws : List (List Nat), DpAll K H (txs ws) (ws.map fun w => PyData.str (S w))
  | [] => .nil
  | w :: r => .cons (.str _) (dp_all r)
theorem dp_txs {K : PySem.W.Frag} {H : Hp} {a : Addr} {ws : List (List Nat)} (h : SqL K H a (txs ws)) : Dp K H (.ref a) (dataT ws) := .lst h (dp_all ws)
theorem ok_abc {w : List Nat} (h : ∀ c ∈ w, c ∈ abc) : PyData.canLay0 (.str (S w)) = true := by
  show PyData.strOk (S w) = true
  unfold PyData.strOk
  rw [← Array.all_toList]
  refine List.all_eq_true.mpr fun c hc => decide_eq_true ?_
  have : ∀ c ∈ abc, c < 0x110000 := by decide
  exact this c (h c hc)
theorem lay_T : ∀ ws : List (List Nat), (∀ w ∈ ws, ∀ c ∈ w, c ∈ abc) → PyData.canLayAll0 (ws.map fun w => PyData.str (S w)) = true
  | [], _ => rfl
  | w :: r, h => by
    show (PyData.canLay0 (.str (S w)) && PyData.canLayAll0 (r.map fun w => PyData.str (S w))) = true
    rw [lay_T r fun x hx => h x (List.mem_cons_of_mem _ hx), ok_abc (h w List.mem_cons_self)]
    rfl
theorem depth_T : ∀ ws : List (List Nat), PyData.depthAll (ws.map fun w => PyData.str (S w)) ≤ 1
  | [] => by decide
  | w :: r => by
    have ih := depth_T r
    show max 0 (PyData.depthAll (r.map fun w => PyData.str (S w))) ≤ 1
    omega
theorem layT {ws : List (List Nat)} (h : ∀ w ∈ ws, ∀ c ∈ w, c ∈ abc) : (dataT ws).canLay0 = true := lay_T ws h
theorem shaped_T {ws : List (List Nat)} (h : ∀ w ∈ ws, ∀ c ∈ w, c ∈ abc) : SeqAt.shaped (dataT ws) = true := by
  unfold SeqAt.shaped
  rw [layT h]
  have h := depth_T ws
  have h2 : (dataT ws).depth ≤ 64 := by
    show PyData.depthAll (ws.map fun w => PyData.str (S w)) + 1 ≤ 64
    omega
  rw [decide_eq_true h2]
  rfl
theorem eqv_T : ∀ ws vs : List (List Nat), PyData.eqv (dataT ws) (dataT vs) = decide (ws = vs) := by
  have all : ∀ ws vs : List (List Nat), PyData.eqvAll (ws.map fun w => PyData.str (S w)) (vs.map fun w => PyData.str (S w)) = decide (ws = vs) := by
    intro ws
    induction ws with
    | nil =>
      intro vs
      cases vs with
      | nil => rfl
      | cons v r => rfl
    | cons w r ih =>
      intro vs
      cases vs with
      | nil => rfl
      | cons v q =>
        show (PyData.eqv (.str (S w)) (.str (S v)) && PyData.eqvAll (r.map fun w => PyData.str (S w)) (q.map fun w => PyData.str (S w))) = _
        rw [ih]
        have e : PyData.eqv (.str (S w)) (.str (S v)) = decide (w = v) := by
          show (S w == S v) = _
          exact S_beq_eq
        rw [e]
        by_cases h1 : w = v
        · subst h1
          by_cases h2 : r = q
          · subst h2; simp
          · simp [h2]
        · simp [h1]
  exact fun ws vs => all ws vs
end My
namespace My
open PySem L2 SX
/-! ### defs that may raise -/
section
variable {P : Program} {w : World} {K : PySem.W.Frag} {mg : Str → Option Value} {base : Heap}
/-- a def of the module that may raise, called by its name -/
structure CalX (P : Program) (w : World) (K : PySem.W.Frag) (mg : Str → Option Value) (base : Heap) (k : Nat) (x : Str) (sp : Sp) : Prop where
  ex : ∃ (f : Addr) (fd : FuncData) (ps : List Str), FnOk P w K mg base (L2.CX P w) k f fd ps sp ∧ mg x = some (.ref f) ∧ PySem.W.keepIn K (.ref f) = true ∧ Binds K fd ps []
/-- a method that may raise, of the class at C -/
structure MetX (P : Program) (w : World) (K : PySem.W.Frag) (mg : Str → Option Value) (base : Heap) (k : Nat) (C : Addr) (m : Str) (sp : Sp) : Prop where
  ex : ∃ (f : Addr) (fd : FuncData) (ps : List Str), Cls K C ∧ Meth K C m f ∧ FnOk P w K mg base (L2.CX P w) k f fd ps sp ∧ Binds K fd ps []
theorem fnX {x qual : Str} {st : Stmt} {f : Addr} {fd : FuncData} {N ps : List Str} {k : Nat} {sp : Sp} (F : C8.Fun K x qual st f fd) (S : FnScope N ps (C8.fnScope st)) (len : ∀ vs H Q E, sp vs H Q E → vs.length = ps.length)
    (hbody : ∀ (cdv : Value) (A : Around) (outer : List Env) (s : Shared) (H : Hp) (vs : List V) (Q : VK) (E : XK), Room k (A.deeper (PyProof.Rows.envOfC qual (C8.fnScope st) s.heap.objs.size f cdv)) → sp vs H Q E →
      ∃ t, PSs (cxOf (L2.CX P w) P w K mg base N qual (C8.fnScope st) f cdv A outer s H E) (C8.fnBody st) t ∧ t { nx := fun _ H' => Q .non H', rt := Q } (start N vs) H) : FnOk P w K mg base (L2.CX P w) (k + 1) f fd ps sp := by
  obtain ⟨oc, od, dV, kV, doc, pm, an, cdv, ct, osl, rfl, lk, hcd⟩ := F.ex
  exact fn_of lk hcd S len fun A outer s H vs Q E hr hsp => hbody cdv A outer s H vs Q E hr hsp
theorem calX {x : Str} {st : Stmt} {f : Addr} {fd : FuncData} {N ps : List Str} {k : Nat} {sp : Sp} (F : C8.Def K mg x st f fd) (b : Binds K fd ps []) (S : FnScope N ps (C8.fnScope st)) (len : ∀ vs H Q E, sp vs H Q E → vs.length = ps.length)
    (hbody : ∀ (cdv : Value) (A : Around) (outer : List Env) (s : Shared) (H : Hp) (vs : List V) (Q : VK) (E : XK), Room k (A.deeper (PyProof.Rows.envOfC x (C8.fnScope st) s.heap.objs.size f cdv)) → sp vs H Q E →
      ∃ t, PSs (cxOf (L2.CX P w) P w K mg base N x (C8.fnScope st) f cdv A outer s H E) (C8.fnBody st) t ∧ t { nx := fun _ H' => Q .non H', rt := Q } (start N vs) H) : CalX P w K mg base (k + 1) x sp :=
  ⟨f, fd, ps, fnX F.fn S len hbody, F.mgf, F.kp, b⟩
theorem metX {m qual : Str} {C : Addr} {st : Stmt} {f : Addr} {fd : FuncData} {N ps : List Str} {k : Nat} {sp : Sp} (c : Cls K C) (me : Meth K C m f) (F : C8.Fun K m qual st f fd) (b : Binds K fd ps []) (S : FnScope N ps (C8.fnScope st)) (len : ∀ vs H Q E, sp vs H Q E → vs.length = ps.length)
    (hbody : ∀ (cdv : Value) (A : Around) (outer : List Env) (s : Shared) (H : Hp) (vs : List V) (Q : VK) (E : XK), Room k (A.deeper (PyProof.Rows.envOfC qual (C8.fnScope st) s.heap.objs.size f cdv)) → sp vs H Q E →
      ∃ t, PSs (cxOf (L2.CX P w) P w K mg base N qual (C8.fnScope st) f cdv A outer s H E) (C8.fnBody st) t ∧ t { nx := fun _ H' => Q .non H', rt := Q } (start N vs) H) : MetX P w K mg base (k + 1) C m sp :=
  ⟨f, fd, ps, c, me, fnX F S len hbody, b⟩
end
section
variable {X : Cx} {k j : Nat} {C : Addr} {x m : Str} {sp : Sp} {p pos apos : Pos} {e o : Expr} {es : List Expr} {ta : TE} {t : TA} {E : XK}
/-- a call that may raise, within a def that lets it out or around which nothing is let out -/
theorem pe_x (c : CalX X.prog X.w X.K X.mg X.base k x sp) (hr : Room j X.A) (hk : k ≤ j) (hg : Gl X x) (hx : Passes (L2.CX X.prog X.w) X E) (ha : PA X (e :: es) t)
    (hdb : (x == ("__debug__" : Str)) = false := by decide) (he : starEach (e :: es) X.env = (false, eval e X.env) :: starEach es X.env := by rfl) (hpl : (backTo pos (starEach es X.env)).any (·.1) = false := by rfl) :
    PE X (.Call (.Name x p) (e :: es) [] pos) (tCall sp [] E t) := by
  obtain ⟨f, fd, ps, F, hm, kp, b⟩ := c.ex
  exact pe_call F (hr.mono hk) hg hm kp b .nil hx ha hdb he hpl
theorem pe_mx0 {pl : Sem Bool} (c : MetX X.prog X.w X.K X.mg X.base k C m sp) (hr : Room j X.A) (hk : k ≤ j) (hx : Passes (L2.CX X.prog X.w) X E) (he : PE X o ta)
    (ht : eval (.Call (.Attribute o m apos) [] [] pos) X.env = (do
      let ov ← eval o X.env
      standAt apos.atName
      let (f, first) ← holding [ov] (getMethod ov m pl)
      callWith pos f first (backTo pos (starEach [] X.env)) (backToKw pos (keywordEach [] X.env))) := by rfl) :
    PE X (.Call (.Attribute o m apos) [] [] pos) (tMeth C m sp [] E ta tNil) := by
  obtain ⟨f, fd, ps, hc, hm, F, b⟩ := c.ex
  exact pe_meth0 (pl := pl) he hc hm F (hr.mono hk) b .nil hx ht
end
/-! ### errors that tell a place -/
def spPlace (C : Addr) : Sp := fun vs H Q _ => ∃ (a : Addr) (y : V), vs = [.ref a, y] ∧ H a = some (exo a C none) ∧ ∀ dx, H dx = none → dx ≠ a → Q .non (upd (upd H dx (exd dx [("place", y)])) a (exo a C (some dx)))
/-- what the top says of such a class -/
structure PlaceC (P : Program) (w : World) (K : PySem.W.Frag) (mg : Str → Option Value) (base : Heap) (x : Str) (C : Addr) : Prop where
  ox : OexC K C
  mgx : mg x = some (.ref C)
  ini : ∃ (f : Addr) (fd : FuncData) (ps : List Str), PySem.W.findIn K (.ref C) "__init__" = some (some (.ref f)) ∧ PySem.W.typeIn K (.ref f) = some (.type "function") ∧ FnOk P w K mg base C8.CX0 1 f fd ps (spPlace C) ∧ Binds K fd ps []
/-- what is let out: an error of the class at C with this place -/
def Told (C : Addr) (n : Int) (H : Hp) (E : XK) : Prop := ∀ (d : Addr) H', Same H H' → H d = none → H' d = some (.xd [("place", .int n)]) → E (.ref C) (some d) H'
/-- the reading of «raise C(e)», by what is wished of the error -/
theorem place_ok {C : Addr} {H1 : Hp} {y : V} {Q : XK} (q : ∀ (d : Addr) H', Same H1 H' → H1 d = none → H' d = some (.xd [("place", y)]) → Q (.ref C) (some d) H') :
    ([y] : List V).length ≤ 1000 ∧ ∀ a, H1 a = none → spPlace C (.ref a :: ([y] ++ [])) (upd H1 a (exo a C none))
      (fun v H2 => v = .non ∧ ∃ (d : Addr) (fs : List (Str × V)), H2 a = some (exo a C (some d)) ∧ H2 d = some (exd d fs) ∧ H1 d = none ∧ Q (.ref C) (some d) (upd (del H2 a) d (.xd fs))) (fun _ _ _ => False) := by
  refine ⟨(by show 1 ≤ 1000; decide), fun a ha => ⟨a, y, rfl, upd_same, fun dx hdx nda => ⟨rfl, dx, _, upd_same, by rw [upd_ne nda, upd_same], ?_, ?_⟩⟩⟩
  · rw [upd_ne nda] at hdx
    exact hdx
  · rw [upd_ne nda] at hdx
    refine q dx _ (fun b o hb => ?_) hdx upd_same
    have n1 : b ≠ dx := ne_of_none hb hdx
    have n2 : b ≠ a := ne_of_none hb ha
    rw [upd_ne n1, del_ne n2, upd_ne n2, upd_ne n1, upd_ne n2]
    exact hb
theorem ps_place {X : Cx} {W : WX} {x : Str} {C : Addr} {e : Expr} {te : TE} {p pos pos2 : Pos} {j : Nat} (hc : X.calm = true) (T : PlaceC X.prog X.w X.K X.mg X.base x C) (hr : Room j X.A) (hk : 2 ≤ j) (tk : Takes X W) (hg : Gl X x) (he : PE X e te)
    (hdb : (x == ("__debug__" : Str)) = false := by decide) (h1 : starEach [e] X.env = (false, eval e X.env) :: starEach [] X.env := by rfl) (h2 : (backTo pos (starEach [] X.env)).any (·.1) = false := by rfl) :
    PS X (.Raise (some (.Call (.Name x p) [e] [] pos)) none pos2) (fun _ σ H => tMkO C (spPlace C) [] (tCons te tNil) σ H fun cls d H' => W cls d σ H') := by
  obtain ⟨f, fd, ps, iC, tI, F1, hb⟩ := T.ini
  exact ps_raise (pos := pos2) hc tk (pmk_oex (p := p) (pos := pos) T.ox iC tI F1 (hr.mono hk) hb .nil C8.pass0 hg T.mgx (pa_cons (hs := h1) he pa_nil) hdb h1 h2)
end My
namespace My
open PySem L2 SX C8
/-! ### a sign many times over -/
theorem foldl_cps (x : Array Nat) : ∀ (n : Nat) (a : Array Nat), (List.replicate n x).foldl (· ++ ·) a = a ++ ((List.replicate n x.toList).flatten).toArray
  | 0, a => by simp
  | n + 1, a => by
    rw [List.replicate_succ, List.foldl_cons, foldl_cps x n, List.replicate_succ, List.flatten_cons]
    apply Array.toList_inj.mp
    simp
theorem rep_flat (c n : Nat) : (List.replicate n [c]).flatten = List.replicate n c := by
  induction n with
  | zero => rfl
  | succ n ih => rw [List.replicate_succ, List.flatten_cons, ih]; rfl
theorem mul_S (c n : Nat) : Txt.mul (S [c]) (n : Int) = S (List.replicate n c) := by
  unfold Txt.mul
  by_cases h0 : ((n : Int) < 1)
  · have : n = 0 := by omega
    subst this
    rw [if_pos h0]
    rfl
  · rw [if_neg h0]
    by_cases h1 : n = 1
    · subst h1
      rfl
    · have e : (((n : Int) == 1) || (S [c]).length == 0) = false := by
        have e1 : ((n : Int) == 1) = false := by
          rw [beq_eq_false_iff_ne]; omega
        rw [e1]; rfl
      rw [if_neg (by rw [e]; decide), foldl_cps, Int.toNat_natCast]
      show (⟨#[] ++ (List.replicate n [c]).flatten.toArray⟩ : Str) = _
      rw [rep_flat]
      simp
theorem mulOk_S (c n : Nat) (h : n ≤ 100000) : MulOk (S [c]) (n : Int) := by
  refine ⟨?_, fun h1 _ => ?_, fun _ _ => ?_⟩
  · simp only [Bool.or_eq_false_iff, decide_eq_false_iff_not]
    omega
  · show ¬ (((1 : Nat) : Int) > _)
    have : 1 ≤ (2 ^ 63 - 1) / (n : Int) := by
      rw [Int.le_ediv_iff_mul_le (by omega)]
      omega
    omega
  · show Builtin.Str.tooLong (1 * ((n : Int)).toNat) = false
    unfold Builtin.Str.tooLong
    rw [decide_eq_false_iff_not, sizeLine_eq, Int.toNat_natCast]
    omega
section
variable {X : Cx}
theorem op_rep_str : OpR X (binaryOp .Mult) (fun x y H Q => ∃ c n : Nat, x = .str (S [c]) ∧ y = .int (n : Int) ∧ n ≤ 100000 ∧ Q (.str (S (List.replicate n c))) H) := by
  intro pins s σ H x y v u Q I rx ry h
  obtain ⟨c, n, rfl, rfl, hz, q⟩ := h
  obtain ⟨t, rfl⟩ := rx
  obtain ⟨t', rfl⟩ := ry
  refine SB.mul (mulOk_S c n hz) fun t' k => ?_
  rw [mul_S]
  exact ⟨.str (S (List.replicate n c)), H, I.tok _, ⟨_, rfl⟩, q⟩
end
/-! ### a call within a try -/
section
variable {X : Cx} {k j : Nat} {x : Str} {sp : Sp} {p pos : Pos} {e : Expr} {es : List Expr} {t : TA} {W : WX}
theorem pe_xS (c : CalX X.prog X.w X.K X.mg X.base k x sp) (hr : Room j X.A) (hk : k ≤ j) (hg : Gl X x) (tk : Takes X W) (ha : PA X (e :: es) t)
    (hdb : (x == ("__debug__" : Str)) = false := by decide) (he : starEach (e :: es) X.env = (false, eval e X.env) :: starEach es X.env := by rfl) (hpl : (backTo pos (starEach es X.env)).any (·.1) = false := by rfl) :
    PE X (.Call (.Name x p) (e :: es) [] pos) (tCallS sp (WE W) t) := by
  obtain ⟨f, fd, ps, F, hm, kp, b⟩ := c.ex
  exact pe_callS F (hr.mono hk) hg hm kp b (fun σ => passAt tk σ) ha hdb he hpl
end
/-- an error of the class at S is what «except S» names -/
theorem exm_self {K : PySem.W.Frag} {S : Addr} (h1 : PySem.W.subIn K (.ref S) (.type "BaseException") = some true) (h2 : PySem.W.isClsIn K S = true) (h3 : PySem.W.typeIn K (.ref S) = some (.type "type")) (h4 : PySem.W.subIn K (.ref S) (.ref S) = some true) :
    PySem.W.exmOne K (.ref S) (.ref S) = some true := by
  have e1 : (PySem.W.subIn K (.ref S) (.type "BaseException") == some true) = true := by rw [h1] <;> rfl
  have e2 : ((PySem.W.clsIn K S).isSome && PySem.W.typeIn K (.ref S) == some (.type "type")) = true := by
    have h2' : (PySem.W.clsIn K S).isSome = true := h2
    rw [h2', h3] <;> rfl
  show (if (PySem.W.subIn K (.ref S) (.type "BaseException") == some true) = true then (if ((PySem.W.clsIn K S).isSome && PySem.W.typeIn K (.ref S) == some (.type "type")) = true then PySem.W.subIn K (.ref S) (.ref S) else none) else none) = some true
  rw [if_pos e1, if_pos e2]
  exact h4
end My
namespace My
open PySem L2 SX
/-! ### reading is a function -/
theorem rdWord_fn {l w v : List Nat} {n m : Nat} (h : RdWord l w n) (h' : RdWord l v m) : w = v ∧ n = m := by
  cases h with
  | braced h he =>
    cases h' with
    | braced h2 he2 =>
      rw [h] at h2
      cases h2
      exact ⟨rfl, rfl⟩
    | bare n1 _ _ => exact absurd rfl n1
  | bare n1 n2 h =>
    cases h' with
    | braced _ _ => exact absurd rfl n1
    | bare _ _ h2 =>
      rw [h] at h2
      cases h2
      exact ⟨rfl, rfl⟩
theorem reads_fn : ∀ {l : List Nat} {ws vs : List (List Nat)}, Reads l ws → Reads l vs → ws = vs := by
  intro l ws vs h
  induction h generalizing vs with
  | nil h =>
    intro h'
    cases h' with
    | nil _ => rfl
    | cons h2 _ _ =>
      rw [h] at h2
      cases h2
  | cons h hn hr ih =>
    intro h'
    cases h' with
    | nil h2 =>
      rw [h2] at h
      cases h
    | cons h2 hn2 hr2 =>
      obtain ⟨rfl, rfl⟩ := rdWord_fn h h2
      rw [ih hr2]
theorem ltext_inj {ws vs : List (List Nat)} (h : ltext ws = ltext vs) : ws = vs := by
  have h1 := reads_own ws
  rw [h] at h1
  exact reads_fn h1 (reads_own vs)
theorem wtext_ge (w : List Nat) : w.length ≤ (wtext w).length := by
  unfold wtext
  split
  · rename_i h; subst h; simp
  · split
    · simp; omega
    · have : ∀ u : List Nat, u.length ≤ (turn u).length := fun u => by
        induction u with
        | nil => simp
        | cons c r ih =>
          have e : turn (c :: r) = tsig c ++ turn r := by unfold turn; rw [List.flatMap_cons]
          have : 1 ≤ (tsig c).length := by
            obtain ⟨d, r, e, _⟩ := tsig_head c
            rw [e]
            simp
          rw [e, List.length_append, List.length_cons]
          omega
      exact this w
theorem ltext_ge : ∀ (ws : List (List Nat)) (w : List Nat), w ∈ ws → w.length ≤ (ltext ws).length
  | [], w, h => by cases h
  | [u], w, h => by
    rw [List.mem_singleton.mp h]
    exact wtext_ge u
  | u :: v :: r, w, h => by
    have e : (ltext (u :: v :: r)).length = (wtext u).length + (1 + (ltext (v :: r)).length) := by
      show (wtext u ++ ([32] ++ ltext (v :: r))).length = _
      rw [List.length_append, List.length_append]
      rfl
    rw [e]
    rcases List.mem_cons.mp h with h | h
    · rw [h]
      have := wtext_ge u
      omega
    · have := ltext_ge (v :: r) w h
      omega
/-! ### lists within lists -/
inductive Nd where
  | t (w : List Nat)
  | l (xs : List Nd)
/-- the text of a thing of n lists within one another -/
def pk : Nat → Nd → List Nat
  | 0, .t w => w
  | n + 1, .l xs => ltext (xs.map (pk n))
  | _, _ => []
/-- no list is longer than three, no text longer than five -/
def Small : Nat → Nd → Prop
  | 0, .t w => w.length ≤ 5
  | n + 1, .l xs => xs.length ≤ 3 ∧ ∀ x ∈ xs, Small n x
  | _, _ => False
def bnd : Nat → Nat
  | 0 => 5
  | n + 1 => 3 * (2 * bnd n + 3)
theorem pk_len : ∀ (n : Nat) (d : Nd), Small n d → (pk n d).length ≤ bnd n
  | 0, .t w, h => h
  | 0, .l xs, h => h.elim
  | n + 1, .t w, h => h.elim
  | n + 1, .l xs, h => by
    have h1 := ltext_len (xs.map (pk n)) (bnd n) fun w hw => by
      obtain ⟨x, hx, rfl⟩ := List.mem_map.mp hw
      exact pk_len n x (h.2 x hx)
    rw [List.length_map] at h1
    have h2 : xs.length * (2 * bnd n + 3) ≤ 3 * (2 * bnd n + 3) := Nat.mul_le_mul_right _ h.1
    exact Nat.le_trans h1 h2
/-- the thing stands at x, at addresses of which P is true -/
def NdAt : Nat → (Addr → Prop) → Hp → V → Nd → Prop
  | 0, _, _, x, d => ∃ w, d = .t w ∧ x = .str (S w)
  | n + 1, P, H, x, d => ∃ (a : Addr) (vs : List V) (ds : List Nd), d = .l ds ∧ x = .ref a ∧ P a ∧ H a = some (.lst vs) ∧ vs.length = ds.length ∧ ∀ (i : Nat) (u : V) (e : Nd), vs[i]? = some u → ds[i]? = some e → NdAt n P H u e
theorem NdAt.keep : ∀ {n : Nat} {P P' : Addr → Prop} {H H' : Hp} {x : V} {d : Nd}, (∀ a, P a → P' a) → (∀ a o, P a → H a = some o → H' a = some o) → NdAt n P H x d → NdAt n P' H' x d
  | 0, _, _, _, _, _, _, _, _, h => h
  | n + 1, P, P', H, H', x, d, hp, hk, h => by
    obtain ⟨a, vs, ds, h1, h2, h3, h4, h5, h6⟩ := h
    exact ⟨a, vs, ds, h1, h2, hp a h3, hk a _ h3 h4, h5, fun i u e hu he => NdAt.keep hp hk (h6 i u e hu he)⟩
theorem NdAt.alike : ∀ {n : Nat} {P P' : Addr → Prop} {H : Hp} {x y : V} {d : Nd}, Small n d → NdAt n P H x d → NdAt n P' H y d → Alike n H x y
  | 0, P, P', H, x, y, d, _, h, h' => by
    obtain ⟨w, rfl, rfl⟩ := h
    obtain ⟨v, e, rfl⟩ := h'
    cases e
    exact Alike.flat rfl
  | n + 1, P, P', H, x, y, d, hs, h, h' => by
    obtain ⟨a, vs, ds, rfl, rfl, h3, h4, h5, h6⟩ := h
    obtain ⟨a', vs', ds', e, rfl, h3', h4', h5', h6'⟩ := h'
    cases e
    refine .inr ⟨a, a', vs, vs', rfl, rfl, .inl ⟨h4, h4'⟩, by omega, by have := hs.1; omega, fun i u v hu hv => ?_⟩
    have hi : i < ds.length := by
      have := (List.getElem?_eq_some_iff.mp hu).1
      omega
    have he : ds[i]? = some ds[i] := List.getElem?_eq_getElem hi
    exact NdAt.alike (hs.2 _ (List.mem_of_getElem? he)) (h6 i u _ hu he) (h6' i v _ hv he)
def Fresh (H : Hp) : Addr → Prop := fun a => H a = none
def spNested : Nat → Sp
  | 0 => fun _ _ _ _ => False
  | N + 1 => fun vs H Q _ => ∃ (b l : Addr) (n : Nat), vs = [.ref b, .int (n : Int)] ∧ n ≤ N ∧ BagAt H b l ∧ ∀ (x : V) (d : Nd) H', But b H H' → BagAt H' b l → NdAt n (Fresh H) H' x d → Small n d → Q x H'
def spPacked : Nat → Sp
  | 0 => fun _ _ _ _ => False
  | N + 1 => fun vs H Q _ => ∃ (x : V) (n : Nat) (P : Addr → Prop) (d : Nd), vs = [x, .int (n : Int)] ∧ n ≤ N ∧ n ≤ 3 ∧ NdAt n P H x d ∧ Small n d ∧ ∀ H', Same H H' → Q (.str (S (pk n d))) H'
def spUnpacked : Nat → Sp
  | 0 => fun _ _ _ _ => False
  | N + 1 => fun vs H Q _ => ∃ (n : Nat) (d : Nd), vs = [.str (S (pk n d)), .int (n : Int)] ∧ n ≤ N ∧ (pk n d).length ≤ 1000 ∧ Small n d ∧ ∀ (x : V) H', Same H H' → NdAt n (Fresh H) H' x d → Q x H'
end My
namespace My
open PySem L2 SX C8
def top (i : Nat) : Stmt := PySem.Challenge.pw_wordrooms_k05_whole_lists_within_lists.main.body.getD i (.Pass ⟨0, 0, 0, 0⟩)
abbrev s_pair_end : Stmt := top 1
abbrev N_pair_end : List Str := ["text", "start", "many", "at"]
theorem sc_pair_end : FnScope N_pair_end ["text", "start"] (fnScope s_pair_end) := fnScope_by (by decide +kernel)
abbrev s_can_stand_in_braces : Stmt := top 2
abbrev N_can_stand_in_braces : List Str := ["word"]
theorem sc_can_stand_in_braces : FnScope N_can_stand_in_braces ["word"] (fnScope s_can_stand_in_braces) := fnScope_by (by decide +kernel)
abbrev s_refuse_long : Stmt := top 10
abbrev N_refuse_long : List Str := ["text"]
theorem sc_refuse_long : FnScope N_refuse_long ["text"] (fnScope s_refuse_long) := fnScope_by (by decide +kernel)
abbrev s_turned_sign : Stmt := top 14
abbrev N_turned_sign : List Str := ["sign"]
theorem sc_turned_sign : FnScope N_turned_sign ["sign"] (fnScope s_turned_sign) := fnScope_by (by decide +kernel)
abbrev s_turned : Stmt := top 15
abbrev N_turned : List Str := ["text", "sign"]
theorem sc_turned : FnScope N_turned ["text"] (fnScope s_turned) := fnScope_by (by decide +kernel)
abbrev s_meant : Stmt := top 16
abbrev N_meant : List Str := ["sign"]
theorem sc_meant : FnScope N_meant ["sign"] (fnScope s_meant) := fnScope_by (by decide +kernel)
abbrev s_word_text : Stmt := top 18
abbrev N_word_text : List Str := ["word", "in_braces", "by_turns"]
theorem sc_word_text : FnScope N_word_text ["word"] (fnScope s_word_text) := fnScope_by (by decide +kernel)
abbrev s_list_text : Stmt := top 19
abbrev N_list_text : List Str := ["words", "word"]
theorem sc_list_text : FnScope N_list_text ["words"] (fnScope s_list_text) := fnScope_by (by decide +kernel)
abbrev s_read_list : Stmt := top 20
abbrev N_read_list : List Str := ["text"]
theorem sc_read_list : FnScope N_read_list ["text"] (fnScope s_read_list) := fnScope_by (by decide +kernel)
abbrev s_read_words : Stmt := top 21
abbrev N_read_words : List Str := ["text", "words", "at", "word", "end"]
theorem sc_read_words : FnScope N_read_words ["text"] (fnScope s_read_words) := fnScope_by (by decide +kernel)
abbrev s_behind_white : Stmt := top 22
abbrev N_behind_white : List Str := ["text", "start", "at"]
theorem sc_behind_white : FnScope N_behind_white ["text", "start"] (fnScope s_behind_white) := fnScope_by (by decide +kernel)
abbrev s_read_word : Stmt := top 23
abbrev N_read_word : List Str := ["text", "start"]
theorem sc_read_word : FnScope N_read_word ["text", "start"] (fnScope s_read_word) := fnScope_by (by decide +kernel)
abbrev s_read_braced : Stmt := top 24
abbrev N_read_braced : List Str := ["text", "start", "end", "behind"]
theorem sc_read_braced : FnScope N_read_braced ["text", "start"] (fnScope s_read_braced) := fnScope_by (by decide +kernel)
abbrev s_read_bare : Stmt := top 25
abbrev N_read_bare : List Str := ["text", "start", "signs", "at"]
theorem sc_read_bare : FnScope N_read_bare ["text", "start"] (fnScope s_read_bare) := fnScope_by (by decide +kernel)
abbrev s__law_bag : Stmt := top 27
abbrev N__law_bag : List Str := ["_law_script", "_law_salt", "_law_cell"]
theorem sc__law_bag : FnScope N__law_bag ["_law_script"] (fnScope s__law_bag) := fnScope_by (by decide +kernel)
abbrev s__law_pull : Stmt := top 28
abbrev N__law_pull : List Str := ["_law_bag_here", "_law_amount", "_law_cell", "_law_got", "_law_seed"]
theorem sc__law_pull : FnScope N__law_pull ["_law_bag_here", "_law_amount"] (fnScope s__law_pull) := fnScope_by (by decide +kernel)
abbrev s__law_like : Stmt := top 29
abbrev N__law_like : List Str := ["_law_found", "_law_due", "_law_k"]
theorem sc__law_like : FnScope N__law_like ["_law_found", "_law_due"] (fnScope s__law_like) := fnScope_by (by decide +kernel)
abbrev s__law_of : Stmt := top 30
abbrev N__law_of : List Str := ["_law_bag_here", "_law_things"]
theorem sc__law_of : FnScope N__law_of ["_law_bag_here", "_law_things"] (fnScope s__law_of) := fnScope_by (by decide +kernel)
abbrev s__law_text : Stmt := top 31
abbrev N__law_text : List Str := ["_law_bag_here", "_law_top", "_law_signs", "_law_k"]
theorem sc__law_text : FnScope N__law_text ["_law_bag_here", "_law_top"] (fnScope s__law_text) := fnScope_by (by decide +kernel)
abbrev s__law_nested : Stmt := top 32
abbrev N__law_nested : List Str := ["_law_bag_here", "_law_deep", "_law_k"]
theorem sc__law_nested : FnScope N__law_nested ["_law_bag_here", "_law_deep"] (fnScope s__law_nested) := fnScope_by (by decide +kernel)
abbrev s__law_packed : Stmt := top 33
abbrev N__law_packed : List Str := ["_law_thing", "_law_deep", "_law_one"]
theorem sc__law_packed : FnScope N__law_packed ["_law_thing", "_law_deep"] (fnScope s__law_packed) := fnScope_by (by decide +kernel)
abbrev s__law_unpacked : Stmt := top 34
abbrev N__law_unpacked : List Str := ["_law_text_here", "_law_deep", "_law_one"]
theorem sc__law_unpacked : FnScope N__law_unpacked ["_law_text_here", "_law_deep"] (fnScope s__law_unpacked) := fnScope_by (by decide +kernel)
abbrev s_law : Stmt := top 35
abbrev N_law : List Str := ["_law_script", "_law_bag_here", "_law_turn", "_law_deep", "_law_thing", "_law_text_here", "_law_one", "_law_other", "_law_k"]
theorem sc_law : FnScope N_law ["_law_script"] (fnScope s_law) := fnScope_by (by decide +kernel)
abbrev s_BadList___init__ : Stmt := inClass (top 5) 0
abbrev N_BadList___init__ : List Str := ["self", "place"]
theorem sc_BadList___init__ : FnScope N_BadList___init__ ["self", "place"] (fnScope s_BadList___init__) := fnScope_by (by decide +kernel)
structure Txt (mg : Str → Option Value) : Prop where
  range : mg "range" = none
  len : mg "len" = none
  list : mg "list" = none
  isinstance : mg "isinstance" = none
  all : mg "all" = none
  tuple : mg "tuple" = none
  bool : mg "bool" = none
  g_LONGEST : ∃ u, mg "LONGEST" = some u ∧ RelV (.int 1000) u
  g_TURNED_SIGNS : ∃ u, mg "TURNED_SIGNS" = some u ∧ RelV (.str (Str.ofString " \\{}\"$[];#")) u
  g_TURN : ∃ u, mg "TURN" = some u ∧ RelV (.str (Str.ofString "\\")) u
  g_WHITE : ∃ u, mg "WHITE" = some u ∧ RelV (.str (Str.ofString " \n")) u
end My
namespace My
open PySem L2 SX C8
section
variable {P : Program} {w : World} {K : PySem.W.Frag} {mg : Str → Option Value} {base : Heap}
theorem ok_pair_end {f : Addr} {fd : FuncData} (F : Def K mg "pair_end" s_pair_end f fd) (b : Binds K fd ["text", "start"] []) (T : Txt mg) : Cal P w K mg base 1 "pair_end" spPend [] := by
  refine cal0 F b .nil sc_pair_end (fun vs H Q E h => ?_) (fun cdv A outer s H vs Q E hr h => ?_)
  · obtain ⟨l, i, rfl, _⟩ := h
    rfl
  obtain ⟨l, i, rfl, hl, hi, q⟩ := h
  refine ⟨_, pss_cons (ps_set (i := 2) sc_pair_end.nd rfl (Or.inl rfl) pe_int)
    (pss_cons (ps_for PassesOwn.never rfl (pi_range2 rfl T.range (pa_cons (pv 1) (pa_cons (pe_callB call_len (by rfl) T.len (by decide +kernel) (pa_cons (pv 0) pa_nil)) pa_nil))) (pg_name (i := 3) sc_pair_end.nd rfl (Or.inl rfl))
      (pss_one (ps_if (pt_cmpR op_eq (pe_ix ix_str (pv 0) (pv 3) (fun _ _ => rfl)) pe_str (nomark _))
        (pss_one (ps_aug (i := 2) sc_pair_end.nd rfl (Or.inl rfl) pe_int ip_add))
        (pss_one (ps_if (pt_cmpR op_eq (pe_ix ix_str (pv 0) (pv 3) (fun _ _ => rfl)) pe_str (nomark _))
          (pss_cons (ps_aug (i := 2) sc_pair_end.nd rfl (Or.inl rfl) pe_int ip_sub)
          (pss_one (ps_if (pt_cmpR op_eq (pv 2) pe_int (nomark _))
            (pss_one (ps_ret (pv 3)))
            (pss_nil))))
          (pss_nil))))))
    (pss_one (ps_ret pe_non))), ?_⟩
  have hz : (S l).length ≤ sizeLine := size_S (by omega)
  refine ⟨_, rfl, _, rfl, _, _, rfl, ⟨hz, rfl⟩, _, _, rfl, ⟨by omega, by omega, by omega, by rw [S_len]; omega⟩, for_range
    (fun k σ H2 => ∃ (m : Int) (v : Option V), σ = [some (.str (S l)), some (.int (i : Int)), some (.int m), v] ∧ H2 = H ∧ pend m (i + k) (l.drop (i + k)) = pend 0 i (l.drop i)) ⟨0, none, rfl, rfl, rfl⟩ ?_ ?_⟩
  · rintro k σ H2 hk ⟨m, v, rfl, rfl, e⟩
    rw [S_len] at hk
    have hlt : i + k < l.length := by omega
    obtain ⟨c, hc⟩ : ∃ c, l[i + k]? = some c := ⟨l[i + k], List.getElem?_eq_getElem hlt⟩
    have ei : ((i : Int) + (k : Int)) = ((i + k : Nat) : Int) := by omega
    have ha : atI (S l).cps.toList ((i : Int) + (k : Int)) = some c := by rw [ei]; exact at_S hc
    rw [pend_at hc] at e
    have ek : i + k + 1 = i + (k + 1) := by omega
    rw [ek] at e
    refine ⟨_, rfl, _, rfl, _, _, _, rfl, rfl, hz, ha, rfl, _, rfl, ite_S lit_ob (fun e1 => ?_) (fun n1 => ?_)⟩
    · have e1' : c = 123 := List.head_eq_of_cons_eq e1
      rw [if_pos e1'] at e
      exact ⟨_, rfl, _, _, rfl, rfl, _, _, rfl, rfl, e⟩
    · have n1' : ¬ c = 123 := fun q => n1 (by rw [q])
      rw [if_neg n1'] at e
      refine ⟨_, rfl, _, rfl, _, _, _, rfl, rfl, hz, ha, rfl, _, rfl, ite_S lit_cb (fun e2 => ?_) (fun n2 => ?_)⟩
      · have e2' : c = 125 := List.head_eq_of_cons_eq e2
        rw [if_pos e2'] at e
        refine ⟨_, rfl, _, _, rfl, rfl, ?_⟩
        refine ⟨_, rfl, rfl, _, rfl, iteI (fun e3 => ?_) (fun n3 => ?_)⟩
        · rw [if_pos e3] at e
          refine ⟨_, rfl, ?_⟩
          rw [← e] at q
          rw [ei]
          exact q
        · rw [if_neg n3] at e
          exact ⟨_, _, rfl, rfl, e⟩
      · have n2' : ¬ c = 125 := fun q => n2 (by rw [q])
        rw [if_neg n2'] at e
        exact ⟨_, _, rfl, rfl, e⟩
  · rintro σ H2 ⟨m, v, rfl, rfl, e⟩
    have hn : (((S l).length : Int) - (i : Int)).toNat = l.length - i := by rw [S_len]; omega
    rw [hn, List.drop_eq_nil_of_le (by omega)] at e
    rw [← e] at q
    exact q
end
end My
namespace My
open PySem L2 SX C8
section
variable {P : Program} {w : World} {K : PySem.W.Frag} {mg : Str → Option Value} {base : Heap}
theorem oI_dec (o : Option Nat) (n : Nat) : decide (oI o = V.int (n : Int)) = decide (o = some n) := by
  cases o with
  | none => rfl
  | some k =>
    show decide (V.int (k : Int) = V.int (n : Int)) = _
    by_cases e : k = n
    · subst e; simp
    · rw [decide_eq_false (fun q => e (by have := V.int.inj q; omega)), decide_eq_false (fun q => e (Option.some.inj q))]
theorem oI_scal (o : Option Nat) (n : Int) : scal (oI o) (.int n) = true := by cases o <;> rfl
theorem ok_can_stand_in_braces {f : Addr} {fd : FuncData} (F : Def K mg "can_stand_in_braces" s_can_stand_in_braces f fd) (b : Binds K fd ["word"] []) (T : Txt mg) (c_pair_end : Cal P w K mg base 1 "pair_end" spPend []) : Cal P w K mg base 2 "can_stand_in_braces" spStand [] := by
  refine cal0 F b .nil sc_can_stand_in_braces (fun vs H Q E h => ?_) (fun cdv A outer s H vs Q E hr h => ?_)
  · obtain ⟨l, rfl, _⟩ := h
    rfl
  obtain ⟨l, rfl, hl, q⟩ := h
  refine ⟨_, pss_one (ps_ret (pe_cmpR op_eq (pe_c c_pair_end hr (by first | decide | assumption | omega) rfl (pa_cons (pe_op op_add_str (pe_op op_add_str pe_str (pv 0)) pe_str) (pa_cons pe_int pa_nil))) (pe_op op_add (pe_callB call_len (by rfl) T.len (by decide +kernel) (pa_cons (pv 0) pa_nil)) pe_int) (nomark _))), ?_⟩
  have hz : (S l).length ≤ sizeLine := size_S (by omega)
  have h1 : (Str.ofString "{").length + (S l).length ≤ sizeLine := by
    rw [lit_ob, S_len, S_len]; exact Nat.le_trans (show _ ≤ 100000 by simp; omega) (by decide)
  have e1 : Str.ofString "{" ++ S l ++ Str.ofString "}" = S (123 :: (l ++ [125])) := by
    rw [lit_ob, lit_cb, S_cat, S_cat] <;> rfl
  have h2 : (Str.ofString "{" ++ S l).length + (Str.ofString "}").length ≤ sizeLine := by
    rw [lit_ob, lit_cb, S_cat, S_len, S_len]; exact Nat.le_trans (show _ ≤ 100000 by simp; omega) (by decide)
  refine ⟨_, rfl, _, _, rfl, rfl, h1, _, _, rfl, rfl, h2, (123 :: (l ++ [125])), 0, by rw [e1] <;> rfl, by simp; omega, Nat.zero_le _, ?_⟩
  refine ⟨_, rfl, _, _, rfl, ⟨hz, rfl⟩, _, _, rfl, rfl, oI_scal _ _, ?_⟩
  have e2 : ((S l).length : Int) + 1 = ((l.length + 1 : Nat) : Int) := by rw [S_len]; omega
  show Q (V.bl (decide (oI (pend 0 0 (List.drop 0 (123 :: (l ++ [125])))) = V.int (((S l).length : Int) + 1)))) H
  rw [e2, oI_dec, List.drop_zero]
  have e3 : decide (pend 0 0 (123 :: (l ++ [125])) = some (l.length + 1)) = Pairs l := by
    cases hp : Pairs l with
    | true => exact decide_eq_true ((pend_pairs l).mpr hp)
    | false => exact decide_eq_false fun z => by rw [(pend_pairs l).mp z] at hp; cases hp
  rw [e3]
  exact q
end
end My
namespace My
open PySem L2 SX C8
section
variable {P : Program} {w : World} {K : PySem.W.Frag} {mg : Str → Option Value} {base : Heap}
theorem ok_turned_sign {f : Addr} {fd : FuncData} (F : Def K mg "turned_sign" s_turned_sign f fd) (b : Binds K fd ["sign"] []) (T : Txt mg) : Cal P w K mg base 1 "turned_sign" spTsig [] := by
  refine cal0 F b .nil sc_turned_sign (fun vs H Q E h => ?_) (fun cdv A outer s H vs Q E hr h => ?_)
  · obtain ⟨l, rfl, _⟩ := h
    rfl
  obtain ⟨c, rfl, q⟩ := h
  refine ⟨_, pss_cons (ps_if (pt_cmpR op_eq (pv 0) pe_str (nomark _))
      (pss_one (ps_ret (pe_op op_add_str (pe_gc rfl T.g_TURN) pe_str)))
      (pss_nil))
    (pss_cons (ps_if (pt_cmpR op_in_sign (pv 0) (pe_gc rfl T.g_TURNED_SIGNS) rfl)
      (pss_one (ps_ret (pe_op op_add_str (pe_gc rfl T.g_TURN) (pv 0))))
      (pss_nil))
    (pss_one (ps_ret (pv 0)))), ?_⟩
  refine ⟨_, rfl, rfl, _, rfl, ite_S lit_nl (fun e1 => ?_) (fun n1 => ?_)⟩
  · have e1' : c = 10 := List.head_eq_of_cons_eq e1
    refine ⟨_, _, rfl, rfl, ?_, ?_⟩
    · rw [lit_bs, lit_n]; decide
    · have e : Str.ofString "\\" ++ Str.ofString "n" = S (tsig c) := by
        rw [lit_bs, lit_n, S_cat, e1'] <;> rfl
      rw [e]
      exact q
  · have n1' : ¬ c = 10 := fun q => n1 (by rw [q])
    refine ⟨_, rfl, c, _, rfl, rfl, _, rfl, ?_⟩
    rw [lit_spec]
    refine iteD (fun e2 => ?_) (fun n2 => ?_)
    · refine ⟨_, rfl, _, _, rfl, rfl, ?_, ?_⟩
      · rw [lit_bs, S_len, S_len]; show 2 ≤ sizeLine; decide
      · have e : Str.ofString "\\" ++ S [c] = S (tsig c) := by
          have e2' : c ∈ specL := e2
          rw [lit_bs, S_cat]
          unfold tsig
          rw [if_neg n1', if_pos e2'] <;> rfl
        rw [e]
        exact q
    · refine ⟨_, rfl, ?_⟩
      have n2' : ¬ c ∈ specL := n2
      have e : tsig c = [c] := by
        unfold tsig
        rw [if_neg n1', if_neg n2']
      rw [e] at q
      exact q
theorem ok_turned {f : Addr} {fd : FuncData} (F : Def K mg "turned" s_turned f fd) (b : Binds K fd ["text"] []) (T : Txt mg) (c_turned_sign : Cal P w K mg base 1 "turned_sign" spTsig []) : Cal P w K mg base 2 "turned" spTurned [] := by
  refine cal0 F b .nil sc_turned (fun vs H Q E h => ?_) (fun cdv A outer s H vs Q E hr h => ?_)
  · obtain ⟨l, rfl, _⟩ := h
    rfl
  obtain ⟨l, rfl, hl, q⟩ := h
  refine ⟨_, pss_one (ps_ret (pe_join pe_str (pe_lc (own := [("sign", 1)]) (g := gName 1) (by rfl) sc_turned.nd (pi_str (pv 0)) (blkOk_by (own := [("sign", 1)]) (N := N_turned) (sc := fnScope s_turned) (by decide +kernel)) (fun _ _ _ _ _ => pg_name (i := 1) sc_turned.nd rfl (Or.inl rfl)) (fun _ _ _ _ _ => pts_nil) (fun _ _ _ _ _ => (pe_c c_turned_sign hr (by first | decide | assumption | omega) rfl (pa_cons (pv 1) pa_nil)))))), ?_⟩
  refine ⟨⟨_, rfl⟩, _, rfl, _, rfl, fun D hD => lc_it walk_str (fun i H2 => Same H H2 ∧ H2 D = some (.lst (((l.take i).map fun c => S (tsig c)).map V.str))) ⟨same_new hD _, upd_same⟩ (fun _ _ _ _ => trivial) ?_ ?_⟩
  · rintro i x H2 H3 hi ⟨hs, hd⟩ ⟨rfl, c, hc, rfl⟩
    have hc' : l[i]? = some c := by
      have : (S l).cps.toList[i]? = some c := by rw [Array.getElem?_toList]; exact hc
      exact this
    have hi' : i < l.length := (List.getElem?_eq_some_iff.mp hc').1
    refine ⟨rfl, _, rfl, c, rfl, _, hd, ?_, same_mut hs hD, ?_⟩
    · rw [List.length_map, List.length_map, List.length_take]
      exact Nat.lt_of_le_of_lt (show _ ≤ 40000 by omega) (by decide)
    · rw [upd_same, List.take_add_one, hc']
      simp
  · rintro H2 ⟨hs, hd⟩
    have hz : (S l).cps.size = l.length := S_len l
    rw [hz, List.take_length] at hd
    have hm : (l.map fun c => S (tsig c)) = (l.map tsig).map S := by rw [List.map_map] <;> rfl
    refine ⟨_, D, l.map fun c => S (tsig c), rfl, rfl, .inl (SqL.of hd), ?_, ?_⟩
    · rw [lit_e]
      have : ((l.map fun c => S (tsig c)).map (·.length)).sum = (turn l).length := by
        unfold turn
        rw [List.length_flatMap, List.map_map]
        congr 1
      rw [this]
      have := turn_len l
      have e0 : (S ([] : List Nat)).length = 0 := rfl
      rw [e0, Nat.mul_zero]
      omega
    · rw [hm, join0 lit_e]
      exact q H2 hs
end
end My
namespace My
open PySem L2 SX C8
section
variable {P : Program} {w : World} {K : PySem.W.Frag} {mg : Str → Option Value} {base : Heap}
theorem ok_word_text {f : Addr} {fd : FuncData} (F : Def K mg "word_text" s_word_text f fd) (b : Binds K fd ["word"] []) (T : Txt mg) (c_turned : Cal P w K mg base 2 "turned" spTurned []) (c_can_stand_in_braces : Cal P w K mg base 2 "can_stand_in_braces" spStand []) : Cal P w K mg base 3 "word_text" spWtext [] := by
  refine cal0 F b .nil sc_word_text (fun vs H Q E h => ?_) (fun cdv A outer s H vs Q E hr h => ?_)
  · obtain ⟨l, rfl, _⟩ := h
    rfl
  obtain ⟨l, rfl, hl, q⟩ := h
  refine ⟨_, pss_cons (ps_set (i := 1) sc_word_text.nd rfl (Or.inl rfl) (pe_op op_add_str (pe_op op_add_str pe_str (pv 0)) pe_str))
    (pss_cons (ps_if (pt_cmpR op_eq (pv 0) pe_str (nomark _))
      (pss_one (ps_ret (pv 1)))
      (pss_nil))
    (pss_cons (ps_set (i := 2) sc_word_text.nd rfl (Or.inl rfl) (pe_c c_turned hr (by first | decide | assumption | omega) rfl (pa_cons (pv 0) pa_nil)))
    (pss_cons (ps_if (PW.pt (pw_and (pt_cmpR op_le (pe_callB call_len (by rfl) T.len (by decide +kernel) (pa_cons (pv 1) pa_nil)) (pe_callB call_len (by rfl) T.len (by decide +kernel) (pa_cons (pv 2) pa_nil)) (nomark _)) (pw_and1 (pt_val (pe_c c_can_stand_in_braces hr (by first | decide | assumption | omega) rfl (pa_cons (pv 0) pa_nil))))))
      (pss_one (ps_ret (pv 1)))
      (pss_nil))
    (pss_one (ps_ret (pv 2)))))), ?_⟩
  have hz : (S l).length ≤ sizeLine := size_S (by omega)
  have h1 : (Str.ofString "{").length + (S l).length ≤ sizeLine := by
    rw [lit_ob, S_len, S_len]; exact Nat.le_trans (show _ ≤ 100000 by simp; omega) (by decide)
  have e1 : Str.ofString "{" ++ S l ++ Str.ofString "}" = S (123 :: (l ++ [125])) := by
    rw [lit_ob, lit_cb, S_cat, S_cat] <;> rfl
  have h2 : (Str.ofString "{" ++ S l).length + (Str.ofString "}").length ≤ sizeLine := by
    rw [lit_ob, lit_cb, S_cat, S_len, S_len]; exact Nat.le_trans (show _ ≤ 100000 by simp; omega) (by decide)
  refine ⟨_, rfl, _, _, rfl, rfl, h1, _, _, rfl, rfl, h2, ?_⟩
  rw [e1]
  refine ⟨_, rfl, rfl, _, rfl, ite_S lit_e (fun e2 => ?_) (fun n2 => ?_)⟩
  · refine ⟨_, rfl, ?_⟩
    have := q H (Same.refl H)
    subst e2
    exact this
  · refine ⟨_, rfl, l, rfl, hl, fun H1 s1 => ?_⟩
    have hz1 : (S (123 :: (l ++ [125]))).length ≤ sizeLine := size_S (by simp; omega)
    have ht : (turn l).length ≤ 80000 := by have := turn_len l; omega
    have hz2 : (S (turn l)).length ≤ sizeLine := size_S (by omega)
    refine ⟨_, rfl, _, _, rfl, ⟨hz1, rfl⟩, _, rfl, _, _, rfl, ⟨hz2, rfl⟩, _, _, rfl, rfl, _, rfl, ?_⟩
    have el : (S (123 :: (l ++ [125]))).length = l.length + 2 := by rw [S_len]; simp
    have et : (S (turn l)).length = (turn l).length := S_len _
    rw [el, et]
    refine iteD (fun e3 => ?_) (fun n3 => ?_)
    · refine ⟨_, rfl, l, rfl, by omega, _, rfl, ?_⟩
      cases hp : Pairs l with
      | true =>
        refine iteT ⟨_, rfl, ?_⟩
        have := q H1 s1
        unfold wtext at this
        rw [if_neg n2, if_pos ⟨by omega, hp⟩] at this
        exact this
      | false =>
        refine iteF ⟨_, rfl, ?_⟩
        have := q H1 s1
        unfold wtext at this
        rw [if_neg n2, if_neg (fun z => by rw [hp] at z; cases z.2)] at this
        exact this
    · refine iteF ⟨_, rfl, ?_⟩
      have := q H1 s1
      unfold wtext at this
      rw [if_neg n2, if_neg (fun z => n3 (by have := z.1; omega))] at this
      exact this
end
end My
namespace My
open PySem L2 SX C8
theorem cut63 {xs : List V} (h : xs.length ≤ 63) : cutV xs none (some 63) = xs := by
  unfold cutV
  have e : HT.sIx xs.length xs.length (some 63) = xs.length := by
    have := HT.sIx_nat xs.length xs.length 63
    rw [Nat.min_eq_right h] at this
    exact this
  rw [e, HT.sIx_none]
  simp
section
variable {P : Program} {w : World} {K : PySem.W.Frag} {mg : Str → Option Value} {base : Heap}
theorem ok__law_bag {f : Addr} {fd : FuncData} (F : Def K mg "_law_bag" s__law_bag f fd) (b : Binds K fd ["_law_script"] []) (T : Txt mg) : Cal P w K mg base 1 "_law_bag" (spBag K) [] := by
  refine cal0 F b .nil sc__law_bag (fun vs H Q E h => ?_) (fun cdv A outer s H vs Q E hr h => ?_)
  · obtain ⟨a, ns, rfl, _⟩ := h
    rfl
  obtain ⟨a, ns, rfl, hS, hl, q⟩ := h
  refine ⟨_, pss_cons (ps_set (i := 1) sc__law_bag.nd rfl (Or.inl rfl) pe_int)
    (pss_cons (ps_for PassesOwn.never rfl (pi_list (pe_slice sl_list (pv 0) po_none (po_some pe_int))) (pg_name (i := 2) sc__law_bag.nd rfl (Or.inl rfl))
      (pss_one (ps_set (i := 1) sc__law_bag.nd rfl (Or.inl rfl) (pe_op op_mod (pe_op op_add (pe_op op_add (pe_op op_mul (pv 1) pe_int) (pe_op op_mod (pv 2) pe_int)) pe_int) pe_int))))
    (pss_one (ps_ret (pe_lst (pa_cons (pe_callTy call_list_of (by rfl) T.list (by decide +kernel) (pa_cons (pe_slice sl_list (pv 0) po_none (po_some pe_int)) pa_nil)) (pa_cons pe_int (pa_cons pe_int (pa_cons (pv 1) pa_nil)))))))), ?_⟩
  have hl' : (ns.map V.int).length ≤ 63 := by rw [List.length_map]; exact hl
  refine ⟨_, rfl, _, rfl, a, _, rfl, hS, fun p hp => ?_⟩
  rw [cut63 hl']
  have s1 := same_new hp (HO.lst (ns.map V.int))
  refine ⟨p, rfl, ⟨_, SqL.of upd_same⟩, for_list (K := K) (a := p) (xs := ns.map V.int) (fun i σ H2 => ∃ (z : Int) (v : Option V), σ = [some (.ref a), some (.int z), v] ∧ Same H H2 ∧ H2 p = some (.lst (ns.map V.int)) ∧ 0 ≤ z ∧ z < 2147483647)
      ⟨8968, none, rfl, s1, upd_same, by decide, by decide⟩ (fun i σ H2 _ ⟨_, _, _, _, h, _⟩ => SqL.of h) ?_ ?_⟩
  · rintro i y σ H2 hi ⟨z, v, rfl, s2, h2, hz0, hz1⟩
    obtain ⟨n, rfl⟩ : ∃ n, y = V.int n := by
      rw [List.getElem?_map] at hi
      cases e : ns[i]? with
      | none => rw [e] at hi; cases hi
      | some n => rw [e] at hi; exact ⟨n, (Option.some.inj hi).symm⟩
    refine ⟨_, rfl, _, _, rfl, rfl, .inl ⟨by omega, by omega⟩, _, rfl, _, _, rfl, rfl, (by show (0 : Int) < 2147483629; decide), _, _, rfl, rfl, _, _, rfl, rfl, _, _, rfl, rfl, (by show (0 : Int) < 2147483647; decide), ?_⟩
    exact ⟨_, _, rfl, s2, h2, Int.emod_nonneg _ (by decide), Int.emod_lt_of_pos _ (by decide)⟩
  · rintro σ H2 ⟨z, v, rfl, s2, h2, hz0, hz1⟩
    refine ⟨_, rfl, _, rfl, a, _, rfl, Same.seq s2 hS, fun p2 hp2 => ?_⟩
    rw [cut63 hl']
    have s3 := s2.trans (same_new hp2 (HO.lst (ns.map V.int)))
    refine ⟨p2, _, rfl, .inl (SqL.of upd_same), fun l hl2 => ⟨_, rfl, (by show 4 ≤ sizeLine; decide), fun b2 hb2 => ?_⟩⟩
    have s4 := s3.trans (same_new hl2 (HO.lst (ns.map V.int)))
    have s5 := s4.trans (same_new hb2 (HO.lst [.ref l, .int 0, .int 0, .int z]))
    have nlb : l ≠ b2 := ne_of_none (show (upd (upd H2 p2 (.lst (ns.map V.int))) l (.lst (ns.map V.int))) l = some (.lst (ns.map V.int)) from upd_same) hb2
    exact q b2 l _ s5 (Same.free s4 hb2) ⟨ns, 0, 0, z, upd_same, by rw [upd_ne nlb]; exact upd_same, nlb, hl, Nat.zero_le _, Int.le_refl _, hz0, hz1⟩
end
end My
namespace My
open PySem L2 SX C8
section
variable {P : Program} {w : World} {K : PySem.W.Frag} {mg : Str → Option Value} {base : Heap}
theorem ok__law_pull {f : Addr} {fd : FuncData} (F : Def K mg "_law_pull" s__law_pull f fd) (b : Binds K fd ["_law_bag_here", "_law_amount"] []) (T : Txt mg) : Cal P w K mg base 1 "_law_pull" spPull [] := by
  refine cal0 F b .nil sc__law_pull (fun vs H Q E h => ?_) (fun cdv A outer s H vs Q E hr h => ?_)
  · obtain ⟨a, l, n, rfl, _⟩ := h
    rfl
  obtain ⟨b, l, n, rfl, B, hn0, hn1, q⟩ := h
  obtain ⟨ns, i, cur, salt, hb, hl, nlb, hlen, hi, hc, hs0, hs1⟩ := B.ex
  refine ⟨_, pss_cut (ps_if (PW.pt (pw_and (pt_cmpR op_eq (pe_ix ix_list (pv 0) pe_int (fun _ _ => rfl)) pe_int (nomark _)) (pw_and1 (pt_cmpR op_lt (pe_ix ix_list (pv 0) pe_int (fun _ _ => rfl)) (pe_callB call_len (by rfl) T.len (by decide +kernel) (pa_cons (pe_ix ix_list (pv 0) pe_int (fun _ _ => rfl)) pa_nil)) (nomark _)))))
      (pss_cons (ps_set (i := 2) sc__law_pull.nd rfl (Or.inl rfl) (pe_ix ix_seq (pe_ix ix_list (pv 0) pe_int (fun _ _ => rfl)) (pe_ix ix_list (pv 0) pe_int (fun _ _ => rfl)) (fun _ _ => rfl)))
      (pss_cons (ps_asg (pe_op op_add (pe_ix ix_list (pv 0) pe_int (fun _ _ => rfl)) pe_int) (pg_sub (pv 0) pe_int set_list))
      (pss_one (ps_if (pt_cmpR op_ge (pv 2) (pe_op op_pow pe_int pe_int) (nomark _))
        (pss_one (ps_asg (pv 2) (pg_sub (pv 0) pe_int set_list)))
        (pss_one (ps_asg (pe_op op_mod (pe_op op_add (pe_op op_add (pe_op op_mul (pe_ix ix_list (pv 0) pe_int (fun _ _ => rfl)) pe_int) (pe_op op_mul (pe_op op_mod (pv 2) pe_int) pe_int)) pe_int) pe_int) (pg_sub (pv 0) pe_int set_list)))))))
      (pss_nil))
    (pss_cons (ps_if (pt_cmpR op_gt (pe_ix ix_list (pv 0) pe_int (fun _ _ => rfl)) pe_int (nomark _))
      (pss_cons (ps_set (i := 3) sc__law_pull.nd rfl (Or.inl rfl) (pe_op op_mod (pe_ix ix_list (pv 0) pe_int (fun _ _ => rfl)) (pv 1)))
      (pss_cons (ps_asg (pe_op op_fdiv (pe_ix ix_list (pv 0) pe_int (fun _ _ => rfl)) (pv 1)) (pg_sub (pv 0) pe_int set_list))
      (pss_one (ps_ret (pv 3)))))
      (pss_nil))
    (pss_cons (ps_set (i := 4) sc__law_pull.nd rfl (Or.inl rfl) (pe_ix ix_list (pv 0) pe_int (fun _ _ => rfl)))
    (pss_cons (ps_asg (pe_op op_mod (pe_op op_add (pe_op op_add (pe_op op_mul (pv 4) pe_int) (pe_op op_mul (pe_op op_fdiv (pv 4) pe_int) pe_int)) pe_int) pe_int) (pg_sub (pv 0) pe_int set_list))
    (pss_one (ps_ret (pe_op op_mod (pe_op op_add (pe_op op_fdiv (pe_ix ix_list (pv 0) pe_int (fun _ _ => rfl)) pe_int) (pe_op op_mul (pe_op op_mod (pe_ix ix_list (pv 0) pe_int (fun _ _ => rfl)) pe_int) pe_int)) (pv 1))))))), ?_⟩
  have put : ∀ {H2 : Hp} {o : HO}, H2 l = some (.lst (ns.map V.int)) → (upd H2 b o) l = some (.lst (ns.map V.int)) := fun {H2 o} h => by rw [upd_ne nlb]; exact h
  have e18 : (10 : Int) ^ (18 : Int).toNat = 1000000000000000000 := by decide
  refine ⟨fun σ H2 => ∃ (v : Option V) (i : Nat) (cur salt : Int), σ = [some (.ref b), some (.int n), v, none, none] ∧ But b H H2 ∧ H2 b = some (.lst [.ref l, .int (i : Int), .int cur, .int salt]) ∧ H2 l = some (.lst (ns.map V.int)) ∧ i ≤ ns.length ∧ 0 ≤ cur ∧ 0 ≤ salt ∧ salt < 2147483647, ?_, ?_⟩
  · have same : ∃ (v : Option V) (i : Nat) (cur salt : Int), L2.start N__law_pull [V.ref b, V.int n] = [some (.ref b), some (.int n), v, none, none] ∧ But b H H ∧ H b = some (.lst [.ref l, .int (i : Int), .int cur, .int salt]) ∧ H l = some (.lst (ns.map V.int)) ∧ i ≤ ns.length ∧ 0 ≤ cur ∧ 0 ≤ salt ∧ salt < 2147483647 :=
      ⟨none, i, cur, salt, rfl, But.refl b H, hb, hl, hi, hc, hs0, hs1⟩
    refine ⟨_, rfl, _, _, _, _, rfl, rfl, SqL.of hb, rfl, rfl, _, rfl, iteI (fun e => ?_) (fun _ => iteF same)⟩
    refine ⟨_, rfl, _, _, _, _, rfl, rfl, SqL.of hb, rfl, _, rfl, _, _, _, _, rfl, rfl, SqL.of hb, rfl, _, _, rfl, .inl ⟨_, SqL.of hl, rfl⟩, _, _, rfl, rfl, _, rfl, iteD (fun e2 => ?_) (fun n2 => same)⟩
    have hlt : i < ns.length := by rw [List.length_map] at e2; omega
    have ha : atI (ns.map V.int) (i : Int) = some (.int ns[i]) := atI_nat (by rw [List.getElem?_map, List.getElem?_eq_getElem hlt] <;> rfl)
    refine ⟨_, rfl, _, _, _, _, rfl, rfl, SqL.of hb, rfl, _, rfl, _, _, _, _, rfl, rfl, SqL.of hb, rfl, .inl ⟨_, _, _, _, rfl, rfl, SqL.of hl, ha, ?_⟩⟩
    refine ⟨_, rfl, _, _, _, _, rfl, rfl, SqL.of hb, rfl, _, _, rfl, rfl, _, rfl, _, _, _, _, rfl, rfl, hb, rfl, ?_⟩
    have ei : ((i : Int) + 1) = ((i + 1 : Nat) : Int) := by omega
    refine ⟨_, rfl, _, _, rfl, rfl, ⟨by decide, by decide, by decide⟩, _, _, rfl, rfl, _, rfl, iteD (fun e3 => ?_) (fun n3 => ?_)⟩
    · rw [e18] at e3
      refine ⟨_, rfl, _, rfl, _, _, _, _, rfl, rfl, upd_same, rfl, ?_⟩
      refine ⟨_, i + 1, ns[i], salt, rfl, but_upd (but_upd (But.refl b H)), ?_, put (put hl), by omega, by omega, hs0, hs1⟩
      rw [upd_same, ← ei]
      rfl
    · have m0 : 0 ≤ ns[i] % 2147483629 := Int.emod_nonneg _ (by decide)
      have m1 : ns[i] % 2147483629 < 2147483629 := Int.emod_lt_of_pos _ (by decide)
      refine ⟨_, rfl, _, _, _, _, rfl, rfl, SqL.of upd_same, rfl, _, _, rfl, rfl, .inl ⟨by omega, by omega⟩, _, rfl, _, _, rfl, rfl, (by show (0 : Int) < 2147483629; decide), _, _, rfl, rfl, .inl ⟨by omega, by omega⟩, _, _, rfl, rfl, _, _, rfl, rfl, _, _, rfl, rfl, (by show (0 : Int) < 2147483647; decide), _, rfl, _, _, _, _, rfl, rfl, upd_same, rfl, ?_⟩
      refine ⟨_, i + 1, cur, (salt * 69621 + ns[i] % 2147483629 * 48271 + 5) % 2147483647, rfl, but_upd (but_upd (But.refl b H)), ?_, put (put hl), by omega, hc, Int.emod_nonneg (b := 2147483647) _ (by decide), Int.emod_lt_of_pos (b := 2147483647) _ (by decide)⟩
      rw [upd_same, ← ei]
      rfl
  · rintro σ H2 ⟨v, i2, cur2, salt2, rfl, s2, hb2, hl2, hi2, hc2, h20, h21⟩
    refine ⟨_, rfl, _, _, _, _, rfl, rfl, SqL.of hb2, rfl, _, _, rfl, rfl, _, rfl, iteD (fun e => ?_) (fun _ => ?_)⟩
    · have hq : 0 ≤ cur2 / n := Int.ediv_nonneg hc2 (by omega)
      refine ⟨_, rfl, _, _, _, _, rfl, rfl, SqL.of hb2, rfl, _, rfl, _, _, rfl, rfl, hn0, ?_⟩
      refine ⟨_, rfl, _, _, _, _, rfl, rfl, SqL.of hb2, rfl, _, rfl, _, _, rfl, rfl, ⟨hn0, hn1⟩, _, rfl, _, _, _, _, rfl, rfl, hb2, rfl, _, rfl, ?_⟩
      have m0 : 0 ≤ cur2 % n := Int.emod_nonneg _ (by omega)
      have m1 : cur2 % n < n := Int.emod_lt_of_pos _ hn0
      have em : ((cur2 % n).toNat : Int) = cur2 % n := by omega
      have := q (cur2 % n).toNat (upd H2 b (.lst [.ref l, .int (i2 : Int), .int (cur2 / n), .int salt2])) (by omega) (but_upd s2) ⟨ns, i2, cur2 / n, salt2, upd_same, put hl2, nlb, hlen, hi2, hq, h20, h21⟩
      rw [em] at this
      exact this
    · refine ⟨_, rfl, _, _, _, _, rfl, rfl, SqL.of hb2, rfl, ?_⟩
      have d0 : 0 ≤ salt2 / 127773 := Int.ediv_nonneg h20 (by decide)
      have d1 : salt2 / 127773 ≤ salt2 := Int.ediv_le_self _ h20
      refine ⟨_, rfl, _, _, rfl, rfl, .inl ⟨by omega, by omega⟩, _, rfl, _, _, rfl, rfl, ⟨by decide, by decide⟩, _, _, rfl, rfl, .inl ⟨by omega, by omega⟩, _, _, rfl, rfl, _, _, rfl, rfl, _, _, rfl, rfl, (by show (0 : Int) < 2147483647; decide), _, rfl, _, _, _, _, rfl, rfl, hb2, rfl, ?_⟩
      have z0 : 0 ≤ (salt2 * 39373 + salt2 / 127773 * 31 + 1013904223) % 2147483647 := Int.emod_nonneg _ (by decide)
      have z1 : (salt2 * 39373 + salt2 / 127773 * 31 + 1013904223) % 2147483647 < 2147483647 := Int.emod_lt_of_pos _ (by decide)
      have g0 : 0 ≤ (salt2 * 39373 + salt2 / 127773 * 31 + 1013904223) % 2147483647 % 8191 := Int.emod_nonneg _ (by decide)
      have g1 : (salt2 * 39373 + salt2 / 127773 * 31 + 1013904223) % 2147483647 % 8191 < 8191 := Int.emod_lt_of_pos _ (by decide)
      have goal : ∀ r : Int, 0 ≤ r → r < n → Q (.int r) (upd H2 b (.lst [.ref l, .int (i2 : Int), .int cur2, .int ((salt2 * 39373 + salt2 / 127773 * 31 + 1013904223) % 2147483647)])) := fun r r0 r1 => by
        have er : ((r.toNat : Nat) : Int) = r := Int.toNat_of_nonneg r0
        have := q r.toNat (upd H2 b (.lst [.ref l, .int (i2 : Int), .int cur2, .int ((salt2 * 39373 + salt2 / 127773 * 31 + 1013904223) % 2147483647)])) (by rw [er]; exact r1) (but_upd s2) ⟨ns, i2, cur2, _, upd_same, put hl2, nlb, hlen, hi2, hc2, z0, z1⟩
        rw [er] at this
        exact this
      refine ⟨_, rfl, _, _, _, _, rfl, rfl, SqL.of upd_same, rfl, _, _, rfl, rfl, ⟨by decide, by decide⟩, _, rfl, _, _, _, _, rfl, rfl, SqL.of upd_same, rfl, _, _, rfl, rfl, (by show (0 : Int) < 8191; decide), _, _, rfl, rfl, .inl ⟨Int.lt_of_lt_of_le (by decide) g0, Int.lt_trans g1 (by decide)⟩, _, _, rfl, rfl, _, rfl, _, _, rfl, rfl, hn0, ?_⟩
      exact goal _ (Int.emod_nonneg _ (by omega)) (Int.emod_lt_of_pos _ hn0)
end
end My
namespace My
open PySem L2 SX C8
section
variable {P : Program} {w : World} {K : PySem.W.Frag} {mg : Str → Option Value} {base : Heap}
theorem ok__law_of {f : Addr} {fd : FuncData} (F : Def K mg "_law_of" s__law_of f fd) (b : Binds K fd ["_law_bag_here", "_law_things"] []) (T : Txt mg) (c__law_pull : Cal P w K mg base 1 "_law_pull" spPull []) : Cal P w K mg base 2 "_law_of" (spOf K) [] := by
  refine cal0 F b .nil sc__law_of (fun vs H Q E h => ?_) (fun cdv A outer s H vs Q E hr h => ?_)
  · obtain ⟨a, l, n, rfl, _⟩ := h
    rfl
  obtain ⟨b, l, x, rfl, B, q⟩ := h
  refine ⟨_, pss_one (ps_ret (pe_ix ix_seq (pv 1) (pe_c c__law_pull hr (by first | decide | assumption | omega) rfl (pa_cons (pv 0) (pa_cons (pe_callB call_len (by rfl) T.len (by decide +kernel) (pa_cons (pv 1) pa_nil)) pa_nil))) (fun _ _ => rfl))), ?_⟩
  rcases q with ⟨a, xs, rfl, nlb, hl, h0, h1, q⟩ | ⟨z, rfl, h0, h1, q⟩
  · refine ⟨_, rfl, _, rfl, _, rfl, _, _, rfl, .inl ⟨xs, hl, rfl⟩, b, l, _, rfl, B, by omega, by omega, fun r H' hr' s' B' => ?_⟩
    have hlt : r < xs.length := by omega
    have ha : atI xs (r : Int) = some xs[r] := atI_nat (List.getElem?_eq_getElem hlt)
    exact .inl ⟨_, _, _, _, rfl, rfl, But.seq s' nlb hl, ha, q _ H' (List.getElem_mem hlt) s' B'⟩
  · have hz : (S z).length ≤ sizeLine := size_S (by omega)
    refine ⟨_, rfl, _, rfl, _, rfl, _, _, rfl, ⟨hz, rfl⟩, b, l, _, rfl, B, by rw [S_len]; omega, by rw [S_len]; omega, fun r H' hr' s' B' => ?_⟩
    rw [S_len] at hr'
    have hlt : r < z.length := by omega
    have ha : atI (S z).cps.toList (r : Int) = some z[r] := atI_nat (List.getElem?_eq_getElem hlt)
    exact .inr (.inr ⟨_, _, _, rfl, rfl, hz, ha, q _ H' (List.getElem_mem hlt) s' B'⟩)
end
end My
namespace My
open PySem L2 SX C8
theorem abc_lits : ∀ v ∈ ([V.str (Str.ofString "ab"), .str (Str.ofString " a{}"), .str (Str.ofString "\\\n n"), .str (Str.ofString "{}"), .str (Str.ofString "x\"$[];#"), .str (Str.ofString "Az09_-+!~"), .str (Str.ofString "abc \n\\{}\"$[];#")] : List V),
    ∃ z : List Nat, v = .str (S z) ∧ 0 < z.length ∧ z.length ≤ 1000 ∧ ∀ c ∈ z, c ∈ abc := by
  have e1 : (Str.ofString "ab") = S [97, 98] := by decide +kernel
  have e2 : (Str.ofString " a{}") = S [32, 97, 123, 125] := by decide +kernel
  have e3 : (Str.ofString "\\\n n") = S [92, 10, 32, 110] := by decide +kernel
  have e4 : (Str.ofString "{}") = S [123, 125] := by decide +kernel
  have e5 : (Str.ofString "x\"$[];#") = S [120, 34, 36, 91, 93, 59, 35] := by decide +kernel
  have e6 : (Str.ofString "Az09_-+!~") = S [65, 122, 48, 57, 95, 45, 43, 33, 126] := by decide +kernel
  have e7 : (Str.ofString "abc \n\\{}\"$[];#") = S [97, 98, 99, 32, 10, 92, 123, 125, 34, 36, 91, 93, 59, 35] := by decide +kernel
  rw [e1, e2, e3, e4, e5, e6, e7]
  intro v hv
  simp only [List.mem_cons, List.not_mem_nil, or_false] at hv
  rcases hv with rfl | rfl | rfl | rfl | rfl | rfl | rfl
  all_goals exact ⟨_, rfl, by decide, by decide, by decide⟩
section
variable {P : Program} {w : World} {K : PySem.W.Frag} {mg : Str → Option Value} {base : Heap}
theorem ok__law_text {f : Addr} {fd : FuncData} (F : Def K mg "_law_text" s__law_text f fd) (b : Binds K fd ["_law_bag_here", "_law_top"] []) (T : Txt mg) (c__law_pull : Cal P w K mg base 1 "_law_pull" spPull []) (c__law_of : Cal P w K mg base 2 "_law_of" (spOf K) []) : Cal P w K mg base 3 "_law_text" spText [] := by
  refine cal0 F b .nil sc__law_text (fun vs H Q E h => ?_) (fun cdv A outer s H vs Q E hr h => ?_)
  · obtain ⟨a, l, n, rfl, _⟩ := h
    rfl
  obtain ⟨b, l, n, rfl, B, hn, q⟩ := h
  refine ⟨_, pss_cons (ps_set (i := 2) sc__law_text.nd rfl (Or.inr rfl) (pe_c c__law_of hr (by first | decide | assumption | omega) rfl (pa_cons (pv 0) (pa_cons (pe_lst (pa_cons pe_str (pa_cons pe_str (pa_cons pe_str (pa_cons pe_str (pa_cons pe_str (pa_cons pe_str (pa_cons pe_str pa_nil)))))))) pa_nil))))
    (pss_one (ps_ret (pe_join pe_str (pe_lc (own := [("_law_k", 3)]) (g := gName 3) (by rfl) sc__law_text.nd (pi_range1 rfl T.range (pa_cons (pe_c c__law_pull hr (by first | decide | assumption | omega) rfl (pa_cons (pv 0) (pa_cons (pe_op op_add (pv 1) pe_int) pa_nil))) pa_nil)) (blkOk_by (own := [("_law_k", 3)]) (N := N__law_text) (sc := fnScope s__law_text) (by decide +kernel)) (fun _ _ _ _ _ => pg_name (i := 3) sc__law_text.nd rfl (Or.inl rfl)) (fun _ _ _ _ _ => pts_nil) (fun _ _ _ _ _ => (pe_c c__law_of hr (by first | decide | assumption | omega) rfl (pa_cons (pv 0) (pa_cons (pv 2) pa_nil)))))))), ?_⟩
  refine ⟨_, rfl, (by show 7 ≤ sizeLine; decide), fun p hp => ?_⟩
  have npb : p ≠ b := (B.nb hp).symm
  have s1 := same_new hp (HO.lst [.str (Str.ofString "ab"), .str (Str.ofString " a{}"), .str (Str.ofString "\\\n n"), .str (Str.ofString "{}"), .str (Str.ofString "x\"$[];#"), .str (Str.ofString "Az09_-+!~"), .str (Str.ofString "abc \n\\{}\"$[];#")])
  refine ⟨b, l, _, rfl, B.mono s1, .inl ⟨p, _, rfl, npb, SqL.of upd_same, by show 0 < 7; decide, by show 7 ≤ 1000; decide, fun v H1 hv b1 B1 => ?_⟩⟩
  obtain ⟨z, rfl, z0, z1, z2⟩ := abc_lits v hv
  refine ⟨⟨_, rfl⟩, _, rfl, _, rfl, _, _, rfl, rfl, b, l, _, rfl, B1, by omega, by omega, fun m H2 hm b2 B2 => ⟨_, rfl, by omega, by omega, fun D hD => ?_⟩⟩
  have nbD := B2.nb hD
  have nlD := B2.nl hD
  refine lc_range (lo := 0) (n := (m : Int).toNat) (fun i H3 => But b H2 H3 ∧ BagAt H3 b l ∧ ∃ cs : List Nat, cs.length = i ∧ (∀ c ∈ cs, c ∈ abc) ∧ H3 D = some (.lst ((cs.map fun c => S [c]).map V.str))) ⟨Same.but (same_new hD _), B2.mono (same_new hD _), [], rfl, by simp, upd_same⟩ ?_ ?_
  · rintro i H3 hi ⟨b3, B3, cs, hc1, hc2, hd⟩
    refine ⟨rfl, _, rfl, _, rfl, b, l, _, rfl, B3, .inr ⟨z, rfl, z0, z1, fun c H4 hc b4 B4 => ?_⟩⟩
    have hd4 := b4 _ _ hd nbD.symm
    refine ⟨_, hd4, ?_, ?_, ?_, cs ++ [c], by simp [hc1], ?_, ?_⟩
    · rw [List.length_map, List.length_map, hc1]
      exact Nat.lt_of_lt_of_le (show i < 2000 by omega) (by decide)
    · exact but_mut (b3.trans b4) hD
    · exact B4.upd nbD nlD
    · intro c' hc'
      rcases List.mem_append.mp hc' with h | h
      · exact hc2 c' h
      · rw [List.mem_singleton.mp h]; exact z2 c hc
    · rw [upd_same]
      simp
  · rintro H3 ⟨b3, B3, cs, hc1, hc2, hd⟩
    have em : (cs.map fun c => S [c]) = (cs.map fun c => [c]).map S := by rw [List.map_map] <;> rfl
    have ef : (cs.map fun c => [c]).flatten = cs := by
      clear hc1 hc2 hd em
      induction cs with
      | nil => rfl
      | cons c r ih => simp only [List.map_cons, List.flatten_cons, ih]; rfl
    refine ⟨_, D, cs.map fun c => S [c], rfl, rfl, .inl (SqL.of hd), ?_, ?_⟩
    · rw [lit_e]
      have e0 : (S ([] : List Nat)).length = 0 := rfl
      have e1 : ((cs.map fun c => S [c]).map (·.length)).sum = cs.length := by
        clear hc1 hc2 hd em ef
        induction cs with
        | nil => rfl
        | cons c r ih => simp only [List.map_cons, List.sum_cons, ih, List.length_cons]; rw [S_len]; simp; omega
      rw [e0, Nat.mul_zero, e1, hc1]
      omega
    · rw [em, join0 lit_e, ef]
      exact q cs H3 (by omega) hc2 (((Same.but s1).trans b1).trans (b2.trans b3)) B3
end
end My
namespace My
open PySem L2 SX C8
/-- what isinstance says of a flat value -/
def tyN : V → String
  | .non => "NoneType" | .bl _ => "bool" | .int _ => "int" | .str _ => "str" | _ => ""
theorem tyX_flat {K : PySem.W.Frag} {H : Hp} : ∀ {x : V}, flatS x = true → TyX K H x (.type (tyN x))
  | .non, _ => .base .non
  | .bl b, _ => .base (.bl b)
  | .int i, _ => .base (.int i)
  | .str z, _ => .base (.str z)
  | .byt _, h => by cases h
  | .flt _, h => by cases h
  | .ref _, h => by cases h
  | .ty _, h => by cases h
theorem kit_tup {K : PySem.W.Frag} : ∀ {x : V}, flatS x = true → PySem.W.kitOne K (.type (tyN x)) (.type "tuple") = some false
  | .non, _ => kit_ty (a := "NoneType") (b := "tuple") (by decide +kernel)
  | .bl b, _ => kit_ty (a := "bool") (b := "tuple") (by decide +kernel)
  | .int i, _ => kit_ty (a := "int") (b := "tuple") (by decide +kernel)
  | .str z, _ => kit_ty (a := "str") (b := "tuple") (by decide +kernel)
  | .byt _, h => by cases h
  | .flt _, h => by cases h
  | .ref _, h => by cases h
  | .ty _, h => by cases h
theorem kit_lst {K : PySem.W.Frag} : ∀ {x : V}, flatS x = true → PySem.W.kitOne K (.type (tyN x)) (.type "list") = some false
  | .non, _ => kit_ty (a := "NoneType") (b := "list") (by decide +kernel)
  | .bl b, _ => kit_ty (a := "bool") (b := "list") (by decide +kernel)
  | .int i, _ => kit_ty (a := "int") (b := "list") (by decide +kernel)
  | .str z, _ => kit_ty (a := "str") (b := "list") (by decide +kernel)
  | .byt _, h => by cases h
  | .flt _, h => by cases h
  | .ref _, h => by cases h
  | .ty _, h => by cases h
theorem kit_bool {K : PySem.W.Frag} : ∀ {x : V}, flatS x = true → ∃ b, PySem.W.kitOne K (.type (tyN x)) (.type "bool") = some b
  | .non, _ => ⟨false, kit_ty (a := "NoneType") (b := "bool") (by decide +kernel)⟩
  | .bl b, _ => ⟨true, kit_ty (a := "bool") (b := "bool") (by decide +kernel)⟩
  | .int i, _ => ⟨false, kit_ty (a := "int") (b := "bool") (by decide +kernel)⟩
  | .str z, _ => ⟨false, kit_ty (a := "str") (b := "bool") (by decide +kernel)⟩
  | .byt _, h => by cases h
  | .flt _, h => by cases h
  | .ref _, h => by cases h
  | .ty _, h => by cases h
theorem scal_flat : ∀ {x : V}, flatS x = true → scal x x = true
  | .non, _ => rfl
  | .bl b, _ => rfl
  | .int i, _ => rfl
  | .str z, _ => rfl
  | .byt _, h => by cases h
  | .flt _, h => by cases h
  | .ref _, h => by cases h
  | .ty _, h => by cases h
theorem kit_any_flat {K : PySem.W.Frag} {x : V} (h : flatS x = true) : PySem.W.kitAny K (.type (tyN x)) [.type "tuple", .type "list"] = some false :=
  kitAny_cons (kit_tup h) (fun _ => kitAny_cons (kit_lst h) (fun _ => kitAny_nil) fun z => by cases z) fun z => by cases z
theorem decB (b : Bool) : decide (V.bl b = V.bl b) = true := decide_eq_true rfl
theorem trues : ∀ n : Nat, (List.replicate n true).all id = true
  | 0 => rfl
  | n + 1 => trues n
section
variable {P : Program} {w : World} {K : PySem.W.Frag} {mg : Str → Option Value} {base : Heap}
theorem ok__law_like {f : Addr} {fd : FuncData} (F : Def K mg "_law_like" s__law_like f fd) (b : Binds K fd ["_law_found", "_law_due"] []) (T : Txt mg) : ∀ n, Cal P w K mg base n "_law_like" (spLike n) []
  | 0 => ⟨f, fd, ["_law_found", "_law_due"], [], ⟨fun _ _ _ _ h => h.elim, fun _ _ _ _ _ _ _ _ _ _ _ _ _ h => h.elim⟩, F.mgf, F.kp, b, .nil⟩
  | n + 1 => by
    have c__law_like := ok__law_like F b T n
    refine cal0 F b .nil sc__law_like (fun vs H Q E h => ?_) (fun cdv A outer s H vs Q E hr h => ?_)
    · obtain ⟨x, y, rfl, _⟩ := h
      rfl
    obtain ⟨x, y, rfl, ha, q⟩ := h
    have hle : n ≤ n := Nat.le_refl n
    refine ⟨_, pss_cons (ps_if (PW.pt (pw_or (pt_cmpR op_ne (pe_callB call_isi (by rfl) T.isinstance (by decide +kernel) (pa_cons (pv 1) (pa_cons (pe_bltn (v := .ty "tuple") (by rfl) T.tuple (by decide +kernel) rfl) pa_nil))) (pe_callB call_isi (by rfl) T.isinstance (by decide +kernel) (pa_cons (pv 0) (pa_cons (pe_bltn (v := .ty "tuple") (by rfl) T.tuple (by decide +kernel) rfl) pa_nil))) (nomark _)) (pw_or1 (pt_cmpR op_ne (pe_callB call_isi (by rfl) T.isinstance (by decide +kernel) (pa_cons (pv 1) (pa_cons (pe_bltn (v := .ty "list") (by rfl) T.list (by decide +kernel) rfl) pa_nil))) (pe_callB call_isi (by rfl) T.isinstance (by decide +kernel) (pa_cons (pv 0) (pa_cons (pe_bltn (v := .ty "list") (by rfl) T.list (by decide +kernel) rfl) pa_nil))) (nomark _)))))
      (pss_one (ps_ret pe_bl))
      (pss_nil))
    (pss_cons (ps_if (pt_not (pt_val (pe_callB call_isiT (by rfl) T.isinstance (by decide +kernel) (pa_cons (pv 1) (pa_cons (pe_tup (pa_cons (pe_bltn (v := .ty "tuple") (by rfl) T.tuple (by decide +kernel) rfl) (pa_cons (pe_bltn (v := .ty "list") (by rfl) T.list (by decide +kernel) rfl) pa_nil))) pa_nil)))))
      (pss_one (ps_ret (pe_and (pe_cmpR op_eq (pe_callB call_isi (by rfl) T.isinstance (by decide +kernel) (pa_cons (pv 0) (pa_cons (pe_bltn (v := .ty "bool") (by rfl) T.bool (by decide +kernel) rfl) pa_nil))) (pe_callB call_isi (by rfl) T.isinstance (by decide +kernel) (pa_cons (pv 1) (pa_cons (pe_bltn (v := .ty "bool") (by rfl) T.bool (by decide +kernel) rfl) pa_nil))) (nomark _)) (pe_one (pe_cmpR op_eq (pv 0) (pv 1) (nomark _))))))
      (pss_nil))
    (pss_one (ps_ret (pe_and (pe_cmpR op_eq (pe_callB call_len (by rfl) T.len (by decide +kernel) (pa_cons (pv 0) pa_nil)) (pe_callB call_len (by rfl) T.len (by decide +kernel) (pa_cons (pv 1) pa_nil)) (nomark _)) (pe_one (pe_callB (cr_all rfl) (by rfl) T.all (by decide +kernel) (pa_cons (pe_lc (own := [("_law_k", 2)]) (g := gName 2) (by rfl) sc__law_like.nd (pi_range1 rfl T.range (pa_cons (pe_callB call_len (by rfl) T.len (by decide +kernel) (pa_cons (pv 1) pa_nil)) pa_nil)) (blkOk_by (own := [("_law_k", 2)]) (N := N__law_like) (sc := fnScope s__law_like) (by decide +kernel)) (fun _ _ _ _ _ => pg_name (i := 2) sc__law_like.nd rfl (Or.inl rfl)) (fun _ _ _ _ _ => pts_nil) (fun _ _ _ _ _ => (pe_c c__law_like hr (by first | decide | assumption | omega) rfl (pa_cons (pe_ix (show IxR _ (rIx K) from ix_seq) (pv 0) (pv 2) (fun _ _ => rfl)) (pa_cons (pe_ix (show IxR _ (rIx K) from ix_seq) (pv 1) (pv 2) (fun _ _ => rfl)) pa_nil))))) pa_nil))))))), ?_⟩
    have flatP : x = y → flatS x = true → PySem.W.kitAny K (.type (tyN x)) [.type "tuple", .type "list"] = some false := fun _ fx => kit_any_flat fx
    have hcase : (x = y ∧ flatS x = true) ∨ ∃ (m : Nat) (a b' : Addr) (xs ys : List V), n = m + 1 ∧ x = .ref a ∧ y = .ref b' ∧ ((H a = some (.lst xs) ∧ H b' = some (.lst ys)) ∨ (H a = some (.tup xs) ∧ H b' = some (.tup ys))) ∧
        xs.length = ys.length ∧ xs.length ≤ 10000 ∧ ∀ (i : Nat) (u v : V), xs[i]? = some u → ys[i]? = some v → Alike m H u v := by
      cases n with
      | zero => exact .inl ha
      | succ m =>
        rcases ha with h | ⟨a, b', xs, ys, h⟩
        · exact .inl h
        · exact .inr ⟨m, a, b', xs, ys, rfl, h⟩
    rcases hcase with ⟨e, fx⟩ | ⟨m, a, b', xs, ys, rfl, rfl, rfl, hH, hlen, hsz, hel⟩
    · subst e
      have T1 := tyX_flat (K := K) (H := H) fx
      obtain ⟨kb, hk⟩ := kit_bool (K := K) fx
      refine ⟨_, rfl, x, _, _, _, _, rfl, .ty _, T1, kit_tup fx, _, rfl, x, _, _, _, _, rfl, .ty _, T1, kit_tup fx, rfl, _, rfl, ?_⟩
      rw [decB]
      refine iteF ⟨_, rfl, x, _, _, _, _, rfl, .ty _, T1, kit_lst fx, _, rfl, x, _, _, _, _, rfl, .ty _, T1, kit_lst fx, rfl, _, rfl, ?_⟩
      rw [decB]
      refine iteF ⟨_, rfl, (by show 2 ≤ sizeLine; decide), fun tp htp => ?_⟩
      have s1 := same_new htp (HO.tup [.ty "tuple", .ty "list"])
      refine ⟨x, tp, _, _, [.type "tuple", .type "list"], false, rfl, upd_same, .cons (.ty _) (.cons (.ty _) .nil), tyX_flat fx, kit_any_flat fx, _, rfl, iteT ?_⟩
      refine ⟨_, rfl, x, _, _, _, _, rfl, .ty _, tyX_flat fx, hk, _, rfl, x, _, _, _, _, rfl, .ty _, tyX_flat fx, hk, by cases kb <;> rfl, _, rfl, ?_⟩
      rw [decB]
      refine iteT ⟨_, rfl, _, rfl, scal_flat fx, ?_⟩
      rw [decide_eq_true (rfl : x = x)]
      exact q _ s1
    · obtain ⟨kn, bt, bl, k1, k2, k3, tyA, tyB, isS⟩ : ∃ (kn : String) (bt bl : Bool), PySem.W.kitOne K (.type kn) (.type "tuple") = some bt ∧ PySem.W.kitOne K (.type kn) (.type "list") = some bl ∧ PySem.W.kitAny K (.type kn) [.type "tuple", .type "list"] = some true ∧
          (∀ H', Same H H' → TyX K H' (.ref a) (.type kn)) ∧ (∀ H', Same H H' → TyX K H' (.ref b') (.type kn)) ∧ (∀ H', Same H H' → ((SqL K H' a xs ∧ SqL K H' b' ys) ∨ (SqT K H' a xs ∧ SqT K H' b' ys))) := by
        rcases hH with ⟨h1, h2⟩ | ⟨h1, h2⟩
        · refine ⟨"list", false, true, kit_ty (by decide +kernel), kit_ty (by decide +kernel), ?_, fun H' e => .base (.lst (e _ _ h1)), fun H' e => .base (.lst (e _ _ h2)), fun H' e => .inl ⟨SqL.of (e _ _ h1), SqL.of (e _ _ h2)⟩⟩
          exact kitAny_cons (kit_ty (r := false) (by decide +kernel)) (fun _ => kitAny_cons (kit_ty (r := true) (by decide +kernel)) (fun z => by cases z) fun _ => rfl) fun z => by cases z
        · refine ⟨"tuple", true, false, kit_ty (by decide +kernel), kit_ty (by decide +kernel), ?_, fun H' e => .base (.tup (e _ _ h1)), fun H' e => .base (.tup (e _ _ h2)), fun H' e => .inr ⟨SqT.of (e _ _ h1), SqT.of (e _ _ h2)⟩⟩
          exact kitAny_cons (kit_ty (r := true) (by decide +kernel)) (fun z => by cases z) fun _ => rfl
      have r0 := Same.refl H
      refine ⟨_, rfl, _, _, _, _, _, rfl, .ty _, tyB H r0, k1, _, rfl, _, _, _, _, _, rfl, .ty _, tyA H r0, k1, by cases bt <;> rfl, _, rfl, ?_⟩
      rw [decB]
      refine iteF ⟨_, rfl, _, _, _, _, _, rfl, .ty _, tyB H r0, k2, _, rfl, _, _, _, _, _, rfl, .ty _, tyA H r0, k2, by cases bl <;> rfl, _, rfl, ?_⟩
      rw [decB]
      refine iteF ⟨_, rfl, (by show 2 ≤ sizeLine; decide), fun tp htp => ?_⟩
      have s1 := same_new htp (HO.tup [.ty "tuple", .ty "list"])
      refine ⟨_, tp, _, _, [.type "tuple", .type "list"], true, rfl, upd_same, .cons (.ty _) (.cons (.ty _) .nil), tyB _ s1, k3, _, rfl, iteF ?_⟩
      have lenA : LenV K (.ref a) (upd H tp (.tup [.ty "tuple", .ty "list"])) xs.length := by
        rcases isS _ s1 with ⟨h1, h2⟩ | ⟨h1, h2⟩
        · exact .inl ⟨_, h1, rfl⟩
        · exact .inr ⟨_, h1, rfl⟩
      have lenB : LenV K (.ref b') (upd H tp (.tup [.ty "tuple", .ty "list"])) ys.length := by
        rcases isS _ s1 with ⟨h1, h2⟩ | ⟨h1, h2⟩
        · exact .inl ⟨_, h2, rfl⟩
        · exact .inr ⟨_, h2, rfl⟩
      refine ⟨_, rfl, _, _, rfl, lenA, _, rfl, _, _, rfl, lenB, rfl, _, rfl, ?_⟩
      rw [decide_eq_true (show V.int (xs.length : Int) = V.int (ys.length : Int) by rw [hlen])]
      refine iteT ⟨_, rfl, _, _, rfl, lenB, _, rfl, by omega, by omega, fun D hD => ?_⟩
      refine lc_range (lo := 0) (n := (ys.length : Int).toNat) (fun i H2 => Same H H2 ∧ H2 D = some (.lst ((List.replicate i true).map V.bl))) ⟨s1.trans (same_new hD _), upd_same⟩ ?_ ?_
      · rintro i H2 hi ⟨hs, hd⟩
        have e0 : (0 : Int) + (i : Int) = (i : Int) := Int.zero_add _
        rw [e0]
        have hix : i < xs.length := by omega
        have hiy : i < ys.length := by omega
        have ax : atI xs (i : Int) = some xs[i] := atI_nat (List.getElem?_eq_getElem hix)
        have ay : atI ys (i : Int) = some ys[i] := atI_nat (List.getElem?_eq_getElem hiy)
        have hA := Alike.mono hs (hel i xs[i] ys[i] (List.getElem?_eq_getElem hix) (List.getElem?_eq_getElem hiy))
        have fin : ∀ H3, Same H2 H3 → ∃ acc, H3 D = some (.lst acc) ∧ acc.length < sizeLine ∧ Same H (upd H3 D (.lst (acc ++ [V.bl true]))) ∧ (upd H3 D (.lst (acc ++ [V.bl true]))) D = some (.lst ((List.replicate (i + 1) true).map V.bl)) := fun H3 s3 => by
          refine ⟨_, s3 _ _ hd, ?_, same_mut (hs.trans s3) (Same.free s1 hD), ?_⟩
          · rw [List.length_map, List.length_replicate]
            exact Nat.lt_of_lt_of_le (show i < 20000 by omega) (by decide)
          · rw [upd_same, List.replicate_succ']
            simp
        rcases isS _ hs with ⟨h1, h2⟩ | ⟨h1, h2⟩
        · exact ⟨rfl, _, rfl, _, rfl, .inl ⟨_, _, _, _, rfl, rfl, h1, ax, _, rfl, _, rfl, .inl ⟨_, _, _, _, rfl, rfl, h2, ay, _, _, rfl, hA, fin⟩⟩⟩
        · exact ⟨rfl, _, rfl, _, rfl, .inr (.inl ⟨_, _, _, _, rfl, rfl, h1, ax, _, rfl, _, rfl, .inr (.inl ⟨_, _, _, _, rfl, rfl, h2, ay, _, _, rfl, hA, fin⟩)⟩)⟩
      · rintro H2 ⟨hs, hd⟩
        refine ⟨D, _, rfl, SqL.of hd, ?_⟩
        rw [trues]
        exact q H2 hs
end
end My
namespace My
open PySem L2 SX C8
section
variable {P : Program} {w : World} {K : PySem.W.Frag} {mg : Str → Option Value} {base : Heap}
theorem ok_refuse_long {f : Addr} {fd : FuncData} (F : Def K mg "refuse_long" s_refuse_long f fd) (b : Binds K fd ["text"] []) (T : Txt mg) : Cal P w K mg base 1 "refuse_long" spRefuse [] := by
  refine cal0 F b .nil sc_refuse_long (fun vs H Q E h => ?_) (fun cdv A outer s H vs Q E hr h => ?_)
  · obtain ⟨l, rfl, _⟩ := h
    rfl
  obtain ⟨l, rfl, hl, q⟩ := h
  refine ⟨_, pss_one (ps_if (pt_cmpR op_gt (pe_callB call_len (by rfl) T.len (by decide +kernel) (pa_cons (pv 0) pa_nil)) (pe_gc rfl T.g_LONGEST) (nomark _))
      (pss_one (ps_never))
      (pss_nil)), ?_⟩
  refine ⟨_, rfl, _, _, rfl, ⟨size_S (by omega), rfl⟩, _, _, rfl, rfl, _, rfl, ?_⟩
  refine iteD (fun e => ?_) (fun _ => q)
  rw [S_len] at e
  omega
theorem ok_meant {f : Addr} {fd : FuncData} (F : Def K mg "meant" s_meant f fd) (b : Binds K fd ["sign"] []) (T : Txt mg) : Cal P w K mg base 1 "meant" spMean [] := by
  refine cal0 F b .nil sc_meant (fun vs H Q E h => ?_) (fun cdv A outer s H vs Q E hr h => ?_)
  · obtain ⟨l, rfl, _⟩ := h
    rfl
  obtain ⟨c, rfl, q⟩ := h
  refine ⟨_, pss_cons (ps_if (pt_cmpR op_eq (pv 0) pe_str (nomark _))
      (pss_one (ps_ret pe_str))
      (pss_nil))
    (pss_one (ps_ret (pv 0))), ?_⟩
  unfold mean at q
  refine ⟨_, rfl, rfl, _, rfl, ite_S lit_n (fun e1 => ?_) (fun n1 => ?_)⟩
  · rw [if_pos (List.head_eq_of_cons_eq e1), ← lit_nl] at q
    exact q
  · rw [if_neg (fun e => n1 (by rw [e]))] at q
    exact ⟨_, rfl, q⟩
end
end My
namespace My
open PySem L2 SX C8
section
variable {P : Program} {w : World} {K : PySem.W.Frag} {mg : Str → Option Value} {base : Heap}
theorem ok_behind_white {f : Addr} {fd : FuncData} (F : Def K mg "behind_white" s_behind_white f fd) (b : Binds K fd ["text", "start"] []) (T : Txt mg) : Cal P w K mg base 1 "behind_white" spBehind [] := by
  refine cal0 F b .nil sc_behind_white (fun vs H Q E h => ?_) (fun cdv A outer s H vs Q E hr h => ?_)
  · obtain ⟨l, i, rfl, _⟩ := h
    rfl
  obtain ⟨l, i, rfl, hl, hi, q⟩ := h
  refine ⟨_, pss_cons (ps_set (i := 2) sc_behind_white.nd rfl (Or.inl rfl) (pv 1))
    (pss_cons (ps_while PassesOwn.never (PW.pt (pw_and (pt_cmpR op_lt (pv 2) (pe_callB call_len (by rfl) T.len (by decide +kernel) (pa_cons (pv 0) pa_nil)) (nomark _)) (pw_and1 (pt_cmpR op_in_sign (pe_ix ix_str (pv 0) (pv 2) (fun _ _ => rfl)) (pe_gc rfl T.g_WHITE) rfl))))
      (pss_one (ps_aug (i := 2) sc_behind_white.nd rfl (Or.inl rfl) pe_int ip_add)))
    (pss_one (ps_ret (pv 2)))), ?_⟩
  have hz : (S l).length ≤ sizeLine := size_S (by omega)
  refine ⟨_, rfl, fun m σ H2 => ∃ k : Nat, σ = [some (.str (S l)), some (.int (i : Int)), some (.int ((i + k : Nat) : Int))] ∧ H2 = H ∧ m = l.length - (i + k) ∧ i + k ≤ l.length ∧ k + skipW (l.drop (i + k)) = skipW (l.drop i), ⟨_, 0, rfl, rfl, rfl, hi, by simp⟩, ?_⟩
  rintro m σ H2 ⟨k, rfl, rfl, rfl, hk, e⟩
  refine ⟨_, rfl, _, rfl, _, _, rfl, ⟨hz, rfl⟩, _, _, rfl, rfl, _, rfl, iteD (fun lt => ?_) (fun nlt => iteF ?_)⟩
  · rw [S_len] at lt
    have hlt : i + k < l.length := by omega
    have hd := List.drop_eq_getElem_cons hlt
    refine ⟨_, rfl, _, rfl, _, _, _, rfl, rfl, hz, atS' hlt, l[i + k], _, rfl, rfl, _, rfl, ?_⟩
    rw [lit_white]
    refine iteD (fun hw => ?_) (fun nw => ?_)
    · have hw' : White l[i + k] := (mem_white _).mp hw
      have e2 : skipW (l.drop (i + k)) = skipW (l.drop (i + (k + 1))) + 1 := by rw [hd, skipW, if_pos hw', Nat.add_assoc]
      refine ⟨fun σ' H' => ∃ m', m' < l.length - (i + k) ∧ ∃ k : Nat, σ' = [some (.str (S l)), some (.int (i : Int)), some (.int ((i + k : Nat) : Int))] ∧ H' = H2 ∧ m' = l.length - (i + k) ∧ i + k ≤ l.length ∧ k + skipW (l.drop (i + k)) = skipW (l.drop i), fun _ _ h => h, ?_⟩
      refine ⟨_, rfl, _, _, rfl, rfl, l.length - (i + (k + 1)), by omega, k + 1, ?_, rfl, rfl, by omega, by omega⟩
      have e3 : (((i + k : Nat) : Int) + 1) = ((i + (k + 1) : Nat) : Int) := by omega
      rw [← e3]
      rfl
    · have nw' : ¬ White l[i + k] := fun h => nw ((mem_white _).mpr h)
      have e2 : skipW (l.drop (i + k)) = 0 := by rw [hd, skipW, if_neg nw']
      refine ⟨_, rfl, ?_⟩
      have e3 : skipW (l.drop i) = k := by omega
      rw [e3] at q
      exact q
  · rw [S_len] at nlt
    have e2 : skipW (l.drop (i + k)) = 0 := by rw [List.drop_eq_nil_of_le (by omega)]; rfl
    refine ⟨_, rfl, ?_⟩
    have e3 : skipW (l.drop i) = k := by omega
    rw [e3] at q
    exact q
theorem ok_read_braced {f : Addr} {fd : FuncData} (F : Def K mg "read_braced" s_read_braced f fd) (b : Binds K fd ["text", "start"] []) (T : Txt mg) (c_pair_end : Cal P w K mg base 1 "pair_end" spPend []) : Cal P w K mg base 2 "read_braced" spBraced [] := by
  refine cal0 F b .nil sc_read_braced (fun vs H Q E h => ?_) (fun cdv A outer s H vs Q E hr h => ?_)
  · obtain ⟨l, i, e, rfl, _⟩ := h
    rfl
  obtain ⟨l, i, e, rfl, hl, hi, he, he1, hw, q⟩ := h
  refine ⟨_, pss_cons (ps_set (i := 2) sc_read_braced.nd rfl (Or.inl rfl) (pe_c c_pair_end hr (by first | decide | assumption | omega) rfl (pa_cons (pv 0) (pa_cons (pv 1) pa_nil))))
    (pss_cons (ps_if (pt_cmpR op_isN (pv 2) pe_non (nomark _))
      (pss_one (ps_never))
      (pss_nil))
    (pss_cons (ps_set (i := 3) sc_read_braced.nd rfl (Or.inl rfl) (pe_op op_add (pv 2) pe_int))
    (pss_cons (ps_if (PW.pt (pw_and (pt_cmpR op_lt (pv 3) (pe_callB call_len (by rfl) T.len (by decide +kernel) (pa_cons (pv 0) pa_nil)) (nomark _)) (pw_and1 (pt_cmpR op_notIn_sign (pe_ix ix_str (pv 0) (pv 3) (fun _ _ => rfl)) (pe_gc rfl T.g_WHITE) rfl))))
      (pss_one (ps_never))
      (pss_nil))
    (pss_one (ps_ret (pe_tup (pa_cons (pe_slice sl_str (pv 0) (po_some (pe_op op_add (pv 1) pe_int)) (po_some (pv 2))) (pa_cons (pv 3) pa_nil)))))))), ?_⟩
  have hz : (S l).length ≤ sizeLine := size_S (by omega)
  have hlt := pend_lt _ _ _ _ he
  rw [List.length_drop] at hlt
  refine ⟨_, rfl, _, rfl, l, i, rfl, by omega, by omega, ?_⟩
  rw [pend_i he]
  refine ⟨_, rfl, rfl, _, rfl, iteF ?_⟩
  refine ⟨_, rfl, _, _, rfl, rfl, ?_⟩
  have e1 : (((i + e : Nat) : Int) + 1) = ((i + (e + 1) : Nat) : Int) := by omega
  have fin : ∀ σ, σ = [some (.str (S l)), some (.int (i : Int)), some (.int ((i + e : Nat) : Int)), some (.int (((i + e : Nat) : Int) + 1))] → tRet (tTup (tCons (tSl rSlS (tVar 0) (tPart (tOp (rI0 fun i j => V.int (i + j)) (tVar 1) (tC (V.int 1)))) (tPart (tVar 2))) (tCons (tVar 3) tNil))) { nx := fun _ H' => Q .non H', rt := Q } σ H := by
    rintro σ rfl
    refine ⟨_, rfl, _, rfl, _, _, rfl, rfl, _, rfl, _, rfl, _, rfl, _, rfl, hz, _, rfl, (by show 2 ≤ sizeLine; decide), fun p hp => ?_⟩
    have e2 : ((i : Int) + 1) = ((i + 1 : Nat) : Int) := by omega
    rw [e2, slice_nn l (i + 1) (i + e) (by omega) (by omega), e1]
    refine q p _ (same_new hp _) hp ?_
    rw [upd_same, List.drop_drop, show i + e - (i + 1) = e - 1 by omega]
  refine ⟨_, rfl, _, rfl, _, _, rfl, ⟨hz, rfl⟩, _, _, rfl, rfl, _, rfl, iteD (fun lt => ?_) (fun nlt => iteF (fin _ rfl))⟩
  rw [S_len] at lt
  have hlt2 : i + (e + 1) < l.length := by omega
  have ha : atI (S l).cps.toList (((i + e : Nat) : Int) + 1) = some l[i + (e + 1)] := by rw [e1]; exact atS' hlt2
  refine ⟨_, rfl, _, rfl, _, _, _, rfl, rfl, hz, ha, l[i + (e + 1)], _, rfl, rfl, _, rfl, ?_⟩
  rw [lit_white]
  refine iteN (fun nw => ?_) (fun _ => fin _ rfl)
  rw [List.drop_drop, List.drop_eq_getElem_cons hlt2] at hw
  exact absurd ((mem_white _).mpr hw) nw
theorem ok_read_bare {f : Addr} {fd : FuncData} (F : Def K mg "read_bare" s_read_bare f fd) (b : Binds K fd ["text", "start"] []) (T : Txt mg) (c_meant : Cal P w K mg base 1 "meant" spMean []) : Cal P w K mg base 2 "read_bare" spBare [] := by
  refine cal0 F b .nil sc_read_bare (fun vs H Q E h => ?_) (fun cdv A outer s H vs Q E hr h => ?_)
  · obtain ⟨l, i, w, n, rfl, _⟩ := h
    rfl
  obtain ⟨l, i, w, n, rfl, hl, hi, hrd, q⟩ := h
  refine ⟨_, pss_cons (ps_set (i := 2) sc_read_bare.nd rfl (Or.inl rfl) (pe_lst pa_nil))
    (pss_cons (ps_set (i := 3) sc_read_bare.nd rfl (Or.inl rfl) (pv 1))
    (pss_cons (ps_while PassesOwn.never (PW.pt (pw_and (pt_cmpR op_lt (pv 3) (pe_callB call_len (by rfl) T.len (by decide +kernel) (pa_cons (pv 0) pa_nil)) (nomark _)) (pw_and1 (pt_cmpR op_notIn_sign (pe_ix ix_str (pv 0) (pv 3) (fun _ _ => rfl)) (pe_gc rfl T.g_WHITE) rfl))))
      (pss_one (ps_if (pt_cmpR op_ne (pe_ix ix_str (pv 0) (pv 3) (fun _ _ => rfl)) (pe_gc rfl T.g_TURN) (nomark _))
        (pss_cons (ps_expr (pe_bm PySem.F.plainAttrs_list PySem.F.slot_list_append PySem.F.type_list_append mt_append (pv 2) (pa_cons (pe_ix ix_str (pv 0) (pv 3) (fun _ _ => rfl)) pa_nil)))
        (pss_one (ps_aug (i := 3) sc_read_bare.nd rfl (Or.inl rfl) pe_int ip_add)))
        (pss_one (ps_if (pt_cmpR op_lt (pe_op op_add (pv 3) pe_int) (pe_callB call_len (by rfl) T.len (by decide +kernel) (pa_cons (pv 0) pa_nil)) (nomark _))
          (pss_cons (ps_expr (pe_bm PySem.F.plainAttrs_list PySem.F.slot_list_append PySem.F.type_list_append mt_append (pv 2) (pa_cons (pe_c c_meant hr (by first | decide | assumption | omega) rfl (pa_cons (pe_ix ix_str (pv 0) (pe_op op_add (pv 3) pe_int) (fun _ _ => rfl)) pa_nil)) pa_nil)))
          (pss_one (ps_aug (i := 3) sc_read_bare.nd rfl (Or.inl rfl) pe_int ip_add)))
          (pss_one (ps_never)))))))
    (pss_one (ps_ret (pe_tup (pa_cons (pe_join pe_str (pv 2)) (pa_cons (pv 3) pa_nil))))))), ?_⟩
  have hz : (S l).length ≤ sizeLine := size_S (by omega)
  refine ⟨(by show 0 ≤ sizeLine; decide), fun p hp => ⟨_, rfl, ?_⟩⟩
  let W : Nat → L2.St → Hp → Prop := fun m σ H2 => ∃ (k : Nat) (acc : List Nat), σ = [some (.str (S l)), some (.int (i : Int)), some (.ref p), some (.int ((i + k : Nat) : Int))] ∧ Same H H2 ∧ H2 p = some (.lst (txs (acc.map fun c => [c]))) ∧ m = l.length - (i + k) ∧ i + k ≤ l.length ∧ acc.length ≤ k ∧
    ∃ (w' : List Nat) (n' : Nat), rdBare (l.drop (i + k)) = some (w', n') ∧ acc ++ w' = w ∧ k + n' = n
  refine ⟨W, ⟨_, 0, [], rfl, same_new hp _, upd_same, rfl, hi, Nat.le_refl _, w, n, hrd, rfl, by omega⟩, ?_⟩
  rintro m σ H2 ⟨k, acc, rfl, hs, hd, rfl, hk, hacc, w', n', hr', hw, hn⟩
  have fin : w' = [] → n' = 0 → tRet (tTup (tCons (tM1 (fun x xs H Q => ∃ a p, ∃ ys : List Str, x = .str a ∧ xs = [.ref p] ∧ (SqL K H p (ys.map V.str) ∨ SqT K H p (ys.map V.str)) ∧ (ys.map (·.length)).sum + ys.length * a.length ≤ 16777216 ∧ Q (.str (Txt.join a ys)) H) (tC (.str (Str.ofString ""))) (tVar 2)) (tCons (tVar 3) tNil))) { nx := fun _ H' => Q .non H', rt := Q } [some (.str (S l)), some (.int (i : Int)), some (.ref p), some (.int ((i + k : Nat) : Int))] H2 := by
    rintro rfl rfl
    rw [List.append_nil] at hw
    subst hw
    rw [txs_map] at hd
    refine ⟨⟨_, rfl⟩, _, rfl, _, p, (acc.map fun c => [c]).map S, rfl, rfl, .inl (SqL.of hd), ?_, _, rfl, (by show 2 ≤ sizeLine; decide), fun p2 hp2 => ?_⟩
    · rw [lit_e]
      have e0 : (S ([] : List Nat)).length = 0 := rfl
      have e1 : ∀ u : List Nat, ((((u.map fun c => [c]).map S)).map (·.length)).sum = u.length := fun u => by
        induction u with
        | nil => rfl
        | cons c r ih => simp only [List.map_cons, List.sum_cons, ih, List.length_cons]; rw [S_len]; simp; omega
      rw [e0, Nat.mul_zero, e1]
      omega
    · have ef : ∀ u : List Nat, (u.map fun c => [c]).flatten = u := fun u => by
        induction u with
        | nil => rfl
        | cons c r ih => simp only [List.map_cons, List.flatten_cons, ih]; rfl
      rw [join0 lit_e, ef]
      have en : i + k = i + n := by omega
      rw [en]
      exact q p2 _ (hs.trans (same_new hp2 _)) (Same.free hs hp2) upd_same
  refine ⟨_, rfl, _, rfl, _, _, rfl, ⟨hz, rfl⟩, _, _, rfl, rfl, _, rfl, iteD (fun lt => ?_) (fun nlt => iteF ?_)⟩
  · rw [S_len] at lt
    have hlt : i + k < l.length := by omega
    have hdr := List.drop_eq_getElem_cons hlt
    rw [hdr] at hr'
    unfold rdBare at hr'
    refine ⟨_, rfl, _, rfl, _, _, _, rfl, rfl, hz, atS' hlt, l[i + k], _, rfl, rfl, _, rfl, ?_⟩
    rw [lit_white]
    refine iteN (fun nw => ?_) (fun hw2 => ?_)
    · have nw' : ¬ White l[i + k] := fun h => nw ((mem_white _).mpr h)
      rw [if_neg nw'] at hr'
      refine ⟨fun σ' H' => ∃ m', m' < l.length - (i + k) ∧ W m' σ' H', fun _ _ h => h, ?_⟩
      refine ⟨_, rfl, _, rfl, _, _, _, rfl, rfl, hz, atS' hlt, rfl, _, rfl, iteNS lit_bs (fun n92 => ?_) (fun e92 => ?_)⟩
      · have n92' : ¬ l[i + k] = 92 := fun h => n92 (by rw [h])
        rw [if_neg n92'] at hr'
        simp only [Option.map_eq_some_iff] at hr'
        obtain ⟨⟨w2, n2⟩, h3, h4⟩ := hr'
        cases h4
        refine ⟨_, rfl, .inl ⟨rfl, _, SqL.of hd⟩, _, rfl, _, rfl, _, _, _, rfl, rfl, hz, atS' hlt, p, _, _, rfl, rfl, hd, ?_, ?_⟩
        · rw [txs_len, List.length_map]
          exact Nat.lt_of_le_of_lt (show _ ≤ 2000 by omega) (by decide)
        · have e3 : (((i + k : Nat) : Int) + 1) = ((i + (k + 1) : Nat) : Int) := by omega
          refine ⟨_, rfl, _, _, rfl, rfl, l.length - (i + (k + 1)), by omega, k + 1, acc ++ [l[i + k]], by rw [← e3]; rfl, same_mut hs hp, ?_, rfl, by omega, by simp; omega, w2, n2, h3, by rw [List.append_assoc]; exact hw, by omega⟩
          rw [upd_same, List.map_append, ← txs_snoc]
          rfl
      · have e92' : l[i + k] = 92 := List.head_eq_of_cons_eq e92
        rw [if_pos e92'] at hr'
        refine ⟨_, rfl, _, _, rfl, rfl, _, rfl, _, _, rfl, ⟨hz, rfl⟩, _, _, rfl, rfl, _, rfl, iteD (fun lt2 => ?_) (fun nlt2 => ?_)⟩
        · rw [S_len] at lt2
          have hlt2 : i + k + 1 < l.length := by omega
          rw [List.drop_eq_getElem_cons hlt2] at hr'
          simp only [Option.map_eq_some_iff] at hr'
          obtain ⟨⟨w2, n2⟩, h3, h4⟩ := hr'
          cases h4
          have e4 : (((i + k : Nat) : Int) + 1) = ((i + k + 1 : Nat) : Int) := by omega
          have ha : atI (S l).cps.toList (((i + k : Nat) : Int) + 1) = some l[i + k + 1] := by rw [e4]; exact atS' hlt2
          refine ⟨_, rfl, .inl ⟨rfl, _, SqL.of hd⟩, _, rfl, _, rfl, _, _, rfl, rfl, _, _, _, rfl, rfl, hz, ha, l[i + k + 1], rfl, p, _, _, rfl, rfl, hd, ?_, ?_⟩
          · rw [txs_len, List.length_map]
            exact Nat.lt_of_le_of_lt (show _ ≤ 2000 by omega) (by decide)
          · have e3 : (((i + k : Nat) : Int) + 2) = ((i + (k + 2) : Nat) : Int) := by omega
            refine ⟨_, rfl, _, _, rfl, rfl, l.length - (i + (k + 2)), by omega, k + 2, acc ++ [mean l[i + k + 1]], by rw [← e3]; rfl, same_mut hs hp, ?_, rfl, by omega, by simp; omega, w2, n2, h3, by rw [List.append_assoc]; exact hw, by omega⟩
            rw [upd_same, List.map_append, ← txs_snoc]
            rfl
        · rw [S_len] at nlt2
          rw [List.drop_eq_nil_of_le (show l.length ≤ i + k + 1 by omega)] at hr'
          cases hr'
    · rw [if_pos ((mem_white _).mp hw2)] at hr'
      cases hr'
      exact fin rfl rfl
  · rw [S_len] at nlt
    rw [List.drop_eq_nil_of_le (by omega)] at hr'
    cases hr'
    exact fin rfl rfl
theorem ok_read_word {f : Addr} {fd : FuncData} (F : Def K mg "read_word" s_read_word f fd) (b : Binds K fd ["text", "start"] []) (T : Txt mg) (c_read_braced : Cal P w K mg base 2 "read_braced" spBraced []) (c_read_bare : Cal P w K mg base 2 "read_bare" spBare []) : Cal P w K mg base 3 "read_word" spWord [] := by
  refine cal0 F b .nil sc_read_word (fun vs H Q E h => ?_) (fun cdv A outer s H vs Q E hr h => ?_)
  · obtain ⟨l, i, w, n, rfl, _⟩ := h
    rfl
  obtain ⟨l, i, w, n, rfl, hl, hi, hrd, q⟩ := h
  refine ⟨_, pss_cons (ps_if (pt_cmpR op_eq (pe_ix ix_str (pv 0) (pv 1) (fun _ _ => rfl)) pe_str (nomark _))
      (pss_one (ps_ret (pe_c c_read_braced hr (by first | decide | assumption | omega) rfl (pa_cons (pv 0) (pa_cons (pv 1) pa_nil)))))
      (pss_nil))
    (pss_one (ps_ret (pe_c c_read_bare hr (by first | decide | assumption | omega) rfl (pa_cons (pv 0) (pa_cons (pv 1) pa_nil))))), ?_⟩
  have hz : (S l).length ≤ sizeLine := size_S (by omega)
  have hdr := List.drop_eq_getElem_cons hi
  refine ⟨_, rfl, _, rfl, _, _, _, rfl, rfl, hz, atS' hi, rfl, _, rfl, ite_S lit_ob (fun e1 => ?_) (fun n1 => ?_)⟩
  · have e1' : l[i] = 123 := List.head_eq_of_cons_eq e1
    generalize hL : l.drop i = L at hrd hdr
    cases hrd with
    | @braced r e h he =>
      have he1 : 1 ≤ e := by
        have := pend_lt r (0 + 1) (0 + 1) e (by simpa [pend] using h)
        omega
      refine ⟨_, rfl, _, rfl, l, i, e, rfl, hl, hi, by rw [hL]; exact h, he1, by rw [hL]; exact he, fun p H' s' n' h' => ?_⟩
      rw [hL] at h'
      exact q p H' s' n' h'
    | @bare c r w n h1 h2 h =>
      cases hdr
      exact absurd e1' h1
  · have n1' : l[i] ≠ 123 := fun h => n1 (by rw [h])
    generalize hL : l.drop i = L at hrd hdr
    cases hrd with
    | @braced r e h he =>
      rw [List.cons.injEq] at hdr
      exact absurd hdr.1.symm n1'
    | @bare c r w n h1 h2 h =>
      exact ⟨_, rfl, _, rfl, l, i, w, n, rfl, hl, by omega, by rw [hL]; exact h, q⟩
theorem ok_read_words {f : Addr} {fd : FuncData} (F : Def K mg "read_words" s_read_words f fd) (b : Binds K fd ["text"] []) (T : Txt mg) (c_behind_white : Cal P w K mg base 1 "behind_white" spBehind []) (c_read_word : Cal P w K mg base 3 "read_word" spWord []) : Cal P w K mg base 4 "read_words" spRead [] := by
  refine cal0 F b .nil sc_read_words (fun vs H Q E h => ?_) (fun cdv A outer s H vs Q E hr h => ?_)
  · obtain ⟨l, ws, rfl, _⟩ := h
    rfl
  obtain ⟨l, ws, rfl, hl, hrd, q⟩ := h
  refine ⟨_, pss_cons (ps_set (i := 1) sc_read_words.nd rfl (Or.inl rfl) (pe_lst pa_nil))
    (pss_cons (ps_set (i := 2) sc_read_words.nd rfl (Or.inl rfl) (pe_c c_behind_white hr (by first | decide | assumption | omega) rfl (pa_cons (pv 0) (pa_cons pe_int pa_nil))))
    (pss_cons (ps_while PassesOwn.never (pt_cmpR op_lt (pv 2) (pe_callB call_len (by rfl) T.len (by decide +kernel) (pa_cons (pv 0) pa_nil)) (nomark _))
      (pss_cons (ps_asg (pe_c c_read_word hr (by first | decide | assumption | omega) rfl (pa_cons (pv 0) (pa_cons (pv 2) pa_nil))) (pg_tup rfl (pgs_cons (pg_name (i := 3) sc_read_words.nd rfl (Or.inl rfl)) (pgs_cons (pg_name (i := 4) sc_read_words.nd rfl (Or.inl rfl)) pgs_nil))))
      (pss_cons (ps_expr (pe_bm PySem.F.plainAttrs_list PySem.F.slot_list_append PySem.F.type_list_append mt_append (pv 1) (pa_cons (pv 3) pa_nil)))
      (pss_one (ps_set (i := 2) sc_read_words.nd rfl (Or.inl rfl) (pe_c c_behind_white hr (by first | decide | assumption | omega) rfl (pa_cons (pv 0) (pa_cons (pv 4) pa_nil))))))))
    (pss_one (ps_ret (pv 1))))), ?_⟩
  have hz : (S l).length ≤ sizeLine := size_S (by omega)
  refine ⟨(by show 0 ≤ sizeLine; decide), fun p hp => ⟨_, rfl, l, 0, rfl, hl, Nat.zero_le _, ?_⟩⟩
  let W : Nat → L2.St → Hp → Prop := fun m σ H2 => ∃ (k : Nat) (acc vs : List (List Nat)) (x y : Option V), σ = [some (.str (S l)), some (.ref p), some (.int ((k + skipW (l.drop k) : Nat) : Int)), x, y] ∧ Same H H2 ∧ H2 p = some (.lst (txs acc)) ∧ m = l.length - k ∧ k ≤ l.length ∧ acc.length ≤ k ∧ Reads (l.drop k) vs ∧ acc ++ vs = ws
  refine ⟨W, ⟨_, 0, [], ws, none, none, by simp; rfl, same_new hp _, upd_same, rfl, Nat.zero_le _, Nat.le_refl _, hrd, rfl⟩, ?_⟩
  rintro m σ H2 ⟨k, acc, vs, x, y, rfl, hs, hd, rfl, hk, hacc, hv, hw⟩
  have hsk := skipW_le (l.drop k)
  rw [List.length_drop] at hsk
  refine ⟨_, rfl, _, rfl, _, _, rfl, ⟨hz, rfl⟩, _, _, rfl, rfl, _, rfl, iteD (fun lt => ?_) (fun nlt => ?_)⟩
  · rw [S_len] at lt
    have hlt : k + skipW (l.drop k) < l.length := by omega
    refine ⟨fun σ' H' => ∃ m', m' < l.length - k ∧ W m' σ' H', fun _ _ h => h, ?_⟩
    cases hv with
    | nil h =>
      rw [List.drop_drop, List.drop_eq_nil_iff] at h
      omega
    | @cons _ u n us h hn hr2 =>
      rw [List.drop_drop] at h
      rw [List.drop_drop, List.drop_drop, ← Nat.add_assoc] at hr2
      refine ⟨_, rfl, _, rfl, l, k + skipW (l.drop k), u, n, rfl, hl, hlt, h, fun t H3 s3 ht h3 => ?_⟩
      have hn2 : k + skipW (l.drop k) + n ≤ l.length := by
        have := rdWord_le h
        rw [List.length_drop] at this
        omega
      refine ⟨t, _, rfl, SqT.of h3, rfl, _, _, rfl, _, _, rfl, rfl, ?_⟩
      have hp3 := s3 _ _ hd
      refine ⟨_, rfl, .inl ⟨rfl, _, SqL.of hp3⟩, _, rfl, p, _, _, rfl, rfl, hp3, ?_, ?_⟩
      · rw [txs_len]
        exact Nat.lt_of_le_of_lt (show _ ≤ 2000 by omega) (by decide)
      · refine ⟨_, rfl, _, rfl, l, k + skipW (l.drop k) + n, rfl, hl, hn2, ?_⟩
        exact ⟨l.length - (k + skipW (l.drop k) + n), by omega, k + skipW (l.drop k) + n, acc ++ [u], us, _, _, rfl, same_mut (hs.trans s3) hp, by rw [upd_same, txs_snoc], rfl, hn2, by simp; omega, hr2, by rw [List.append_assoc]; exact hw⟩
  · rw [S_len] at nlt
    refine ⟨_, rfl, ?_⟩
    cases hv with
    | nil h =>
      rw [List.append_nil] at hw
      subst hw
      exact q p H2 hs hp hd
    | @cons _ u n us h hn hr2 =>
      rw [List.drop_drop, List.drop_eq_nil_of_le (by omega)] at h
      cases h
theorem ok_read_list {f : Addr} {fd : FuncData} (F : Def K mg "read_list" s_read_list f fd) (b : Binds K fd ["text"] []) (T : Txt mg) (c_refuse_long : Cal P w K mg base 1 "refuse_long" spRefuse []) (c_read_words : Cal P w K mg base 4 "read_words" spRead []) : Cal P w K mg base 5 "read_list" spRead [] := by
  refine cal0 F b .nil sc_read_list (fun vs H Q E h => ?_) (fun cdv A outer s H vs Q E hr h => ?_)
  · obtain ⟨l, ws, rfl, _⟩ := h
    rfl
  obtain ⟨l, ws, rfl, hl, hrd, q⟩ := h
  refine ⟨_, pss_cons (ps_expr (pe_c c_refuse_long hr (by first | decide | assumption | omega) rfl (pa_cons (pv 0) pa_nil)))
    (pss_one (ps_ret (pe_c c_read_words hr (by first | decide | assumption | omega) rfl (pa_cons (pv 0) pa_nil)))), ?_⟩
  exact ⟨_, rfl, l, rfl, hl, _, rfl, l, ws, rfl, hl, hrd, q⟩
end
end My
namespace My
open PySem L2 SX C8
theorem lit_sp : (Str.ofString " ") = S [32] := by decide +kernel
/-- ' '.join of written words: the list that the comprehension has made -/
theorem join_words {ws : List (List Nat)} : Txt.join (Str.ofString " ") ((ws.map wtext).map S) = S (ltext ws) := by
  rw [lit_sp, join_S]
  rfl
theorem sum_le {k : Nat} : ∀ (ws : List (List Nat)), (∀ w ∈ ws, w.length ≤ k) → (((ws.map wtext).map S).map (·.length)).sum ≤ ws.length * (2 * k + 2)
  | [], _ => by simp
  | w :: r, h => by
    have ih := sum_le r fun x hx => h x (List.mem_cons_of_mem _ hx)
    have h1 := wtext_len w
    have h2 := h w List.mem_cons_self
    have e : (w :: r).length * (2 * k + 2) = r.length * (2 * k + 2) + (2 * k + 2) := by rw [List.length_cons, Nat.succ_mul]
    have e2 : (S (wtext w)).length = (wtext w).length := S_len _
    rw [e]
    simp only [List.map_cons, List.sum_cons]
    omega
section
variable {P : Program} {w : World} {K : PySem.W.Frag} {mg : Str → Option Value} {base : Heap}
theorem join_ok {H : Hp} {D : Addr} {ws : List (List Nat)} {Q : VK} (hl : ws.length ≤ 100) (hw : ∀ w ∈ ws, w.length ≤ 1000) (hd : H D = some (.lst (txs (ws.map wtext)))) (q : Q (.str (S (ltext ws))) H) :
    ∃ a p, ∃ ys : List Str, V.str (Str.ofString " ") = .str a ∧ [V.ref D] = [.ref p] ∧ (SqL K H p (ys.map V.str) ∨ SqT K H p (ys.map V.str)) ∧ (ys.map (·.length)).sum + ys.length * a.length ≤ 16777216 ∧ Q (.str (Txt.join a ys)) H := by
  rw [txs_map] at hd
  refine ⟨_, D, (ws.map wtext).map S, rfl, rfl, .inl (SqL.of hd), ?_, by rw [join_words]; exact q⟩
  have h1 := sum_le ws hw
  have h2 : ws.length * (2 * 1000 + 2) ≤ 100 * (2 * 1000 + 2) := Nat.mul_le_mul_right _ hl
  have h3 : (Str.ofString " ").length = 1 := by rw [lit_sp, S_len]; rfl
  rw [h3]
  simp only [List.length_map]
  omega
end
end My
namespace My
open PySem L2 SX C8
section
variable {P : Program} {w : World} {K : PySem.W.Frag} {mg : Str → Option Value} {base : Heap}
theorem ok_list_text {f : Addr} {fd : FuncData} (F : Def K mg "list_text" s_list_text f fd) (b : Binds K fd ["words"] []) (T : Txt mg) (c_word_text : Cal P w K mg base 3 "word_text" spWtext []) : Cal P w K mg base 4 "list_text" (spLtext K) [] := by
  refine cal0 F b .nil sc_list_text (fun vs H Q E h => ?_) (fun cdv A outer s H vs Q E hr h => ?_)
  · obtain ⟨a, ws, rfl, _⟩ := h
    rfl
  obtain ⟨a, ws, rfl, hS, hl, hw, q⟩ := h
  refine ⟨_, pss_one (ps_ret (pe_join pe_str (pe_lc (own := [("word", 1)]) (g := gName 1) (by rfl) sc_list_text.nd (pi_list (pv 0)) (blkOk_by (own := [("word", 1)]) (N := N_list_text) (sc := fnScope s_list_text) (by decide +kernel)) (fun _ _ _ _ _ => pg_name (i := 1) sc_list_text.nd rfl (Or.inl rfl)) (fun _ _ _ _ _ => pts_nil) (fun _ _ _ _ _ => (pe_c c_word_text hr (by first | decide | assumption | omega) rfl (pa_cons (pv 1) pa_nil)))))), ?_⟩
  refine ⟨⟨_, rfl⟩, _, rfl, a, rfl, ⟨_, hS⟩, fun D hD => lc_list (K := K) (a := a) (xs := txs ws) (fun i H2 => Same H H2 ∧ H2 D = some (.lst (txs ((ws.take i).map wtext)))) ⟨same_new hD _, upd_same⟩ (fun _ _ _ h => Same.seq h.1 hS) ?_ ?_⟩
  · rintro i x H2 hi ⟨hs, hd⟩
    unfold txs at hi
    rw [List.getElem?_map] at hi
    obtain ⟨u, hu, rfl⟩ : ∃ u, ws[i]? = some u ∧ x = V.str (S u) := by
      cases e : ws[i]? with
      | none => rw [e] at hi; cases hi
      | some u => rw [e] at hi; exact ⟨u, rfl, (Option.some.inj hi).symm⟩
    have hul := hw u (List.mem_of_getElem? hu)
    refine ⟨rfl, _, rfl, u, rfl, by omega, fun H3 s3 => ⟨_, s3 _ _ hd, ?_, same_mut (hs.trans s3) hD, ?_⟩⟩
    · rw [txs_len, List.length_map, List.length_take]
      exact Nat.lt_of_le_of_lt (show _ ≤ 100 by omega) (by decide)
    · rw [upd_same, List.take_add_one, hu, List.map_append, ← txs_snoc]
      rfl
  · rintro H2 ⟨hs, hd⟩
    rw [txs_len, List.take_length] at hd
    exact join_ok hl hw hd (q H2 hs)
end
end My
namespace My
open PySem L2 SX C8
section
variable {P : Program} {w : World} {K : PySem.W.Frag} {mg : Str → Option Value} {base : Heap}
theorem ok__law_nested {f : Addr} {fd : FuncData} (F : Def K mg "_law_nested" s__law_nested f fd) (b : Binds K fd ["_law_bag_here", "_law_deep"] []) (T : Txt mg) (c__law_pull : Cal P w K mg base 1 "_law_pull" spPull []) (c__law_text : Cal P w K mg base 3 "_law_text" spText []) : ∀ N, Cal P w K mg base (N + 3) "_law_nested" (spNested N) []
  | 0 => ⟨f, fd, ["_law_bag_here", "_law_deep"], [], ⟨fun _ _ _ _ h => h.elim, fun _ _ _ _ _ _ _ _ _ _ _ _ _ h => h.elim⟩, F.mgf, F.kp, b, .nil⟩
  | N + 1 => by
    have c__law_nested := ok__law_nested F b T c__law_pull c__law_text N
    refine cal0 F b .nil sc__law_nested (fun vs H Q E h => ?_) (fun cdv A outer s H vs Q E hr h => ?_)
    · obtain ⟨x, y, n, rfl, _⟩ := h
      rfl
    obtain ⟨b, l, n, rfl, hn, B, q⟩ := h
    have hle : N + 3 ≤ N + 3 := Nat.le_refl _
    have hle1 : 1 ≤ N + 3 := by omega
    have hle3 : 3 ≤ N + 3 := by omega
    refine ⟨_, pss_cons (ps_if (pt_cmpR op_eq (pv 1) pe_int (nomark _))
      (pss_one (ps_ret (pe_c c__law_text hr (by first | decide | assumption | omega) rfl (pa_cons (pv 0) (pa_cons pe_int pa_nil)))))
      (pss_nil))
    (pss_one (ps_ret (pe_lc (own := [("_law_k", 2)]) (g := gName 2) (by rfl) sc__law_nested.nd (pi_range1 rfl T.range (pa_cons (pe_c c__law_pull hr (by first | decide | assumption | omega) rfl (pa_cons (pv 0) (pa_cons pe_int pa_nil))) pa_nil)) (blkOk_by (own := [("_law_k", 2)]) (N := N__law_nested) (sc := fnScope s__law_nested) (by decide +kernel)) (fun _ _ _ _ _ => pg_name (i := 2) sc__law_nested.nd rfl (Or.inl rfl)) (fun _ _ _ _ _ => pts_nil) (fun _ _ _ _ _ => (pe_c c__law_nested hr (by first | decide | assumption | omega) rfl (pa_cons (pv 0) (pa_cons (pe_op op_sub (pv 1) pe_int) pa_nil))))))), ?_⟩
    refine ⟨_, rfl, rfl, _, rfl, iteI (fun e => ?_) (fun ne => ?_)⟩
    · have e0 : n = 0 := by omega
      subst e0
      exact ⟨_, rfl, b, l, 5, rfl, B, by decide, fun z H1 hz _ b1 B1 => q _ (.t z) H1 b1 B1 ⟨z, rfl, rfl⟩ hz⟩
    · obtain ⟨k, rfl⟩ : ∃ k, n = k + 1 := ⟨n - 1, by omega⟩
      refine ⟨_, rfl, b, l, 4, rfl, B, by decide, by decide, fun m H3 hm b3 B3 => ⟨_, rfl, by omega, by omega, fun D hD => ?_⟩⟩
      have nbD := B3.nb hD
      have nlD := B3.nl hD
      refine lc_range (lo := 0) (n := (m : Int).toNat) (fun i H4 => But b H3 H4 ∧ BagAt H4 b l ∧ ∃ (vs : List V) (ds : List Nd), vs.length = i ∧ ds.length = i ∧ (∀ d ∈ ds, Small k d) ∧ H4 D = some (.lst vs) ∧ ∀ (j : Nat) (u : V) (e : Nd), vs[j]? = some u → ds[j]? = some e → NdAt k (fun a => H3 a = none ∧ a ≠ D) H4 u e)
        ⟨Same.but (same_new hD _), B3.mono (same_new hD _), [], [], rfl, rfl, by simp, upd_same, fun j u e h => by simp at h⟩ ?_ ?_
      · rintro i H4 hi ⟨b4, B4, vs, ds, h1, h2, h3, hd, h5⟩
        have ed : ((k + 1 : Nat) : Int) - 1 = (k : Int) := by omega
        cases N with
        | zero => omega
        | succ M =>
          refine ⟨rfl, _, rfl, _, rfl, _, _, rfl, rfl, b, l, k, by rw [← ed]; rfl, by omega, B4, fun x d H5 b5 B5 hx hs => ?_⟩
          have hd5 := b5 _ _ hd nbD.symm
          have new : ∀ a, H4 a = none → H3 a = none ∧ a ≠ D := fun a ha => by
            refine ⟨?_, fun e => by rw [e, hd] at ha; cases ha⟩
            cases e : H3 a with
            | none => rfl
            | some o =>
              by_cases hab : a = b
              · exact absurd hab.symm (B4.nb ha)
              · rw [b4 _ _ e hab] at ha
                cases ha
          have kept : ∀ a o, (H3 a = none ∧ a ≠ D) → H4 a = some o → (upd H5 D (.lst (vs ++ [x]))) a = some o := fun a o ha e => by
            rw [upd_ne ha.2]
            exact b5 _ _ e fun z => B3.nb ha.1 z.symm
          refine ⟨_, hd5, ?_, but_mut (b4.trans b5) hD, B5.upd nbD nlD, vs ++ [x], ds ++ [d], by simp [h1], by simp [h2], ?_, upd_same, ?_⟩
          · rw [h1]
            exact Nat.lt_of_lt_of_le (show i < 20 by omega) (by decide)
          · intro d' hd'
            rcases List.mem_append.mp hd' with h | h
            · exact h3 d' h
            · rw [List.mem_singleton.mp h]; exact hs
          · intro j u e hu he
            by_cases hj : j < i
            · rw [List.getElem?_append_left (by omega)] at hu he
              exact NdAt.keep (fun _ h => h) kept (h5 j u e hu he)
            · have ej : j = i := by
                have := (List.getElem?_eq_some_iff.mp hu).1
                simp at this
                omega
              subst ej
              rw [List.getElem?_append_right (by omega), h1, Nat.sub_self] at hu
              rw [List.getElem?_append_right (by omega), h2, Nat.sub_self] at he
              cases hu
              cases he
              exact NdAt.keep new (fun a o ha e => by rw [upd_ne (new a ha).2]; exact e) hx
      · rintro H4 ⟨b4, B4, vs, ds, h1, h2, h3, hd, h5⟩
        have back : ∀ a, H3 a = none → H a = none := fun a ha => by
          cases e : H a with
          | none => rfl
          | some o =>
            by_cases hab : a = b
            · exact absurd hab.symm (B3.nb ha)
            · rw [b3 _ _ e hab] at ha
              cases ha
        refine q (.ref D) (.l ds) H4 (b3.trans b4) B4 ⟨D, vs, ds, rfl, rfl, back D hD, hd, by omega, fun j u e hu he => NdAt.keep (fun a ha => back a ha.1) (fun _ _ _ h => h) (h5 j u e hu he)⟩ ⟨by omega, h3⟩
theorem ok__law_packed {f : Addr} {fd : FuncData} (F : Def K mg "_law_packed" s__law_packed f fd) (b : Binds K fd ["_law_thing", "_law_deep"] []) (T : Txt mg) (c_list_text : Cal P w K mg base 4 "list_text" (spLtext K) []) : ∀ N, Cal P w K mg base (N + 4) "_law_packed" (spPacked N) []
  | 0 => ⟨f, fd, ["_law_thing", "_law_deep"], [], ⟨fun _ _ _ _ h => h.elim, fun _ _ _ _ _ _ _ _ _ _ _ _ _ h => h.elim⟩, F.mgf, F.kp, b, .nil⟩
  | N + 1 => by
    have c__law_packed := ok__law_packed F b T c_list_text N
    refine cal0 F b .nil sc__law_packed (fun vs H Q E h => ?_) (fun cdv A outer s H vs Q E hr h => ?_)
    · obtain ⟨x, n, P', d, rfl, _⟩ := h
      rfl
    obtain ⟨x, n, P', d, rfl, hn, hn3, hx, hs, q⟩ := h
    have hle : N + 5 ≤ N + 5 := Nat.le_refl _
    have hle4 : 5 ≤ N + 5 := by omega
    refine ⟨_, pss_one (ps_ret (pe_ifExp (pt_cmpR op_eq (pv 1) pe_int (nomark _)) (pv 0) (pe_c c_list_text hr (by first | decide | assumption | omega) rfl (pa_cons (pe_lc (own := [("_law_one", 2)]) (g := gName 2) (by rfl) sc__law_packed.nd (pi_list (pv 0)) (blkOk_by (own := [("_law_one", 2)]) (N := N__law_packed) (sc := fnScope s__law_packed) (by decide +kernel)) (fun _ _ _ _ _ => pg_name (i := 2) sc__law_packed.nd rfl (Or.inl rfl)) (fun _ _ _ _ _ => pts_nil) (fun _ _ _ _ _ => (pe_c c__law_packed hr (by first | decide | assumption | omega) rfl (pa_cons (pv 2) (pa_cons (pe_op op_sub (pv 1) pe_int) pa_nil))))) pa_nil)))), ?_⟩
    refine ⟨_, rfl, rfl, _, rfl, iteI (fun e => ?_) (fun ne => ?_)⟩
    · have e0 : n = 0 := by omega
      subst e0
      obtain ⟨w, rfl, rfl⟩ := hx
      exact ⟨_, rfl, q H (Same.refl H)⟩
    · obtain ⟨k, rfl⟩ : ∃ k, n = k + 1 := ⟨n - 1, by omega⟩
      obtain ⟨a, vs, ds, rfl, rfl, ha, hv, hlen, hel⟩ := hx
      refine ⟨_, rfl, a, rfl, ⟨_, SqL.of hv⟩, fun D hD => lc_list (K := K) (a := a) (xs := vs) (fun i H2 => Same H H2 ∧ H2 D = some (.lst (txs ((ds.take i).map (pk k))))) ⟨same_new hD _, upd_same⟩ (fun _ _ _ h => SqL.of (h.1 _ _ hv)) ?_ ?_⟩
      · rintro i x H2 hi ⟨s2, hd⟩
        have hi1 : i < ds.length := by have := (List.getElem?_eq_some_iff.mp hi).1; omega
        have he : ds[i]? = some ds[i] := List.getElem?_eq_getElem hi1
        have ed : ((k + 1 : Nat) : Int) - 1 = (k : Int) := by omega
        cases N with
        | zero => omega
        | succ M =>
          refine ⟨rfl, _, rfl, _, rfl, _, _, rfl, rfl, x, k, P', ds[i], by rw [← ed]; rfl, by omega, by omega, NdAt.keep (fun _ h => h) (fun a o _ e => s2 a o e) (hel i x _ hi he), hs.2 _ (List.mem_of_getElem? he), fun H3 s3 => ⟨_, s3 _ _ hd, ?_, same_mut (s2.trans s3) hD, ?_⟩⟩
          · have h3 := hs.1
            rw [txs_len, List.length_map, List.length_take]
            exact Nat.lt_of_le_of_lt (show _ ≤ 3 by omega) (by decide)
          · rw [upd_same, List.take_add_one, he, List.map_append, ← txs_snoc]
            rfl
      · rintro H2 ⟨s2, hd⟩
        rw [hlen, List.take_length] at hd
        have h3 := hs.1
        refine ⟨D, ds.map (pk k), rfl, SqL.of hd, by rw [List.length_map]; omega, fun w hw => ?_, fun H3 s3 => q H3 (s2.trans s3)⟩
        obtain ⟨e, he, rfl⟩ := List.mem_map.mp hw
        have h4 := pk_len k e (hs.2 e he)
        have h5 : bnd k ≤ 1000 := by
          match k, hn3 with
          | 0, _ => decide
          | 1, _ => decide
          | 2, _ => decide
        omega
theorem ok__law_unpacked {f : Addr} {fd : FuncData} (F : Def K mg "_law_unpacked" s__law_unpacked f fd) (b : Binds K fd ["_law_text_here", "_law_deep"] []) (T : Txt mg) (c_read_list : Cal P w K mg base 5 "read_list" spRead []) : ∀ N, Cal P w K mg base (N + 5) "_law_unpacked" (spUnpacked N) []
  | 0 => ⟨f, fd, ["_law_text_here", "_law_deep"], [], ⟨fun _ _ _ _ h => h.elim, fun _ _ _ _ _ _ _ _ _ _ _ _ _ h => h.elim⟩, F.mgf, F.kp, b, .nil⟩
  | N + 1 => by
    have c__law_unpacked := ok__law_unpacked F b T c_read_list N
    refine cal0 F b .nil sc__law_unpacked (fun vs H Q E h => ?_) (fun cdv A outer s H vs Q E hr h => ?_)
    · obtain ⟨n, d, rfl, _⟩ := h
      rfl
    obtain ⟨n, d, rfl, hn, hl, hs, q⟩ := h
    have hle : N + 5 ≤ N + 5 := Nat.le_refl _
    have hle4 : 5 ≤ N + 5 := by omega
    refine ⟨_, pss_one (ps_ret (pe_ifExp (pt_cmpR op_eq (pv 1) pe_int (nomark _)) (pv 0) (pe_lc (own := [("_law_one", 2)]) (g := gName 2) (by rfl) sc__law_unpacked.nd (pi_list (pe_c c_read_list hr (by first | decide | assumption | omega) rfl (pa_cons (pv 0) pa_nil))) (blkOk_by (own := [("_law_one", 2)]) (N := N__law_unpacked) (sc := fnScope s__law_unpacked) (by decide +kernel)) (fun _ _ _ _ _ => pg_name (i := 2) sc__law_unpacked.nd rfl (Or.inl rfl)) (fun _ _ _ _ _ => pts_nil) (fun _ _ _ _ _ => (pe_c c__law_unpacked hr (by first | decide | assumption | omega) rfl (pa_cons (pv 2) (pa_cons (pe_op op_sub (pv 1) pe_int) pa_nil))))))), ?_⟩
    refine ⟨_, rfl, rfl, _, rfl, iteI (fun e => ?_) (fun ne => ?_)⟩
    · have e0 : n = 0 := by omega
      subst e0
      cases d with
      | t w => exact ⟨_, rfl, q _ H (Same.refl H) ⟨w, rfl, rfl⟩⟩
      | l xs => exact hs.elim
    · obtain ⟨k, rfl⟩ : ∃ k, n = k + 1 := ⟨n - 1, by omega⟩
      cases d with
      | t w => exact hs.elim
      | l ds =>
        refine ⟨_, rfl, pk (k + 1) (.l ds), ds.map (pk k), rfl, hl, reads_own _, fun p H1 s1 hp hp1 => ⟨p, rfl, ⟨_, SqL.of hp1⟩, fun D hD => ?_⟩⟩
        have npD : p ≠ D := ne_of_none hp1 hD
        refine lc_list (K := K) (a := p) (xs := txs (ds.map (pk k))) (fun i H2 => Same H1 (fun a => if a = D then none else H2 a) ∧ H2 p = some (.lst (txs (ds.map (pk k)))) ∧ Same H H2 ∧ ∃ vs : List V, vs.length = i ∧ H2 D = some (.lst vs) ∧ ∀ (j : Nat) (u : V) (e : Nd), vs[j]? = some u → ds[j]? = some e → NdAt k (fun a => H1 a = none ∧ a ≠ D) H2 u e)
          ⟨?_, by rw [upd_ne npD]; exact hp1, s1.trans (same_new hD _), [], rfl, upd_same, fun j u e h => by simp at h⟩ (fun _ _ _ h => SqL.of h.2.1) ?_ ?_
        · intro a o ha
          have : a ≠ D := ne_of_none ha hD
          show (if a = D then none else _) = _
          rw [if_neg this, upd_ne this]
          exact ha
        · rintro i x H2 hi ⟨s1', hp2, s2, vs, h1, hd, h5⟩
          unfold txs at hi
          rw [List.getElem?_map, List.getElem?_map] at hi
          obtain ⟨e, he, rfl⟩ : ∃ e, ds[i]? = some e ∧ x = V.str (S (pk k e)) := by
            cases e : ds[i]? with
            | none => rw [e] at hi; cases hi
            | some u => rw [e] at hi; exact ⟨u, rfl, (Option.some.inj hi).symm⟩
          have hi1 := (List.getElem?_eq_some_iff.mp he).1
          have h3 := hs.1
          have ed : ((k + 1 : Nat) : Int) - 1 = (k : Int) := by omega
          have hmem : pk k e ∈ ds.map (pk k) := List.mem_map.mpr ⟨e, List.mem_of_getElem? he, rfl⟩
          have hle5 : (pk k e).length ≤ 1000 := Nat.le_trans (ltext_ge _ _ hmem) hl
          cases N with
          | zero => omega
          | succ M =>
            refine ⟨rfl, _, rfl, _, rfl, _, _, rfl, rfl, k, e, by rw [← ed]; rfl, by omega, hle5, hs.2 _ (List.mem_of_getElem? he), fun x H3 s3 hx => ?_⟩
            have hd3 := s3 _ _ hd
            have inH2 : ∀ a o, H1 a = some o → H2 a = some o := fun a o ha => by
              have n1 : a ≠ D := ne_of_none ha hD
              have z : (if a = D then none else H2 a) = some o := s1' a o ha
              rw [if_neg n1] at z
              exact z
            have new : ∀ a, H2 a = none → H1 a = none ∧ a ≠ D := fun a ha => by
              refine ⟨?_, fun e => by rw [e, hd] at ha; cases ha⟩
              cases e : H1 a with
              | none => rfl
              | some o => rw [inH2 a o e] at ha; cases ha
            refine ⟨_, hd3, ?_, ?_, by rw [upd_ne npD]; exact s3 _ _ hp2, same_mut (s2.trans s3) (Same.free s1 hD), vs ++ [x], by simp [h1], upd_same, ?_⟩
            · rw [h1]
              exact Nat.lt_of_lt_of_le (show i < 20 by omega) (by decide)
            · intro a o ha
              have n1 : a ≠ D := ne_of_none ha hD
              show (if a = D then none else _) = _
              rw [if_neg n1, upd_ne n1]
              exact s3 _ _ (inH2 a o ha)
            · intro j u e' hu he'
              by_cases hj : j < i
              · rw [List.getElem?_append_left (by omega)] at hu
                exact NdAt.keep (fun _ h => h) (fun a o ha e => by rw [upd_ne ha.2]; exact s3 _ _ e) (h5 j u e' hu he')
              · have ej : j = i := by
                  have := (List.getElem?_eq_some_iff.mp hu).1
                  simp at this
                  omega
                subst ej
                rw [List.getElem?_append_right (by omega), h1, Nat.sub_self] at hu
                rw [he] at he'
                cases hu
                cases he'
                exact NdAt.keep new (fun a o ha e => by rw [upd_ne (new a ha).2]; exact e) hx
        · rintro H2 ⟨s1', hp2, s2, vs, h1, hd, h5⟩
          refine q (.ref D) H2 s2 ⟨D, vs, ds, rfl, rfl, Same.free s1 hD, hd, ?_, fun j u e hu he => NdAt.keep (fun a ha => Same.free s1 ha.1) (fun _ _ _ h => h) (h5 j u e hu he)⟩
          rw [h1, txs_len, List.length_map]
end
end My
namespace My
open PySem L2 SX C8
theorem Alike.succ : ∀ {n : Nat} {H : Hp} {x y : V}, Alike n H x y → Alike (n + 1) H x y
  | 0, _, _, _, h => .inl h
  | n + 1, H, x, y, h => by
    rcases h with h | ⟨a, b, xs, ys, h1, h2, h3, h4, h5, h6⟩
    · exact .inl h
    · exact .inr ⟨a, b, xs, ys, h1, h2, h3, h4, h5, fun i u v hu hv => Alike.succ (h6 i u v hu hv)⟩
theorem seps4 : ∀ v ∈ ([.str (Str.ofString ""), .str (Str.ofString " "), .str (Str.ofString "\n"), .str (Str.ofString "\\ ")] : List V), ∃ z : List Nat, v = .str (S z) ∧ z.length ≤ 2 ∧ ∀ c ∈ z, c ∈ abc := by
  have e1 : (Str.ofString " ") = S [32] := by decide +kernel
  have e2 : (Str.ofString "\\ ") = S [92, 32] := by decide +kernel
  rw [lit_e, e1, lit_nl, e2]
  intro v hv
  simp only [List.mem_cons, List.not_mem_nil, or_false] at hv
  rcases hv with rfl | rfl | rfl | rfl
  all_goals exact ⟨_, rfl, by decide, by decide⟩
theorem seps3 : ∀ v ∈ ([.str (Str.ofString " "), .str (Str.ofString "\n"), .str (Str.ofString "  ")] : List V), ∃ z : List Nat, v = .str (S z) ∧ z.length ≤ 2 ∧ 0 < z.length ∧ ∀ c ∈ z, White c := by
  have e1 : (Str.ofString " ") = S [32] := by decide +kernel
  have e2 : (Str.ofString "  ") = S [32, 32] := by decide +kernel
  rw [e1, lit_nl, e2]
  intro v hv
  simp only [List.mem_cons, List.not_mem_nil, or_false] at hv
  rcases hv with rfl | rfl | rfl
  all_goals exact ⟨_, rfl, by decide, by decide, by decide⟩
theorem reads_whites : ∀ {z t : List Nat} {ws : List (List Nat)}, (∀ c ∈ z, White c) → Reads t ws → Reads (z ++ t) ws
  | [], _, _, _, h => h
  | c :: r, _, _, hc, h => reads_more (reads_whites (fun x hx => hc x (List.mem_cons_of_mem _ hx)) h) (hc c List.mem_cons_self)
theorem reads_both {ws vs : List (List Nat)} {z : List Nat} (h0 : 0 < z.length) (hz : ∀ c ∈ z, White c) : Reads (ltext ws ++ (z ++ ltext vs)) (ws ++ vs) := by
  refine reads_ltext ws ?_ (reads_whites hz (reads_own vs))
  cases z with
  | nil => cases h0
  | cons c r => exact hz c List.mem_cons_self
theorem cut2 (ws : List (List Nat)) : cutV (txs ws) (some 2) none = txs (ws.drop 2) := by
  unfold cutV
  have e : HT.sIx (txs ws).length 0 (some 2) = min 2 (txs ws).length := HT.sIx_nat _ _ 2
  rw [e, HT.sIx_none]
  unfold txs
  rw [List.map_drop, List.length_map]
  by_cases h : 2 ≤ ws.length
  · rw [Nat.min_eq_left h, List.take_of_length_le (by simp)]
  · rw [Nat.min_eq_right (by omega), List.drop_eq_nil_of_le (by simp), List.drop_eq_nil_of_le (by simp; omega)]
    simp
/-- what is known of a list of words -/
def WsOk (ws : List (List Nat)) (k : Nat) : Prop := ws.length ≤ 3 ∧ (∀ w ∈ ws, w.length ≤ k) ∧ ∀ w ∈ ws, ∀ c ∈ w, c ∈ abc
theorem WsOk.len {ws : List (List Nat)} {k : Nat} (h : WsOk ws k) : (ltext ws).length ≤ 3 * (2 * k + 3) :=
  Nat.le_trans (ltext_len ws k h.2.1) (Nat.mul_le_mul_right _ h.1)
section
variable {P : Program} {w : World} {K : PySem.W.Frag} {mg : Str → Option Value} {base : Heap}
theorem ok_law {f : Addr} {fd : FuncData} (F : Def K mg "law" s_law f fd) (T : Txt mg) (c__law_bag : Cal P w K mg base 1 "_law_bag" (spBag K) []) (c__law_pull : Cal P w K mg base 1 "_law_pull" spPull []) (c__law_of : Cal P w K mg base 2 "_law_of" (spOf K) []) (c__law_text : Cal P w K mg base 3 "_law_text" spText []) (c__law_like : Cal P w K mg base 4 "_law_like" (spLike 4) [])
    (c_list_text : Cal P w K mg base 4 "list_text" (spLtext K) []) (c_read_list : Cal P w K mg base 5 "read_list" spRead []) (c__law_nested : Cal P w K mg base 7 "_law_nested" (spNested 4) []) (c__law_packed : Cal P w K mg base 8 "_law_packed" (spPacked 4) []) (c__law_unpacked : Cal P w K mg base 9 "_law_unpacked" (spUnpacked 4) []) : FnOk P w K mg base C8.CX0 10 f fd ["_law_script"] (spLaw K) := by
  refine fn0 F.fn sc_law (fun vs H Q E h => ?_) (fun cdv A outer s H vs Q E hr h => ?_)
  · obtain ⟨a, ns, rfl, _⟩ := h
    rfl
  obtain ⟨a, ns, rfl, hS, hl, q⟩ := h
  refine ⟨_, pss_cons (ps_set (i := 1) sc_law.nd rfl (Or.inr rfl) (pe_c c__law_bag hr (by first | decide | assumption | omega) rfl (pa_cons (pv 0) pa_nil)))
    (pss_cons (ps_for PassesOwn.never rfl (pi_range1 rfl T.range (pa_cons pe_int pa_nil)) (pg_name (i := 2) sc_law.nd rfl (Or.inl rfl))
      (pss_cons (ps_set (i := 3) sc_law.nd rfl (Or.inl rfl) (pe_op op_add pe_int (pe_c c__law_pull hr (by first | decide | assumption | omega) rfl (pa_cons (pv 1) (pa_cons pe_int pa_nil)))))
      (pss_cons (ps_set (i := 4) sc_law.nd rfl (Or.inl rfl) (pe_c c__law_nested hr (by first | decide | assumption | omega) rfl (pa_cons (pv 1) (pa_cons (pv 3) pa_nil))))
      (pss_cons (ps_set (i := 5) sc_law.nd rfl (Or.inl rfl) (pe_c c__law_packed hr (by first | decide | assumption | omega) rfl (pa_cons (pv 4) (pa_cons (pv 3) pa_nil))))
      (pss_cut (ps_if (PW.pt (pw_and (pt_cmpR op_le (pe_callB call_len (by rfl) T.len (by decide +kernel) (pa_cons (pv 5) pa_nil)) pe_int (nomark _)) (pw_and1 (pt_not (pt_val (pe_c c__law_like hr (by first | decide | assumption | omega) rfl (pa_cons (pe_c c__law_unpacked hr (by first | decide | assumption | omega) rfl (pa_cons (pv 5) (pa_cons (pv 3) pa_nil))) (pa_cons (pv 4) pa_nil))))))))
        (pss_one (ps_ret pe_bl))
        (pss_nil))
      (pss_cons (ps_setLc (i := 6) (own := [("_law_k", 8)]) (g := gName 8) (by rfl) sc_law.nd rfl rfl (sw_true rfl rfl rfl (by decide +kernel)) (pi_range1 rfl T.range (pa_cons (pe_c c__law_pull hr (by first | decide | assumption | omega) rfl (pa_cons (pv 1) (pa_cons pe_int pa_nil))) pa_nil)) (blkOk_by (own := [("_law_k", 8)]) (N := N_law) (sc := fnScope s_law) (by decide +kernel)) (fun _ _ _ _ _ => pg_name (i := 8) sc_law.nd rfl (Or.inl rfl)) (fun _ _ _ _ _ => pts_nil) (fun _ _ _ _ _ => (pe_c c__law_text hr (by first | decide | assumption | omega) rfl (pa_cons (pv 1) (pa_cons pe_int pa_nil)))))
      (pss_cons (ps_setLc (i := 7) (own := [("_law_k", 8)]) (g := gName 8) (by rfl) sc_law.nd rfl rfl (sw_true rfl rfl rfl (by decide +kernel)) (pi_range1 rfl T.range (pa_cons (pe_c c__law_pull hr (by first | decide | assumption | omega) rfl (pa_cons (pv 1) (pa_cons pe_int pa_nil))) pa_nil)) (blkOk_by (own := [("_law_k", 8)]) (N := N_law) (sc := fnScope s_law) (by decide +kernel)) (fun _ _ _ _ _ => pg_name (i := 8) sc_law.nd rfl (Or.inl rfl)) (fun _ _ _ _ _ => pts_nil) (fun _ _ _ _ _ => (pe_c c__law_text hr (by first | decide | assumption | omega) rfl (pa_cons (pv 1) (pa_cons pe_int pa_nil)))))
      (pss_cut (ps_if (PW.pt (pw_and (pt_cmpR op_gt (pe_callB call_len (by rfl) T.len (by decide +kernel) (pa_cons (pv 6) pa_nil)) pe_int (nomark _)) (pw_and1 (pt_cmpR op_eq (pe_c c__law_pull hr (by first | decide | assumption | omega) rfl (pa_cons (pv 1) (pa_cons pe_int pa_nil))) pe_int (nomark _)))))
        (pss_one (ps_set (i := 7) sc_law.nd rfl (Or.inl rfl) (pe_op op_cat (pe_lst (pa_cons (pe_op op_add_str (pe_op op_add_str (pe_ix ix_list (pv 6) pe_int (fun _ _ => rfl)) (pe_c c__law_of hr (by first | decide | assumption | omega) rfl (pa_cons (pv 1) (pa_cons (pe_lst (pa_cons pe_str (pa_cons pe_str (pa_cons pe_str (pa_cons pe_str pa_nil))))) pa_nil)))) (pe_ix ix_list (pv 6) pe_int (fun _ _ => rfl))) pa_nil)) (pe_slice sl_list (pv 6) (po_some pe_int) po_none))))
        (pss_nil))
      (pss_cut (ps_if (pt_cmpR op_ne (pe_cmpR op_eq (pe_c c_list_text hr (by first | decide | assumption | omega) rfl (pa_cons (pv 6) pa_nil)) (pe_c c_list_text hr (by first | decide | assumption | omega) rfl (pa_cons (pv 7) pa_nil)) (nomark _)) (pe_cmpR (op_eqD hr.units) (pv 6) (pv 7) (nomark _)) (nomark _))
        (pss_one (ps_ret pe_bl))
        (pss_nil))
      (pss_one (ps_if (pt_cmpR (op_neD hr.units) (pe_c c_read_list hr (by first | decide | assumption | omega) rfl (pa_cons (pe_op op_add_str (pe_op op_add_str (pe_c c_list_text hr (by first | decide | assumption | omega) rfl (pa_cons (pv 6) pa_nil)) (pe_c c__law_of hr (by first | decide | assumption | omega) rfl (pa_cons (pv 1) (pa_cons (pe_lst (pa_cons pe_str (pa_cons pe_str (pa_cons pe_str pa_nil)))) pa_nil)))) (pe_c c_list_text hr (by first | decide | assumption | omega) rfl (pa_cons (pv 7) pa_nil))) pa_nil)) (pe_op op_cat (pv 6) (pv 7)) (nomark _))
        (pss_one (ps_ret pe_bl))
        (pss_nil))))))))))))
    (pss_one (ps_ret pe_bl))), ?_⟩
  refine ⟨_, rfl, a, ns, rfl, hS, hl, fun b l H1 s1 hb B1 => ?_⟩
  refine ⟨4, rfl, by decide, by decide, for_range (n := 4) (fun i σ H2 => ∃ v2 v3 v4 v5 v6 v7, σ = [some (.ref a), some (.ref b), v2, v3, v4, v5, v6, v7, none] ∧ BagAt H2 b l) ⟨none, none, none, none, none, none, rfl, B1⟩ ?_ ?_⟩
  · rintro i σ H2 hi ⟨v2, v3, v4, v5, v6, v7, rfl, B2⟩
    -- how deep, the thing, its text
    refine ⟨_, rfl, b, l, 3, rfl, B2, by decide, by decide, fun m H3 hm b3 B3 => ⟨_, _, rfl, rfl, ?_⟩⟩
    have em : ((1 : Int) + (m : Int)) = ((m + 1 : Nat) : Int) := by omega
    refine ⟨_, rfl, _, rfl, b, l, m + 1, by rw [← em]; rfl, (by show m + 1 ≤ 3; omega), B3, fun x d H4 b4 B4 hx hs => ?_⟩
    refine ⟨_, rfl, _, rfl, x, m + 1, Fresh H3, d, by rw [← em]; rfl, (by show m + 1 ≤ 3; omega), by omega, hx, hs, fun H5 s5 => ?_⟩
    have hp := pk_len (m + 1) d hs
    have hb3 : bnd (m + 1) ≤ 2000 := by
      have : m < 3 := by omega
      match m, this with
      | 0, _ => decide
      | 1, _ => decide
      | 2, _ => decide
    have hz : (S (pk (m + 1) d)).length ≤ sizeLine := size_S (by omega)
    refine ⟨fun σ H2 => ∃ v2 v3 v4 v5 v6 v7, σ = [some (.ref a), some (.ref b), v2, v3, v4, v5, v6, v7, none] ∧ BagAt H2 b l, ?_, ?_⟩
    · refine ⟨_, rfl, _, _, rfl, ⟨hz, rfl⟩, _, _, rfl, rfl, _, rfl, iteD (fun le => ?_) (fun _ => iteF ⟨_, _, _, _, _, _, rfl, B4.mono s5⟩)⟩
      rw [S_len] at le
      refine ⟨_, rfl, _, rfl, m + 1, d, by rw [← em]; rfl, (by show m + 1 ≤ 3; omega), by omega, hs, fun y H6 s6 hy => ⟨_, rfl, _, _, rfl, ?_, fun H7 s7 => ⟨true, rfl, iteF ⟨_, _, _, _, _, _, rfl, ((B4.mono s5).mono s6).mono s7⟩⟩⟩⟩
      have h1 : Alike (m + 1) H6 y x := NdAt.alike hs hy (NdAt.keep (P' := fun _ => True) (fun _ _ => trivial) (fun a o _ e => s6 _ _ (s5 _ _ e)) hx)
      have : m < 3 := by omega
      match m, this, h1 with
      | 0, _, h1 => exact h1.succ.succ
      | 1, _, h1 => exact h1.succ
      | 2, _, h1 => exact h1
    · clear hx hs hp hb3 hz em B4 b4 s5 B3 b3 B2
      rintro σ H8 ⟨v2, v3, v4, v5, v6, v7, rfl, B8⟩
      -- one
      refine ⟨_, rfl, b, l, 4, rfl, B8, by decide, by decide, fun m1 H9 hm1 b9 B9 => ⟨_, rfl, by omega, by omega, fun D1 hD1 => ?_⟩⟩
      have nbD1 := B9.nb hD1
      have nlD1 := B9.nl hD1
      refine lc_range (lo := 0) (n := (m1 : Int).toNat) (fun i H4 => But b H9 H4 ∧ BagAt H4 b l ∧ ∃ ws : List (List Nat), ws.length = i ∧ (∀ w ∈ ws, w.length ≤ 3) ∧ (∀ w ∈ ws, ∀ c ∈ w, c ∈ abc) ∧ H4 D1 = some (.lst (txs ws))) ⟨Same.but (same_new hD1 _), B9.mono (same_new hD1 _), [], rfl, by simp, by simp, upd_same⟩ ?_ ?_
      · rintro i H4 hi ⟨b4, B4, ws, hw1, hw2, hwc, hd⟩
        refine ⟨rfl, _, rfl, b, l, 3, rfl, B4, by decide, fun z H5 hz hzc b5 B5 => ?_⟩
        refine ⟨_, b5 _ _ hd nbD1.symm, ?_, but_mut (b4.trans b5) hD1, B5.upd nbD1 nlD1, ws ++ [z], by simp [hw1], ?_, ?_, ?_⟩
        · rw [txs_len, hw1]
          exact Nat.lt_of_lt_of_le (show i < 20 by omega) (by decide)
        · intro w hw
          rcases List.mem_append.mp hw with h | h
          · exact hw2 w h
          · rw [List.mem_singleton.mp h]; exact hz
        · intro w hw
          rcases List.mem_append.mp hw with h | h
          · exact hwc w h
          · rw [List.mem_singleton.mp h]; exact hzc
        · rw [upd_same, txs_snoc]
      rintro H10 ⟨b10, B10, ws1, hw11, hw12, hw13, hd1⟩
      have W1 : WsOk ws1 3 := ⟨by omega, hw12, hw13⟩
      -- other
      refine ⟨_, rfl, b, l, 4, rfl, B10, by decide, by decide, fun m2 H11 hm2 b11 B11 => ⟨_, rfl, by omega, by omega, fun D2 hD2 => ?_⟩⟩
      have nbD2 := B11.nb hD2
      have nlD2 := B11.nl hD2
      have hd1' := b11 _ _ hd1 nbD1.symm
      have n12 : D1 ≠ D2 := ne_of_none hd1' hD2
      refine lc_range (lo := 0) (n := (m2 : Int).toNat) (fun i H4 => But b H11 H4 ∧ BagAt H4 b l ∧ ∃ ws : List (List Nat), ws.length = i ∧ (∀ w ∈ ws, w.length ≤ 3) ∧ (∀ w ∈ ws, ∀ c ∈ w, c ∈ abc) ∧ H4 D2 = some (.lst (txs ws))) ⟨Same.but (same_new hD2 _), B11.mono (same_new hD2 _), [], rfl, by simp, by simp, upd_same⟩ ?_ ?_
      · rintro i H4 hi ⟨b4, B4, ws, hw1, hw2, hwc, hd⟩
        refine ⟨rfl, _, rfl, b, l, 3, rfl, B4, by decide, fun z H5 hz hzc b5 B5 => ?_⟩
        refine ⟨_, b5 _ _ hd nbD2.symm, ?_, but_mut (b4.trans b5) hD2, B5.upd nbD2 nlD2, ws ++ [z], by simp [hw1], ?_, ?_, ?_⟩
        · rw [txs_len, hw1]
          exact Nat.lt_of_lt_of_le (show i < 20 by omega) (by decide)
        · intro w hw
          rcases List.mem_append.mp hw with h | h
          · exact hw2 w h
          · rw [List.mem_singleton.mp h]; exact hz
        · intro w hw
          rcases List.mem_append.mp hw with h | h
          · exact hwc w h
          · rw [List.mem_singleton.mp h]; exact hzc
        · rw [upd_same, txs_snoc]
      rintro H12 ⟨b12, B12, ws2, hw21, hw22, hw23, hd2⟩
      have hd12 := b12 _ _ hd1' nbD1.symm
      -- sometimes two words made one
      let Mid : L2.St → Hp → Prop := fun σ H => ∃ v2 v3 v4 v5 A1 A2 us vs, σ = [some (.ref a), some (.ref b), v2, v3, v4, v5, some (.ref A1), some (.ref A2), none] ∧ BagAt H b l ∧ A1 ≠ b ∧ A2 ≠ b ∧ H A1 = some (.lst (txs us)) ∧ H A2 = some (.lst (txs vs)) ∧ WsOk us 3 ∧ WsOk vs 8
      have W2 : WsOk ws2 8 := ⟨by omega, fun w h => Nat.le_trans (hw22 w h) (by decide), hw23⟩
      refine ⟨Mid, ?_, ?_⟩
      · refine ⟨_, rfl, _, _, rfl, .inl ⟨_, SqL.of hd12, rfl⟩, _, _, rfl, rfl, _, rfl, iteD (fun gt => ?_) (fun _ => iteF ⟨_, _, _, _, D1, D2, ws1, ws2, rfl, B12, nbD1.symm, nbD2.symm, hd12, hd2, W1, W2⟩)⟩
        refine ⟨_, rfl, b, l, 2, rfl, B12, by decide, by decide, fun r H13 hr13 b13 B13 => ?_⟩
        have hd13 := b13 _ _ hd12 nbD1.symm
        have hd23 := b13 _ _ hd2 nbD2.symm
        refine ⟨rfl, _, rfl, iteI (fun _ => ?_) (fun _ => ⟨_, _, _, _, D1, D2, ws1, ws2, rfl, B13, nbD1.symm, nbD2.symm, hd13, hd23, W1, W2⟩)⟩
        rw [txs_len] at gt
        obtain ⟨w0, w1, rest, rfl⟩ : ∃ w0 w1 rest, ws1 = w0 :: w1 :: rest := by
          match ws1, gt with
          | w0 :: w1 :: rest, _ => exact ⟨w0, w1, rest, rfl⟩
          | [w0], h => simp at h
          | [], h => simp at h
        have l0 := hw12 w0 List.mem_cons_self
        have l1 := hw12 w1 (List.mem_cons_of_mem _ List.mem_cons_self)
        refine ⟨_, rfl, _, _, _, _, rfl, rfl, SqL.of hd13, (by show atI (txs (w0 :: w1 :: rest)) ((0 : Nat) : Int) = some (V.str (S w0)); exact atI_nat rfl), ?_⟩
        refine ⟨_, rfl, (by show 4 ≤ sizeLine; decide), fun p hp => ?_⟩
        have s14 := same_new hp (HO.lst [.str (Str.ofString ""), .str (Str.ofString " "), .str (Str.ofString "\n"), .str (Str.ofString "\\ ")])
        refine ⟨b, l, _, rfl, B13.mono s14, .inl ⟨p, _, rfl, (B13.nb hp).symm, SqL.of upd_same, by show 0 < 4; decide, by show 4 ≤ 1000; decide, fun v H15 hv b15 B15 => ?_⟩⟩
        obtain ⟨z, rfl, hz2, hzc⟩ := seps4 v hv
        have hd15 := b15 _ _ (s14 _ _ hd13) nbD1.symm
        refine ⟨_, _, rfl, rfl, by rw [S_len, S_len]; exact Nat.le_trans (show _ ≤ 10 by omega) (by decide), ?_⟩
        rw [S_cat]
        refine ⟨_, rfl, _, _, _, _, rfl, rfl, SqL.of hd15, (by show atI (txs (w0 :: w1 :: rest)) ((1 : Nat) : Int) = some (V.str (S w1)); exact atI_nat rfl), ?_⟩
        refine ⟨_, _, rfl, rfl, by rw [S_len, S_len, List.length_append]; exact Nat.le_trans (show _ ≤ 10 by omega) (by decide), ?_⟩
        rw [S_cat]
        refine ⟨(by show 1 ≤ sizeLine; decide), fun p2 hp2 => ?_⟩
        have s16 := same_new hp2 (HO.lst [.str (S (w0 ++ z ++ w1))])
        refine ⟨_, rfl, _, rfl, _, _, rfl, SqL.of (s16 _ _ hd15), fun p3 hp3 => ?_⟩
        rw [cut2]
        have s17 := same_new hp3 (HO.lst (txs ((w0 :: w1 :: rest).drop 2)))
        have nl : (txs rest).length ≤ 3 := by have := W1.1; rw [txs_len]; simp at this; omega
        refine ⟨p2, p3, _, _, rfl, rfl, s17 _ _ upd_same, upd_same, ?_, fun p4 hp4 => ?_⟩
        · show 1 + (txs rest).length ≤ sizeLine
          exact Nat.le_trans (show _ ≤ 10 by omega) (by decide)
        · have s18 := same_new hp4 (HO.lst ([.str (S (w0 ++ z ++ w1))] ++ txs ((w0 :: w1 :: rest).drop 2)))
          have sA := s16.trans (s17.trans s18)
          refine ⟨_, _, _, _, D1, p4, w0 :: w1 :: rest, (w0 ++ z ++ w1) :: rest, rfl, B15.mono sA, nbD1.symm, ?_, sA _ _ hd15, upd_same, W1, ?_, ?_, ?_⟩
          · exact (((B15.mono s16).mono s17).nb hp4).symm
          · have := W1.1; simp at this ⊢; omega
          · intro w hw
            rcases List.mem_cons.mp hw with h | h
            · rw [h]; simp; omega
            · exact Nat.le_trans (hw12 w (List.mem_cons_of_mem _ (List.mem_cons_of_mem _ h))) (by decide)
          · intro w hw c hc
            rcases List.mem_cons.mp hw with h | h
            · rw [h] at hc
              rcases List.mem_append.mp hc with h | h
              · rcases List.mem_append.mp h with h | h
                · exact hw13 w0 List.mem_cons_self c h
                · exact hzc c h
              · exact hw13 w1 (List.mem_cons_of_mem _ List.mem_cons_self) c h
            · exact hw13 w (List.mem_cons_of_mem _ (List.mem_cons_of_mem _ h)) c hc
      · rintro σ H20 ⟨v2, v3, v4, v5, A1, A2, us, vs, rfl, B20, n1, n2, h1, h2, U, W'⟩
        have U10 : ∀ w ∈ us, w.length ≤ 1000 := fun w h => Nat.le_trans (U.2.1 w h) (by decide)
        have V10 : ∀ w ∈ vs, w.length ≤ 1000 := fun w h => Nat.le_trans (W'.2.1 w h) (by decide)
        have u3 := U.1
        have w3 := W'.1
        have lu := U.len
        have lv := W'.len
        let Mid2 : L2.St → Hp → Prop := fun σ H => ∃ v2 v3 v4 v5, σ = [some (.ref a), some (.ref b), v2, v3, v4, v5, some (.ref A1), some (.ref A2), none] ∧ BagAt H b l ∧ H A1 = some (.lst (txs us)) ∧ H A2 = some (.lst (txs vs))
        refine ⟨Mid2, ?_, ?_⟩
        · refine ⟨_, rfl, A1, us, rfl, SqL.of h1, by omega, U10, fun H21 s21 => ⟨_, rfl, A2, vs, rfl, SqL.of (s21 _ _ h2), by omega, V10, fun H22 s22 => ⟨rfl, ?_⟩⟩⟩
          have h1' := s22 _ _ (s21 _ _ h1)
          have h2' := s22 _ _ (s21 _ _ h2)
          refine ⟨_, rfl, _, rfl, dataT us, dataT vs, dp_txs (SqL.of h1'), dp_txs (SqL.of h2'), shaped_T U.2.2, shaped_T W'.2.2, rfl, _, rfl, ?_⟩
          rw [eqv_T, dec_S]
          have e : decide (ltext us = ltext vs) = decide (us = vs) := by
            by_cases z : us = vs
            · subst z; simp
            · rw [decide_eq_false z, decide_eq_false fun y => z (ltext_inj y)]
          rw [e]
          refine L2.iteNS rfl ⟨_, _, _, _, rfl, B20.mono (s21.trans s22), h1', h2'⟩
        · rintro σ H23 ⟨v2, v3, v4, v5, rfl, B23, h1, h2⟩
          refine ⟨_, rfl, A1, us, rfl, SqL.of h1, by omega, U10, fun H24 s24 => ?_⟩
          refine ⟨_, rfl, (by show 3 ≤ sizeLine; decide), fun p hp => ?_⟩
          have s25 := same_new hp (HO.lst [.str (Str.ofString " "), .str (Str.ofString "\n"), .str (Str.ofString "  ")])
          have B25 := (B23.mono s24).mono s25
          refine ⟨b, l, _, rfl, B25, .inl ⟨p, _, rfl, ((B23.mono s24).nb hp).symm, SqL.of upd_same, by show 0 < 3; decide, by show 3 ≤ 1000; decide, fun v H26 hv b26 B26 => ?_⟩⟩
          obtain ⟨z, rfl, hz2, hz0, hzw⟩ := seps3 v hv
          have h1' := b26 _ _ (s25 _ _ (s24 _ _ h1)) n1
          have h2' := b26 _ _ (s25 _ _ (s24 _ _ h2)) n2
          refine ⟨_, _, rfl, rfl, by rw [S_len, S_len]; exact Nat.le_trans (show _ ≤ 1000 by omega) (by decide), ?_⟩
          rw [S_cat]
          refine ⟨_, rfl, A2, vs, rfl, SqL.of h2', by omega, V10, fun H27 s27 => ?_⟩
          refine ⟨_, _, rfl, rfl, by rw [S_len, S_len, List.length_append]; exact Nat.le_trans (show _ ≤ 1000 by omega) (by decide), ?_⟩
          rw [S_cat, List.append_assoc]
          refine ⟨_, us ++ vs, rfl, by rw [List.length_append, List.length_append]; omega, reads_both hz0 hzw, fun r H28 s28 hr28 hr29 => ?_⟩
          have h1'' := s28 _ _ (s27 _ _ h1')
          have h2'' := s28 _ _ (s27 _ _ h2')
          refine ⟨_, rfl, _, rfl, _, _, _, _, rfl, rfl, h1'', h2'', by rw [txs_len, txs_len]; exact Nat.le_trans (show _ ≤ 10 by omega) (by decide), fun t ht => ?_⟩
          have s29 := same_new ht (HO.lst (txs us ++ txs vs))
          have ea : txs us ++ txs vs = txs (us ++ vs) := by unfold txs; rw [List.map_append]
          have wc : ∀ w ∈ us ++ vs, ∀ c ∈ w, c ∈ abc := fun w hw => by
            rcases List.mem_append.mp hw with h | h
            · exact U.2.2 w h
            · exact W'.2.2 w h
          refine ⟨dataT (us ++ vs), dataT (us ++ vs), dp_txs (SqL.of (s29 _ _ hr29)), dp_txs (SqL.of (by rw [upd_same, ea])), shaped_T wc, shaped_T wc, _, rfl, ?_⟩
          rw [SeqAt.eqv_refl (dataT (us ++ vs)) (layT wc)]
          exact iteF ⟨_, _, _, _, _, _, rfl, (B26.mono s27).mono (s28.trans s29)⟩
  · rintro σ H2 ⟨v2, v3, v4, v5, v6, v7, rfl, B2⟩
    exact q H2
end
end My
namespace My
open PySem L2 SX C8
section
set_option maxHeartbeats 0 in
theorem all_mk {P : Program} {w : World} {K : PySem.W.Frag} {h : Heap} {mg : Str → Option Value} {fa : Addr} (X : K.In h) (G : h.Ns mainGlobals mg) (hfa : mg "law" = some (.ref fa))
    {f0 : Addr} {od0 an0 : Option Addr} {sl0 : Array (Option Value)} {oc0 kV0 dc0 pm0 cd0 ct0 : Value}
    (a0 : PySem.W.nsIn K mainGlobals "pair_end" = some (some (.ref f0)))
    (l0 : K.lookup f0 = some ⟨oc0, od0, .func (PySem.W.fnOf "pair_end" "pair_end" (fnArgs s_pair_end) (fnBody s_pair_end) (fnScope s_pair_end) .none kV0 dc0 pm0 an0 cd0 ct0), sl0⟩)
    (c0 : PySem.W.codeIn K cd0 "pair_end" = true)
    (k0 : PySem.W.keepIn K (.ref f0) = true)
    {f1 : Addr} {od1 an1 : Option Addr} {sl1 : Array (Option Value)} {oc1 kV1 dc1 pm1 cd1 ct1 : Value}
    (a1 : PySem.W.nsIn K mainGlobals "can_stand_in_braces" = some (some (.ref f1)))
    (l1 : K.lookup f1 = some ⟨oc1, od1, .func (PySem.W.fnOf "can_stand_in_braces" "can_stand_in_braces" (fnArgs s_can_stand_in_braces) (fnBody s_can_stand_in_braces) (fnScope s_can_stand_in_braces) .none kV1 dc1 pm1 an1 cd1 ct1), sl1⟩)
    (c1 : PySem.W.codeIn K cd1 "can_stand_in_braces" = true)
    (k1 : PySem.W.keepIn K (.ref f1) = true)
    {f2 : Addr} {od2 an2 : Option Addr} {sl2 : Array (Option Value)} {oc2 kV2 dc2 pm2 cd2 ct2 : Value}
    (a2 : PySem.W.nsIn K mainGlobals "refuse_long" = some (some (.ref f2)))
    (l2 : K.lookup f2 = some ⟨oc2, od2, .func (PySem.W.fnOf "refuse_long" "refuse_long" (fnArgs s_refuse_long) (fnBody s_refuse_long) (fnScope s_refuse_long) .none kV2 dc2 pm2 an2 cd2 ct2), sl2⟩)
    (c2 : PySem.W.codeIn K cd2 "refuse_long" = true)
    (k2 : PySem.W.keepIn K (.ref f2) = true)
    {f3 : Addr} {od3 an3 : Option Addr} {sl3 : Array (Option Value)} {oc3 kV3 dc3 pm3 cd3 ct3 : Value}
    (a3 : PySem.W.nsIn K mainGlobals "turned_sign" = some (some (.ref f3)))
    (l3 : K.lookup f3 = some ⟨oc3, od3, .func (PySem.W.fnOf "turned_sign" "turned_sign" (fnArgs s_turned_sign) (fnBody s_turned_sign) (fnScope s_turned_sign) .none kV3 dc3 pm3 an3 cd3 ct3), sl3⟩)
    (c3 : PySem.W.codeIn K cd3 "turned_sign" = true)
    (k3 : PySem.W.keepIn K (.ref f3) = true)
    {f4 : Addr} {od4 an4 : Option Addr} {sl4 : Array (Option Value)} {oc4 kV4 dc4 pm4 cd4 ct4 : Value}
    (a4 : PySem.W.nsIn K mainGlobals "turned" = some (some (.ref f4)))
    (l4 : K.lookup f4 = some ⟨oc4, od4, .func (PySem.W.fnOf "turned" "turned" (fnArgs s_turned) (fnBody s_turned) (fnScope s_turned) .none kV4 dc4 pm4 an4 cd4 ct4), sl4⟩)
    (c4 : PySem.W.codeIn K cd4 "turned" = true)
    (k4 : PySem.W.keepIn K (.ref f4) = true)
    {f5 : Addr} {od5 an5 : Option Addr} {sl5 : Array (Option Value)} {oc5 kV5 dc5 pm5 cd5 ct5 : Value}
    (a5 : PySem.W.nsIn K mainGlobals "meant" = some (some (.ref f5)))
    (l5 : K.lookup f5 = some ⟨oc5, od5, .func (PySem.W.fnOf "meant" "meant" (fnArgs s_meant) (fnBody s_meant) (fnScope s_meant) .none kV5 dc5 pm5 an5 cd5 ct5), sl5⟩)
    (c5 : PySem.W.codeIn K cd5 "meant" = true)
    (k5 : PySem.W.keepIn K (.ref f5) = true)
    {f6 : Addr} {od6 an6 : Option Addr} {sl6 : Array (Option Value)} {oc6 kV6 dc6 pm6 cd6 ct6 : Value}
    (a6 : PySem.W.nsIn K mainGlobals "word_text" = some (some (.ref f6)))
    (l6 : K.lookup f6 = some ⟨oc6, od6, .func (PySem.W.fnOf "word_text" "word_text" (fnArgs s_word_text) (fnBody s_word_text) (fnScope s_word_text) .none kV6 dc6 pm6 an6 cd6 ct6), sl6⟩)
    (c6 : PySem.W.codeIn K cd6 "word_text" = true)
    (k6 : PySem.W.keepIn K (.ref f6) = true)
    {f7 : Addr} {od7 an7 : Option Addr} {sl7 : Array (Option Value)} {oc7 kV7 dc7 pm7 cd7 ct7 : Value}
    (a7 : PySem.W.nsIn K mainGlobals "list_text" = some (some (.ref f7)))
    (l7 : K.lookup f7 = some ⟨oc7, od7, .func (PySem.W.fnOf "list_text" "list_text" (fnArgs s_list_text) (fnBody s_list_text) (fnScope s_list_text) .none kV7 dc7 pm7 an7 cd7 ct7), sl7⟩)
    (c7 : PySem.W.codeIn K cd7 "list_text" = true)
    (k7 : PySem.W.keepIn K (.ref f7) = true)
    {f8 : Addr} {od8 an8 : Option Addr} {sl8 : Array (Option Value)} {oc8 kV8 dc8 pm8 cd8 ct8 : Value}
    (a8 : PySem.W.nsIn K mainGlobals "read_list" = some (some (.ref f8)))
    (l8 : K.lookup f8 = some ⟨oc8, od8, .func (PySem.W.fnOf "read_list" "read_list" (fnArgs s_read_list) (fnBody s_read_list) (fnScope s_read_list) .none kV8 dc8 pm8 an8 cd8 ct8), sl8⟩)
    (c8 : PySem.W.codeIn K cd8 "read_list" = true)
    (k8 : PySem.W.keepIn K (.ref f8) = true)
    {f9 : Addr} {od9 an9 : Option Addr} {sl9 : Array (Option Value)} {oc9 kV9 dc9 pm9 cd9 ct9 : Value}
    (a9 : PySem.W.nsIn K mainGlobals "read_words" = some (some (.ref f9)))
    (l9 : K.lookup f9 = some ⟨oc9, od9, .func (PySem.W.fnOf "read_words" "read_words" (fnArgs s_read_words) (fnBody s_read_words) (fnScope s_read_words) .none kV9 dc9 pm9 an9 cd9 ct9), sl9⟩)
    (c9 : PySem.W.codeIn K cd9 "read_words" = true)
    (k9 : PySem.W.keepIn K (.ref f9) = true)
    {f10 : Addr} {od10 an10 : Option Addr} {sl10 : Array (Option Value)} {oc10 kV10 dc10 pm10 cd10 ct10 : Value}
    (a10 : PySem.W.nsIn K mainGlobals "behind_white" = some (some (.ref f10)))
    (l10 : K.lookup f10 = some ⟨oc10, od10, .func (PySem.W.fnOf "behind_white" "behind_white" (fnArgs s_behind_white) (fnBody s_behind_white) (fnScope s_behind_white) .none kV10 dc10 pm10 an10 cd10 ct10), sl10⟩)
    (c10 : PySem.W.codeIn K cd10 "behind_white" = true)
    (k10 : PySem.W.keepIn K (.ref f10) = true)
    {f11 : Addr} {od11 an11 : Option Addr} {sl11 : Array (Option Value)} {oc11 kV11 dc11 pm11 cd11 ct11 : Value}
    (a11 : PySem.W.nsIn K mainGlobals "read_word" = some (some (.ref f11)))
    (l11 : K.lookup f11 = some ⟨oc11, od11, .func (PySem.W.fnOf "read_word" "read_word" (fnArgs s_read_word) (fnBody s_read_word) (fnScope s_read_word) .none kV11 dc11 pm11 an11 cd11 ct11), sl11⟩)
    (c11 : PySem.W.codeIn K cd11 "read_word" = true)
    (k11 : PySem.W.keepIn K (.ref f11) = true)
    {f12 : Addr} {od12 an12 : Option Addr} {sl12 : Array (Option Value)} {oc12 kV12 dc12 pm12 cd12 ct12 : Value}
    (a12 : PySem.W.nsIn K mainGlobals "read_braced" = some (some (.ref f12)))
    (l12 : K.lookup f12 = some ⟨oc12, od12, .func (PySem.W.fnOf "read_braced" "read_braced" (fnArgs s_read_braced) (fnBody s_read_braced) (fnScope s_read_braced) .none kV12 dc12 pm12 an12 cd12 ct12), sl12⟩)
    (c12 : PySem.W.codeIn K cd12 "read_braced" = true)
    (k12 : PySem.W.keepIn K (.ref f12) = true)
    {f13 : Addr} {od13 an13 : Option Addr} {sl13 : Array (Option Value)} {oc13 kV13 dc13 pm13 cd13 ct13 : Value}
    (a13 : PySem.W.nsIn K mainGlobals "read_bare" = some (some (.ref f13)))
    (l13 : K.lookup f13 = some ⟨oc13, od13, .func (PySem.W.fnOf "read_bare" "read_bare" (fnArgs s_read_bare) (fnBody s_read_bare) (fnScope s_read_bare) .none kV13 dc13 pm13 an13 cd13 ct13), sl13⟩)
    (c13 : PySem.W.codeIn K cd13 "read_bare" = true)
    (k13 : PySem.W.keepIn K (.ref f13) = true)
    {f14 : Addr} {od14 an14 : Option Addr} {sl14 : Array (Option Value)} {oc14 kV14 dc14 pm14 cd14 ct14 : Value}
    (a14 : PySem.W.nsIn K mainGlobals "_law_bag" = some (some (.ref f14)))
    (l14 : K.lookup f14 = some ⟨oc14, od14, .func (PySem.W.fnOf "_law_bag" "_law_bag" (fnArgs s__law_bag) (fnBody s__law_bag) (fnScope s__law_bag) .none kV14 dc14 pm14 an14 cd14 ct14), sl14⟩)
    (c14 : PySem.W.codeIn K cd14 "_law_bag" = true)
    (k14 : PySem.W.keepIn K (.ref f14) = true)
    {f15 : Addr} {od15 an15 : Option Addr} {sl15 : Array (Option Value)} {oc15 kV15 dc15 pm15 cd15 ct15 : Value}
    (a15 : PySem.W.nsIn K mainGlobals "_law_pull" = some (some (.ref f15)))
    (l15 : K.lookup f15 = some ⟨oc15, od15, .func (PySem.W.fnOf "_law_pull" "_law_pull" (fnArgs s__law_pull) (fnBody s__law_pull) (fnScope s__law_pull) .none kV15 dc15 pm15 an15 cd15 ct15), sl15⟩)
    (c15 : PySem.W.codeIn K cd15 "_law_pull" = true)
    (k15 : PySem.W.keepIn K (.ref f15) = true)
    {f16 : Addr} {od16 an16 : Option Addr} {sl16 : Array (Option Value)} {oc16 kV16 dc16 pm16 cd16 ct16 : Value}
    (a16 : PySem.W.nsIn K mainGlobals "_law_like" = some (some (.ref f16)))
    (l16 : K.lookup f16 = some ⟨oc16, od16, .func (PySem.W.fnOf "_law_like" "_law_like" (fnArgs s__law_like) (fnBody s__law_like) (fnScope s__law_like) .none kV16 dc16 pm16 an16 cd16 ct16), sl16⟩)
    (c16 : PySem.W.codeIn K cd16 "_law_like" = true)
    (k16 : PySem.W.keepIn K (.ref f16) = true)
    {f17 : Addr} {od17 an17 : Option Addr} {sl17 : Array (Option Value)} {oc17 kV17 dc17 pm17 cd17 ct17 : Value}
    (a17 : PySem.W.nsIn K mainGlobals "_law_of" = some (some (.ref f17)))
    (l17 : K.lookup f17 = some ⟨oc17, od17, .func (PySem.W.fnOf "_law_of" "_law_of" (fnArgs s__law_of) (fnBody s__law_of) (fnScope s__law_of) .none kV17 dc17 pm17 an17 cd17 ct17), sl17⟩)
    (c17 : PySem.W.codeIn K cd17 "_law_of" = true)
    (k17 : PySem.W.keepIn K (.ref f17) = true)
    {f18 : Addr} {od18 an18 : Option Addr} {sl18 : Array (Option Value)} {oc18 kV18 dc18 pm18 cd18 ct18 : Value}
    (a18 : PySem.W.nsIn K mainGlobals "_law_text" = some (some (.ref f18)))
    (l18 : K.lookup f18 = some ⟨oc18, od18, .func (PySem.W.fnOf "_law_text" "_law_text" (fnArgs s__law_text) (fnBody s__law_text) (fnScope s__law_text) .none kV18 dc18 pm18 an18 cd18 ct18), sl18⟩)
    (c18 : PySem.W.codeIn K cd18 "_law_text" = true)
    (k18 : PySem.W.keepIn K (.ref f18) = true)
    {f19 : Addr} {od19 an19 : Option Addr} {sl19 : Array (Option Value)} {oc19 kV19 dc19 pm19 cd19 ct19 : Value}
    (a19 : PySem.W.nsIn K mainGlobals "_law_nested" = some (some (.ref f19)))
    (l19 : K.lookup f19 = some ⟨oc19, od19, .func (PySem.W.fnOf "_law_nested" "_law_nested" (fnArgs s__law_nested) (fnBody s__law_nested) (fnScope s__law_nested) .none kV19 dc19 pm19 an19 cd19 ct19), sl19⟩)
    (c19 : PySem.W.codeIn K cd19 "_law_nested" = true)
    (k19 : PySem.W.keepIn K (.ref f19) = true)
    {f20 : Addr} {od20 an20 : Option Addr} {sl20 : Array (Option Value)} {oc20 kV20 dc20 pm20 cd20 ct20 : Value}
    (a20 : PySem.W.nsIn K mainGlobals "_law_packed" = some (some (.ref f20)))
    (l20 : K.lookup f20 = some ⟨oc20, od20, .func (PySem.W.fnOf "_law_packed" "_law_packed" (fnArgs s__law_packed) (fnBody s__law_packed) (fnScope s__law_packed) .none kV20 dc20 pm20 an20 cd20 ct20), sl20⟩)
    (c20 : PySem.W.codeIn K cd20 "_law_packed" = true)
    (k20 : PySem.W.keepIn K (.ref f20) = true)
    {f21 : Addr} {od21 an21 : Option Addr} {sl21 : Array (Option Value)} {oc21 kV21 dc21 pm21 cd21 ct21 : Value}
    (a21 : PySem.W.nsIn K mainGlobals "_law_unpacked" = some (some (.ref f21)))
    (l21 : K.lookup f21 = some ⟨oc21, od21, .func (PySem.W.fnOf "_law_unpacked" "_law_unpacked" (fnArgs s__law_unpacked) (fnBody s__law_unpacked) (fnScope s__law_unpacked) .none kV21 dc21 pm21 an21 cd21 ct21), sl21⟩)
    (c21 : PySem.W.codeIn K cd21 "_law_unpacked" = true)
    (k21 : PySem.W.keepIn K (.ref f21) = true)
    {f22 : Addr} {od22 an22 : Option Addr} {sl22 : Array (Option Value)} {oc22 kV22 dc22 pm22 cd22 ct22 : Value}
    (a22 : PySem.W.nsIn K mainGlobals "law" = some (some (.ref f22)))
    (l22 : K.lookup f22 = some ⟨oc22, od22, .func (PySem.W.fnOf "law" "law" (fnArgs s_law) (fnBody s_law) (fnScope s_law) .none kV22 dc22 pm22 an22 cd22 ct22), sl22⟩)
    (c22 : PySem.W.codeIn K cd22 "law" = true)
    (k22 : PySem.W.keepIn K (.ref f22) = true)
    (z0 : PySem.W.nsIn K mainGlobals "range" = some none)
    (z1 : PySem.W.nsIn K mainGlobals "len" = some none)
    (z2 : PySem.W.nsIn K mainGlobals "list" = some none)
    (z3 : PySem.W.nsIn K mainGlobals "isinstance" = some none)
    (z4 : PySem.W.nsIn K mainGlobals "all" = some none)
    (z5 : PySem.W.nsIn K mainGlobals "tuple" = some none)
    (z6 : PySem.W.nsIn K mainGlobals "bool" = some none)
    {t0 : Tok}
    (y0 : PySem.W.nsIn K mainGlobals "LONGEST" = some (some (.int 1000 t0)))
    {t1 : Tok}
    (y1 : PySem.W.nsIn K mainGlobals "TURNED_SIGNS" = some (some (.str (Str.ofString " \\{}\"$[];#") t1)))
    {t2 : Tok}
    (y2 : PySem.W.nsIn K mainGlobals "TURN" = some (some (.str (Str.ofString "\\") t2)))
    {t3 : Tok}
    (y3 : PySem.W.nsIn K mainGlobals "WHITE" = some (some (.str (Str.ofString " \n") t3)))
    {CBadList : Addr}
    (gBadList : PySem.W.nsIn K mainGlobals "BadList" = some (some (.ref CBadList)))
    {fBadList___init__ : Addr} {odBadList___init__ anBadList___init__ : Option Addr} {slBadList___init__ : Array (Option Value)} {ocBadList___init__ kVBadList___init__ dcBadList___init__ pmBadList___init__ cdBadList___init__ ctBadList___init__ : Value}
    (aBadList___init__ : PySem.W.findIn K (.ref CBadList) "__init__" = some (some (.ref fBadList___init__)))
    (lBadList___init__ : K.lookup fBadList___init__ = some ⟨ocBadList___init__, odBadList___init__, .func (PySem.W.fnOf "__init__" "BadList.__init__" (fnArgs s_BadList___init__) (fnBody s_BadList___init__) (fnScope s_BadList___init__) .none kVBadList___init__ dcBadList___init__ pmBadList___init__ anBadList___init__ cdBadList___init__ ctBadList___init__), slBadList___init__⟩)
    (cBadList___init__ : PySem.W.codeIn K cdBadList___init__ "BadList.__init__" = true)
    (iBadList___init__ : PySem.W.typeIn K (.ref fBadList___init__) = some (.type "function"))
    (nBadList_place : PySem.W.findIn K (.ref CBadList) "place" = some none)
    {rBadList0 : Addr}
    {nmBadList qBadList : Str} {NBadList : Addr} {bsBadList : List Value} {snBadList : List Str} {subBadList : List Value} {abBadList : Bool} {colBadList : Option Bool} {ddBadList : Option Addr} {m0BadList m1BadList m2BadList m3BadList m5BadList : Option Value}
    (xBadList : K.lookup CBadList = some (excClassObj nmBadList qBadList CBadList NBadList bsBadList [.ref rBadList0, .type "ValueError", .type "Exception", .type "BaseException", .type "object"] true snBadList subBadList abBadList colBadList ddBadList m0BadList m1BadList m2BadList m3BadList m5BadList "ValueError.__new__"))
    (saBadList : PySem.W.findIn K (.ref CBadList) "__setattr__" = some (some (.builtin "object.__setattr__")))
    (gaBadList : PySem.W.findIn K (.ref CBadList) "__getattribute__" = some (some (.builtin "BaseException.__getattribute__")))
    (ggBadList : PySem.W.findIn K (.ref CBadList) "__getattr__" = some none)
    (exBadList : PySem.W.subIn K (.ref CBadList) (.type "BaseException") = some true)
    (tyBadList : PySem.W.typeIn K (.ref CBadList) = some (.type "type"))
    (kcBadList : PySem.W.keepIn K (.ref CBadList) = true)
    (hdBadList : PySem.W.hasDictIn K CBadList = true)
    (icBadList : PySem.W.isClsIn K CBadList = true)
    (suBadList : PySem.W.subIn K (.ref CBadList) (.ref CBadList) = some true)
    : ∃ fd : FuncData, (∀ (s : Shared) (v : Value), BindsTo s fd ⟨[v], []⟩ [("_law_script", v)]) ∧ ∀ base : Heap, K.In base → base.Ns mainGlobals mg → FnOk P w K mg base C8.CX0 10 fa fd ["_law_script"] (spLaw K) := by
  have e := hfa.symm.trans (PySem.W.mg_of X G a22)
  cases e
  have T : Txt mg := ⟨PySem.W.mg_none_of X G z0, PySem.W.mg_none_of X G z1, PySem.W.mg_none_of X G z2, PySem.W.mg_none_of X G z3, PySem.W.mg_none_of X G z4, PySem.W.mg_none_of X G z5, PySem.W.mg_none_of X G z6, ⟨_, PySem.W.mg_of X G y0, ⟨_, rfl⟩⟩, ⟨_, PySem.W.mg_of X G y1, ⟨_, rfl⟩⟩, ⟨_, PySem.W.mg_of X G y2, ⟨_, rfl⟩⟩, ⟨_, PySem.W.mg_of X G y3, ⟨_, rfl⟩⟩⟩
  have F_pair_end : Def K mg "pair_end" s_pair_end f0 _ := ⟨⟨oc0, od0, .none, kV0, dc0, pm0, an0, cd0, ct0, sl0, rfl, l0, c0⟩, PySem.W.mg_of X G a0, k0⟩
  have b_pair_end := F_pair_end.fn.binds (ps := ["text", "start"]) rfl fun _ _ _ _ _ _ us hl => match us, hl with | [_, _], _ => rfl
  have F_can_stand_in_braces : Def K mg "can_stand_in_braces" s_can_stand_in_braces f1 _ := ⟨⟨oc1, od1, .none, kV1, dc1, pm1, an1, cd1, ct1, sl1, rfl, l1, c1⟩, PySem.W.mg_of X G a1, k1⟩
  have b_can_stand_in_braces := F_can_stand_in_braces.fn.binds (ps := ["word"]) rfl fun _ _ _ _ _ _ us hl => match us, hl with | [_], _ => rfl
  have F_refuse_long : Def K mg "refuse_long" s_refuse_long f2 _ := ⟨⟨oc2, od2, .none, kV2, dc2, pm2, an2, cd2, ct2, sl2, rfl, l2, c2⟩, PySem.W.mg_of X G a2, k2⟩
  have b_refuse_long := F_refuse_long.fn.binds (ps := ["text"]) rfl fun _ _ _ _ _ _ us hl => match us, hl with | [_], _ => rfl
  have F_turned_sign : Def K mg "turned_sign" s_turned_sign f3 _ := ⟨⟨oc3, od3, .none, kV3, dc3, pm3, an3, cd3, ct3, sl3, rfl, l3, c3⟩, PySem.W.mg_of X G a3, k3⟩
  have b_turned_sign := F_turned_sign.fn.binds (ps := ["sign"]) rfl fun _ _ _ _ _ _ us hl => match us, hl with | [_], _ => rfl
  have F_turned : Def K mg "turned" s_turned f4 _ := ⟨⟨oc4, od4, .none, kV4, dc4, pm4, an4, cd4, ct4, sl4, rfl, l4, c4⟩, PySem.W.mg_of X G a4, k4⟩
  have b_turned := F_turned.fn.binds (ps := ["text"]) rfl fun _ _ _ _ _ _ us hl => match us, hl with | [_], _ => rfl
  have F_meant : Def K mg "meant" s_meant f5 _ := ⟨⟨oc5, od5, .none, kV5, dc5, pm5, an5, cd5, ct5, sl5, rfl, l5, c5⟩, PySem.W.mg_of X G a5, k5⟩
  have b_meant := F_meant.fn.binds (ps := ["sign"]) rfl fun _ _ _ _ _ _ us hl => match us, hl with | [_], _ => rfl
  have F_word_text : Def K mg "word_text" s_word_text f6 _ := ⟨⟨oc6, od6, .none, kV6, dc6, pm6, an6, cd6, ct6, sl6, rfl, l6, c6⟩, PySem.W.mg_of X G a6, k6⟩
  have b_word_text := F_word_text.fn.binds (ps := ["word"]) rfl fun _ _ _ _ _ _ us hl => match us, hl with | [_], _ => rfl
  have F_list_text : Def K mg "list_text" s_list_text f7 _ := ⟨⟨oc7, od7, .none, kV7, dc7, pm7, an7, cd7, ct7, sl7, rfl, l7, c7⟩, PySem.W.mg_of X G a7, k7⟩
  have b_list_text := F_list_text.fn.binds (ps := ["words"]) rfl fun _ _ _ _ _ _ us hl => match us, hl with | [_], _ => rfl
  have F_read_list : Def K mg "read_list" s_read_list f8 _ := ⟨⟨oc8, od8, .none, kV8, dc8, pm8, an8, cd8, ct8, sl8, rfl, l8, c8⟩, PySem.W.mg_of X G a8, k8⟩
  have b_read_list := F_read_list.fn.binds (ps := ["text"]) rfl fun _ _ _ _ _ _ us hl => match us, hl with | [_], _ => rfl
  have F_read_words : Def K mg "read_words" s_read_words f9 _ := ⟨⟨oc9, od9, .none, kV9, dc9, pm9, an9, cd9, ct9, sl9, rfl, l9, c9⟩, PySem.W.mg_of X G a9, k9⟩
  have b_read_words := F_read_words.fn.binds (ps := ["text"]) rfl fun _ _ _ _ _ _ us hl => match us, hl with | [_], _ => rfl
  have F_behind_white : Def K mg "behind_white" s_behind_white f10 _ := ⟨⟨oc10, od10, .none, kV10, dc10, pm10, an10, cd10, ct10, sl10, rfl, l10, c10⟩, PySem.W.mg_of X G a10, k10⟩
  have b_behind_white := F_behind_white.fn.binds (ps := ["text", "start"]) rfl fun _ _ _ _ _ _ us hl => match us, hl with | [_, _], _ => rfl
  have F_read_word : Def K mg "read_word" s_read_word f11 _ := ⟨⟨oc11, od11, .none, kV11, dc11, pm11, an11, cd11, ct11, sl11, rfl, l11, c11⟩, PySem.W.mg_of X G a11, k11⟩
  have b_read_word := F_read_word.fn.binds (ps := ["text", "start"]) rfl fun _ _ _ _ _ _ us hl => match us, hl with | [_, _], _ => rfl
  have F_read_braced : Def K mg "read_braced" s_read_braced f12 _ := ⟨⟨oc12, od12, .none, kV12, dc12, pm12, an12, cd12, ct12, sl12, rfl, l12, c12⟩, PySem.W.mg_of X G a12, k12⟩
  have b_read_braced := F_read_braced.fn.binds (ps := ["text", "start"]) rfl fun _ _ _ _ _ _ us hl => match us, hl with | [_, _], _ => rfl
  have F_read_bare : Def K mg "read_bare" s_read_bare f13 _ := ⟨⟨oc13, od13, .none, kV13, dc13, pm13, an13, cd13, ct13, sl13, rfl, l13, c13⟩, PySem.W.mg_of X G a13, k13⟩
  have b_read_bare := F_read_bare.fn.binds (ps := ["text", "start"]) rfl fun _ _ _ _ _ _ us hl => match us, hl with | [_, _], _ => rfl
  have F__law_bag : Def K mg "_law_bag" s__law_bag f14 _ := ⟨⟨oc14, od14, .none, kV14, dc14, pm14, an14, cd14, ct14, sl14, rfl, l14, c14⟩, PySem.W.mg_of X G a14, k14⟩
  have b__law_bag := F__law_bag.fn.binds (ps := ["_law_script"]) rfl fun _ _ _ _ _ _ us hl => match us, hl with | [_], _ => rfl
  have F__law_pull : Def K mg "_law_pull" s__law_pull f15 _ := ⟨⟨oc15, od15, .none, kV15, dc15, pm15, an15, cd15, ct15, sl15, rfl, l15, c15⟩, PySem.W.mg_of X G a15, k15⟩
  have b__law_pull := F__law_pull.fn.binds (ps := ["_law_bag_here", "_law_amount"]) rfl fun _ _ _ _ _ _ us hl => match us, hl with | [_, _], _ => rfl
  have F__law_like : Def K mg "_law_like" s__law_like f16 _ := ⟨⟨oc16, od16, .none, kV16, dc16, pm16, an16, cd16, ct16, sl16, rfl, l16, c16⟩, PySem.W.mg_of X G a16, k16⟩
  have b__law_like := F__law_like.fn.binds (ps := ["_law_found", "_law_due"]) rfl fun _ _ _ _ _ _ us hl => match us, hl with | [_, _], _ => rfl
  have F__law_of : Def K mg "_law_of" s__law_of f17 _ := ⟨⟨oc17, od17, .none, kV17, dc17, pm17, an17, cd17, ct17, sl17, rfl, l17, c17⟩, PySem.W.mg_of X G a17, k17⟩
  have b__law_of := F__law_of.fn.binds (ps := ["_law_bag_here", "_law_things"]) rfl fun _ _ _ _ _ _ us hl => match us, hl with | [_, _], _ => rfl
  have F__law_text : Def K mg "_law_text" s__law_text f18 _ := ⟨⟨oc18, od18, .none, kV18, dc18, pm18, an18, cd18, ct18, sl18, rfl, l18, c18⟩, PySem.W.mg_of X G a18, k18⟩
  have b__law_text := F__law_text.fn.binds (ps := ["_law_bag_here", "_law_top"]) rfl fun _ _ _ _ _ _ us hl => match us, hl with | [_, _], _ => rfl
  have F__law_nested : Def K mg "_law_nested" s__law_nested f19 _ := ⟨⟨oc19, od19, .none, kV19, dc19, pm19, an19, cd19, ct19, sl19, rfl, l19, c19⟩, PySem.W.mg_of X G a19, k19⟩
  have b__law_nested := F__law_nested.fn.binds (ps := ["_law_bag_here", "_law_deep"]) rfl fun _ _ _ _ _ _ us hl => match us, hl with | [_, _], _ => rfl
  have F__law_packed : Def K mg "_law_packed" s__law_packed f20 _ := ⟨⟨oc20, od20, .none, kV20, dc20, pm20, an20, cd20, ct20, sl20, rfl, l20, c20⟩, PySem.W.mg_of X G a20, k20⟩
  have b__law_packed := F__law_packed.fn.binds (ps := ["_law_thing", "_law_deep"]) rfl fun _ _ _ _ _ _ us hl => match us, hl with | [_, _], _ => rfl
  have F__law_unpacked : Def K mg "_law_unpacked" s__law_unpacked f21 _ := ⟨⟨oc21, od21, .none, kV21, dc21, pm21, an21, cd21, ct21, sl21, rfl, l21, c21⟩, PySem.W.mg_of X G a21, k21⟩
  have b__law_unpacked := F__law_unpacked.fn.binds (ps := ["_law_text_here", "_law_deep"]) rfl fun _ _ _ _ _ _ us hl => match us, hl with | [_, _], _ => rfl
  have F_law : Def K mg "law" s_law fa _ := ⟨⟨oc22, od22, .none, kV22, dc22, pm22, an22, cd22, ct22, sl22, rfl, l22, c22⟩, PySem.W.mg_of X G a22, k22⟩
  have b_law := F_law.fn.binds (ps := ["_law_script"]) rfl fun _ _ _ _ _ _ us hl => match us, hl with | [_], _ => rfl
  have mg_BadList := PySem.W.mg_of X G gBadList
  have F_BadList___init__ : C8.Fun K "__init__" "BadList.__init__" s_BadList___init__ fBadList___init__ _ := ⟨ocBadList___init__, odBadList___init__, .none, kVBadList___init__, dcBadList___init__, pmBadList___init__, anBadList___init__, cdBadList___init__, ctBadList___init__, slBadList___init__, rfl, lBadList___init__, cBadList___init__⟩
  have b_BadList___init__ := F_BadList___init__.binds (ps := ["self", "place"]) rfl fun _ _ _ _ _ _ us hl => match us, hl with | [_, _], _ => rfl
  have ox_BadList : OexC K CBadList := ⟨⟨_, _, _, _, _, _, _, _, _, _, _, _, _, _, _, xBadList, by show PySem.HandSPX.refsVE PySem.HandSPX.veTail = true; decide +kernel⟩, saBadList, exBadList, tyBadList, kcBadList⟩
  have xf_BadList : XfC K CBadList := ⟨gaBadList, ggBadList, exBadList, hdBadList⟩
  have te_BadList := exm_self exBadList icBadList tyBadList suBadList
  refine ⟨PySem.W.fnOf "law" "law" (fnArgs s_law) (fnBody s_law) (fnScope s_law) .none kV22 dc22 pm22 an22 cd22 ct22, fun s v => .of_eq rfl, fun base _ _ => ?_⟩
  have c_pair_end := ok_pair_end (P := P) (w := w) (base := base) F_pair_end b_pair_end T 
  have c_can_stand_in_braces := ok_can_stand_in_braces (P := P) (w := w) (base := base) F_can_stand_in_braces b_can_stand_in_braces T c_pair_end
  have c_turned_sign := ok_turned_sign (P := P) (w := w) (base := base) F_turned_sign b_turned_sign T 
  have c_turned := ok_turned (P := P) (w := w) (base := base) F_turned b_turned T c_turned_sign
  have c_word_text := ok_word_text (P := P) (w := w) (base := base) F_word_text b_word_text T c_turned c_can_stand_in_braces
  have c_list_text := ok_list_text (P := P) (w := w) (base := base) F_list_text b_list_text T c_word_text
  have c_refuse_long := ok_refuse_long (P := P) (w := w) (base := base) F_refuse_long b_refuse_long T 
  have c_behind_white := ok_behind_white (P := P) (w := w) (base := base) F_behind_white b_behind_white T 
  have c_meant := ok_meant (P := P) (w := w) (base := base) F_meant b_meant T 
  have c_read_braced := ok_read_braced (P := P) (w := w) (base := base) F_read_braced b_read_braced T c_pair_end
  have c_read_bare := ok_read_bare (P := P) (w := w) (base := base) F_read_bare b_read_bare T c_meant
  have c_read_word := ok_read_word (P := P) (w := w) (base := base) F_read_word b_read_word T c_read_braced c_read_bare
  have c_read_words := ok_read_words (P := P) (w := w) (base := base) F_read_words b_read_words T c_behind_white c_read_word
  have c_read_list := ok_read_list (P := P) (w := w) (base := base) F_read_list b_read_list T c_refuse_long c_read_words
  have c__law_bag := ok__law_bag (P := P) (w := w) (base := base) F__law_bag b__law_bag T 
  have c__law_pull := ok__law_pull (P := P) (w := w) (base := base) F__law_pull b__law_pull T 
  have c__law_of := ok__law_of (P := P) (w := w) (base := base) F__law_of b__law_of T c__law_pull
  have c__law_text := ok__law_text (P := P) (w := w) (base := base) F__law_text b__law_text T c__law_pull c__law_of
  have c__law_like := ok__law_like (P := P) (w := w) (base := base) F__law_like b__law_like T 4
  have c__law_nested := ok__law_nested (P := P) (w := w) (base := base) F__law_nested b__law_nested T c__law_pull c__law_text 4
  have c__law_packed := ok__law_packed (P := P) (w := w) (base := base) F__law_packed b__law_packed T c_list_text 4
  have c__law_unpacked := ok__law_unpacked (P := P) (w := w) (base := base) F__law_unpacked b__law_unpacked T c_read_list 4
  exact ok_law F_law T c__law_bag c__law_pull c__law_of c__law_text c__law_like c_list_text c_read_list c__law_nested c__law_packed c__law_unpacked
theorem walk {l : PySem.W.OpenLaw} {q : Program} {loose : List Str} {XP : (Str → Option Value) → Heap → Prop} {YP : World → Heap → Prop} {d : DefRec} {K : Params → PySem.W.Frag} (hn : l.most = some 63) (hdf : d.params.defaults = [])
    (hY : ∀ (w : World) (h : Heap), YP w h → (K w.params).In h)
    (F : ∀ (w : World) (mg : Str → Option Value) (fa : Addr) (h : Heap), (K w.params).In h → h.Ns mainGlobals mg → mg d.name = some (.ref fa) →
      ∃ fd : FuncData, (∀ (s : Shared) (u : Value), BindsTo s fd ⟨[u], []⟩ [("_law_script", u)]) ∧ ∀ base : Heap, (K w.params).In base → base.Ns mainGlobals mg → FnOk l.prog w (K w.params) mg base C8.CX0 10 fa fd ["_law_script"] (spLaw (K w.params))) :
    PySem.W.WalkO q loose XP YP l.row.toRowW d [] (fun f vs => PySem.call f vs) :=
  L2.walk_of (n := 63) (k := 10) (x := "_law_script") (CX := fun _ => C8.CX0) (sp := fun w => spLaw (K w.params)) hn (by decide) hdf ⟨rfl, by decide, by decide⟩ hY F (fun _ _ a ns hl _ hS => ⟨a, ns, rfl, hS, hl, fun _ => rfl⟩) fun _ _ _ _ _ z => z
end
end My
open PySem PySem.W PyProof.Rows
set_option maxRecDepth 100000 in
set_option maxHeartbeats 0 in
theorem PySem.Challenge.cw_wordrooms_k05_whole_lists_within_lists_holds : PySem.Challenge.rw_wordrooms_k05_whole_lists_within_lists.Holds := by
  w_on; o_law; k_head; (case hw => w_witness2)
  k_fill
  refine My.walk (l := PySem.Challenge.rw_wordrooms_k05_whole_lists_within_lists) rfl rfl (fun w h Y => PySem.W.kIn_of Y) ?F
  case F =>
    intro w mg fa h KX G hmg
    refine' My.all_mk KX G hmg ?a0 ?l0 ?c0 ?k0 ?a1 ?l1 ?c1 ?k1 ?a2 ?l2 ?c2 ?k2 ?a3 ?l3 ?c3 ?k3 ?a4 ?l4 ?c4 ?k4 ?a5 ?l5 ?c5 ?k5 ?a6 ?l6 ?c6 ?k6 ?a7 ?l7 ?c7 ?k7 ?a8 ?l8 ?c8 ?k8 ?a9 ?l9 ?c9 ?k9 ?a10 ?l10 ?c10 ?k10 ?a11 ?l11 ?c11 ?k11 ?a12 ?l12 ?c12 ?k12 ?a13 ?l13 ?c13 ?k13 ?a14 ?l14 ?c14 ?k14 ?a15 ?l15 ?c15 ?k15 ?a16 ?l16 ?c16 ?k16 ?a17 ?l17 ?c17 ?k17 ?a18 ?l18 ?c18 ?k18 ?a19 ?l19 ?c19 ?k19 ?a20 ?l20 ?c20 ?k20 ?a21 ?l21 ?c21 ?k21 ?a22 ?l22 ?c22 ?k22 ?z0 ?z1 ?z2 ?z3 ?z4 ?z5 ?z6 ?y0 ?y1 ?y2 ?y3 ?gBadList ?aBadList___init__ ?lBadList___init__ ?cBadList___init__ ?iBadList___init__ ?nBadList_place ?xBadList ?saBadList ?gaBadList ?ggBadList ?exBadList ?tyBadList ?kcBadList ?hdBadList ?icBadList ?suBadList
    (case a0 => k_is); (case l0 => k_is); (case c0 => k_is); (case k0 => k_is); (case a1 => k_is); (case l1 => k_is)
    (case c1 => k_is); (case k1 => k_is); (case a2 => k_is); (case l2 => k_is); (case c2 => k_is); (case k2 => k_is)
    (case a3 => k_is); (case l3 => k_is); (case c3 => k_is); (case k3 => k_is); (case a4 => k_is); (case l4 => k_is)
    (case c4 => k_is); (case k4 => k_is); (case a5 => k_is); (case l5 => k_is); (case c5 => k_is); (case k5 => k_is)
    (case a6 => k_is); (case l6 => k_is); (case c6 => k_is); (case k6 => k_is); (case a7 => k_is); (case l7 => k_is)
    (case c7 => k_is); (case k7 => k_is); (case a8 => k_is); (case l8 => k_is); (case c8 => k_is); (case k8 => k_is)
    (case a9 => k_is); (case l9 => k_is); (case c9 => k_is); (case k9 => k_is); (case a10 => k_is); (case l10 => k_is)
    (case c10 => k_is); (case k10 => k_is); (case a11 => k_is); (case l11 => k_is); (case c11 => k_is); (case k11 => k_is)
    (case a12 => k_is); (case l12 => k_is); (case c12 => k_is); (case k12 => k_is); (case a13 => k_is); (case l13 => k_is)
    (case c13 => k_is); (case k13 => k_is); (case a14 => k_is); (case l14 => k_is); (case c14 => k_is); (case k14 => k_is)
    (case a15 => k_is); (case l15 => k_is); (case c15 => k_is); (case k15 => k_is); (case a16 => k_is); (case l16 => k_is)
    (case c16 => k_is); (case k16 => k_is); (case a17 => k_is); (case l17 => k_is); (case c17 => k_is); (case k17 => k_is)
    (case a18 => k_is); (case l18 => k_is); (case c18 => k_is); (case k18 => k_is); (case a19 => k_is); (case l19 => k_is)
    (case c19 => k_is); (case k19 => k_is); (case a20 => k_is); (case l20 => k_is); (case c20 => k_is); (case k20 => k_is)
    (case a21 => k_is); (case l21 => k_is); (case c21 => k_is); (case k21 => k_is); (case a22 => k_is); (case l22 => k_is)
    (case c22 => k_is); (case k22 => k_is); (case z0 => k_is); (case z1 => k_is); (case z2 => k_is); (case z3 => k_is)
    (case z4 => k_is); (case z5 => k_is); (case z6 => k_is); (case y0 => k_is); (case y1 => k_is); (case y2 => k_is)
    (case y3 => k_is); (case gBadList => k_is); (case aBadList___init__ => k_is); (case lBadList___init__ => k_is); (case cBadList___init__ => k_is); (case iBadList___init__ => k_is)
    (case nBadList_place => k_is); (case xBadList => k_is); (case saBadList => k_is); (case gaBadList => k_is); (case ggBadList => k_is); (case exBadList => k_is)
    (case tyBadList => k_is); (case kcBadList => k_is); (case hdBadList => k_is); (case icBadList => k_is); (case suBadList => first | rfl | k_is)
#print axioms PySem.Challenge.cw_wordrooms_k05_whole_lists_within_lists_holds
