import PyProof.Rows.All
import Wide.All
import OpenK.AllK
import Wide.FinOn
import HandS.ForMost
import HandS.Walk
import HandS.Codes
import HandS.IsInst
import HandS.Flow
import HandS.ForExc
import HandS.ExcInit
import HandS.ExcField
import PyProof.StrBlock2
import PyProof.ListStr
import HandS.More
import HandS.TryMany
import HandS.RaiseMore
import HandS.FStr
import HandS.Style
import HandS.Rev
import HandS.OwnIter
import HandS.StrMore
import HandS.Small
import PySem.Challenge.RW_wordrooms_k10_whole_read_written_and_rea
set_option Elab.async false
set_option linter.all false
set_option maxRecDepth 100000
namespace My
open PySem L2 SX
/-! ### signs and texts -/
theorem cnt_is (c : Nat) (l : List Nat) : Txt.count (S l) (S [c]) = ((l.count c : Nat) : Int) := by
  have h : Txt.count (S l) (S [c]) = PyProof.Rows.cnt c l := PyProof.Rows.count_cnt (S l) c
  rw [h]
  clear h
  induction l with
  | nil => rfl
  | cons a r ih =>
    rw [PyProof.Rows.cnt_cons, ih, List.count_cons]
    by_cases e : a = c
    · simp [e]; omega
    · simp [e]
theorem slice_nn (l : List Nat) (i j : Nat) (hi : i ≤ l.length) (hj : j ≤ l.length) : cutS (S l) (some (i : Int)) (some (j : Int)) = S ((l.drop i).take (j - i)) := by
  unfold cutS
  rw [S_len, HT.sIx_nat, HT.sIx_nat, Nat.min_eq_left hi, Nat.min_eq_left hj]
theorem slice_0n (l : List Nat) (j : Nat) (hj : j ≤ l.length) : cutS (S l) none (some (j : Int)) = S (l.take j) := by
  unfold cutS
  rw [S_len, HT.sIx_none, HT.sIx_nat, Nat.min_eq_left hj, Nat.sub_zero, List.drop_zero]
theorem dec_S (a b : List Nat) : decide (V.str (S a) = V.str (S b)) = decide (a = b) := by
  by_cases e : a = b
  · subst e; simp
  · have h : ¬ V.str (S a) = V.str (S b) := fun q => e (S_inj (V.str.inj q))
    rw [decide_eq_false h, decide_eq_false e]
theorem at_S {l : List Nat} {i : Nat} {c : Nat} (h : l[i]? = some c) : atI (S l).cps.toList (i : Int) = some c := atI_nat h
theorem size_S {l : List Nat} (h : l.length ≤ 100000) : (S l).length ≤ sizeLine := by
  rw [S_len]; exact Nat.le_trans h (by decide)
theorem lit_ob : (Str.ofString "{") = S [123] := by decide +kernel
theorem lit_cb : (Str.ofString "}") = S [125] := by decide +kernel
theorem lit_bs : (Str.ofString "\\") = S [92] := by decide +kernel
theorem lit_n : (Str.ofString "n") = S [110] := by decide +kernel
theorem lit_bsn : (Str.ofString "\\n") = S [92, 110] := by decide +kernel
theorem lit_nl : (Str.ofString "\n") = S [10] := by decide +kernel
theorem lit_e : (Str.ofString "") = S [] := by decide +kernel
theorem lit_cc : (Str.ofString "{}") = S [123, 125] := by decide +kernel
def specL : List Nat := [32, 92, 123, 125, 34, 36, 91, 93, 59, 35]
theorem lit_spec : (Str.ofString " \\{}\"$[];#") = S specL := by decide +kernel
/-! ### a word written -/
def tsig (c : Nat) : List Nat := if c = 10 then [92, 110] else if c ∈ specL then [92, c] else [c]
def turn (l : List Nat) : List Nat := l.flatMap tsig
theorem tsig_len (c : Nat) : (tsig c).length ≤ 2 := by
  unfold tsig
  split
  · simp
  · split <;> simp
theorem turn_len (l : List Nat) : (turn l).length ≤ 2 * l.length := by
  unfold turn
  induction l with
  | nil => simp
  | cons c r ih =>
    rw [List.flatMap_cons, List.length_append, List.length_cons]
    have := tsig_len c
    omega
theorem turn_snoc (l : List Nat) (c : Nat) : turn (l ++ [c]) = turn l ++ tsig c := by
  unfold turn
  rw [List.flatMap_append]
  simp
def dep (l : List Nat) : Int := (l.count 123 : Int) - (l.count 125 : Int)
def dl (c : Nat) : Int := if c = 123 then 1 else if c = 125 then -1 else 0
theorem dep_nil : dep [] = 0 := by simp [dep]
theorem dep_cons (c : Nat) (r : List Nat) : dep (c :: r) = dl c + dep r := by
  unfold dep dl
  rw [List.count_cons, List.count_cons]
  by_cases h1 : c = 123
  · subst h1; simp; omega
  · by_cases h2 : c = 125
    · subst h2; simp; omega
    · simp [h1, h2]
def Pairs (l : List Nat) : Bool := (List.range (l.length + 1)).all (fun i => decide (0 ≤ dep (l.take i))) && decide (dep l = 0)
def wtext (l : List Nat) : List Nat := if l = [] then [123, 125] else if l.length + 2 ≤ (turn l).length ∧ Pairs l = true then 123 :: (l ++ [125]) else turn l
/-- where the brace pairs: many open, at place k -/
def pend (m : Int) (k : Nat) : List Nat → Option Nat
  | [] => none
  | c :: r => if c = 123 then pend (m + 1) (k + 1) r else if c = 125 then (if m - 1 = 0 then some k else pend (m - 1) (k + 1) r) else pend m (k + 1) r
theorem pend_ok : ∀ (r : List Nat) (m : Int) (k : Nat), 1 ≤ m → (pend m k (r ++ [125]) = some (k + r.length) ↔ (∀ i, i ≤ r.length → 1 ≤ m + dep (r.take i)) ∧ m + dep r = 1)
  | [], m, k, hm => by
    show (if (125 : Nat) = 123 then _ else if (125 : Nat) = 125 then (if m - 1 = 0 then some k else pend (m - 1) (k + 1) []) else _) = some (k + 0) ↔ _
    rw [if_neg (by decide), if_pos rfl]
    by_cases h : m - 1 = 0
    · rw [if_pos h]
      refine ⟨fun _ => ⟨fun i hi => ?_, ?_⟩, fun _ => rfl⟩
      · simp [dep_nil]; omega
      · rw [dep_nil]; omega
    · rw [if_neg h]
      refine ⟨fun q => by simp [pend] at q, fun ⟨_, q⟩ => ?_⟩
      rw [dep_nil] at q
      omega
  | c :: r, m, k, hm => by
    have key : (∀ i, i ≤ (c :: r).length → 1 ≤ m + dep ((c :: r).take i)) ↔ ∀ i, i ≤ r.length → 1 ≤ (m + dl c) + dep (r.take i) := by
      constructor
      · intro h i hi
        have := h (i + 1) (by simp; omega)
        rw [List.take_succ_cons, dep_cons] at this
        omega
      · intro h i hi
        cases i with
        | zero => simp [dep_nil]; omega
        | succ i =>
          rw [List.take_succ_cons, dep_cons]
          have := h i (by simp at hi; omega)
          omega
    rw [key, dep_cons]
    have hk : k + (c :: r).length = (k + 1) + r.length := by simp; omega
    rw [hk]
    show (if c = 123 then pend (m + 1) (k + 1) (r ++ [125]) else if c = 125 then (if m - 1 = 0 then some k else pend (m - 1) (k + 1) (r ++ [125])) else pend m (k + 1) (r ++ [125])) = _ ↔ _
    by_cases h1 : c = 123
    · rw [if_pos h1, pend_ok r (m + 1) (k + 1) (by omega)]
      have : dl c = 1 := by simp [dl, h1]
      rw [this]
      constructor
      · rintro ⟨a, b⟩; exact ⟨a, by omega⟩
      · rintro ⟨a, b⟩; exact ⟨a, by omega⟩
    · rw [if_neg h1]
      by_cases h2 : c = 125
      · have hd : dl c = -1 := by simp [dl, h2]
        rw [if_pos h2, hd]
        by_cases h3 : m - 1 = 0
        · rw [if_pos h3]
          constructor
          · intro q
            have := Option.some.inj q
            omega
          · rintro ⟨a, _⟩
            have := a 0 (Nat.zero_le _)
            simp [dep_nil] at this
            omega
        · rw [if_neg h3, pend_ok r (m - 1) (k + 1) (by omega)]
          constructor
          · rintro ⟨a, b⟩; exact ⟨fun i hi => by have := a i hi; omega, by omega⟩
          · rintro ⟨a, b⟩; exact ⟨fun i hi => by have := a i hi; omega, by omega⟩
      · have hd : dl c = 0 := by simp [dl, h1, h2]
        rw [if_neg h2, hd, pend_ok r m (k + 1) hm]
        constructor
        · rintro ⟨a, b⟩; exact ⟨fun i hi => by have := a i hi; omega, by omega⟩
        · rintro ⟨a, b⟩; exact ⟨fun i hi => by have := a i hi; omega, by omega⟩
theorem pairs_iff (l : List Nat) : Pairs l = true ↔ (∀ i, i ≤ l.length → 0 ≤ dep (l.take i)) ∧ dep l = 0 := by
  unfold Pairs
  rw [Bool.and_eq_true, List.all_eq_true, decide_eq_true_eq]
  refine and_congr_left fun _ => ⟨fun h i hi => of_decide_eq_true (h i (List.mem_range.mpr (by omega))), fun h i hi => decide_eq_true (h i (by have := List.mem_range.mp hi; omega))⟩
theorem pend_pairs (l : List Nat) : pend 0 0 (123 :: (l ++ [125])) = some (l.length + 1) ↔ Pairs l = true := by
  show (if (123 : Nat) = 123 then pend (0 + 1) (0 + 1) (l ++ [125]) else _) = _ ↔ _
  rw [if_pos rfl, pairs_iff]
  have := pend_ok l (0 + 1) (0 + 1) (by omega)
  rw [show 0 + 1 + l.length = l.length + 1 by omega] at this
  rw [this]
  constructor
  · rintro ⟨a, b⟩; exact ⟨fun i hi => by have := a i hi; omega, by omega⟩
  · rintro ⟨a, b⟩; exact ⟨fun i hi => by have := a i hi; omega, by omega⟩
/-- the next sign -/
theorem pend_at {l : List Nat} {i : Nat} {c : Nat} (h : l[i]? = some c) (m : Int) (k : Nat) :
    pend m k (l.drop i) = if c = 123 then pend (m + 1) (k + 1) (l.drop (i + 1)) else if c = 125 then (if m - 1 = 0 then some k else pend (m - 1) (k + 1) (l.drop (i + 1))) else pend m (k + 1) (l.drop (i + 1)) := by
  obtain ⟨hl, e⟩ := List.getElem?_eq_some_iff.mp h
  rw [List.drop_eq_getElem_cons hl, e]
  rfl
end My
namespace My
open PySem L2 SX C8
theorem ite_S {a b : List Nat} {z : Str} {A B : Prop} (hz : z = S b) (h1 : a = b → A) (h2 : a ≠ b → B) : if decide (V.str (S a) = V.str z) = true then A else B := by
  subst hz
  rw [dec_S]
  by_cases e : a = b
  · rw [decide_eq_true e, if_pos rfl]; exact h1 e
  · rw [decide_eq_false e, if_neg Bool.false_ne_true]; exact h2 e
theorem iteD {p A B : Prop} [Decidable p] (h1 : p → A) (h2 : ¬ p → B) : if decide p = true then A else B := by
  by_cases e : p
  · rw [decide_eq_true e, if_pos rfl]; exact h1 e
  · rw [decide_eq_false e, if_neg Bool.false_ne_true]; exact h2 e
theorem iteI {i j : Int} {A B : Prop} (h1 : i = j → A) (h2 : i ≠ j → B) : if decide (V.int i = V.int j) = true then A else B :=
  iteD (fun e => h1 (V.int.inj e)) (fun e => h2 fun q => e (congrArg V.int q))
def oI : Option Nat → V
  | none => .non
  | some k => .int (k : Int)
/-! ### promises of the program's defs -/
def spPend : Sp := fun vs H Q _ => ∃ (l : List Nat) (i : Nat), vs = [.str (S l), .int (i : Int)] ∧ l.length ≤ 90000 ∧ i ≤ l.length ∧ Q (oI (pend 0 i (l.drop i))) H
def spStand : Sp := fun vs H Q _ => ∃ (l : List Nat), vs = [.str (S l)] ∧ l.length ≤ 80000 ∧ Q (.bl (Pairs l)) H
def spTsig : Sp := fun vs H Q _ => ∃ (c : Nat), vs = [.str (S [c])] ∧ Q (.str (S (tsig c))) H
def spTurned : Sp := fun vs H Q _ => ∃ (l : List Nat), vs = [.str (S l)] ∧ l.length ≤ 40000 ∧ ∀ H', Same H H' → Q (.str (S (turn l))) H'
def spWtext : Sp := fun vs H Q _ => ∃ (l : List Nat), vs = [.str (S l)] ∧ l.length ≤ 40000 ∧ ∀ H', Same H H' → Q (.str (S (wtext l))) H'
def spLturned : Sp := fun vs H Q _ => ∃ (l : List Nat), vs = [.str (S l)] ∧ l.length ≤ 40000 ∧ Q (.str (S (turn l))) H
def spLpairs : Sp := fun vs H Q _ => ∃ (l : List Nat), vs = [.str (S l)] ∧ l.length ≤ 40000 ∧ ∀ H', Same H H' → Q (.bl (Pairs l)) H'
/-! ### the law's bag -/
structure BagAt (H : Hp) (b l : Addr) : Prop where
  ex : ∃ (ns : List Int) (i : Nat) (cur salt : Int), H b = some (.lst [.ref l, .int (i : Int), .int cur, .int salt]) ∧ H l = some (.lst (ns.map V.int)) ∧ l ≠ b ∧ ns.length ≤ 63 ∧ i ≤ ns.length ∧ 0 ≤ cur ∧ 0 ≤ salt ∧ salt < 2147483647
theorem BagAt.mono {H H' : Hp} {b l : Addr} (B : BagAt H b l) (e : Same H H') : BagAt H' b l := by
  obtain ⟨ns, i, cur, salt, h1, h2, h3⟩ := B.ex
  exact ⟨ns, i, cur, salt, e _ _ h1, e _ _ h2, h3⟩
theorem BagAt.upd {H : Hp} {b l D : Addr} {o : HO} (B : BagAt H b l) (n1 : b ≠ D) (n2 : l ≠ D) : BagAt (L2.upd H D o) b l := by
  obtain ⟨ns, i, cur, salt, h1, h2, h3⟩ := B.ex
  exact ⟨ns, i, cur, salt, by rw [upd_ne n1]; exact h1, by rw [upd_ne n2]; exact h2, h3⟩
theorem BagAt.nb {H : Hp} {b l D : Addr} (B : BagAt H b l) (h : H D = none) : b ≠ D := by
  obtain ⟨ns, i, cur, salt, h1, h2, h3⟩ := B.ex
  exact ne_of_none h1 h
theorem BagAt.nl {H : Hp} {b l D : Addr} (B : BagAt H b l) (h : H D = none) : l ≠ D := by
  obtain ⟨ns, i, cur, salt, h1, h2, h3⟩ := B.ex
  exact ne_of_none h2 h
/-- all but b stays -/
def But (b : Addr) (H H' : Hp) : Prop := ∀ c o, H c = some o → c ≠ b → H' c = some o
theorem But.refl (b : Addr) (H : Hp) : But b H H := fun _ _ h _ => h
theorem But.trans {b : Addr} {H H1 H2 : Hp} (a : But b H H1) (c : But b H1 H2) : But b H H2 := fun x o h n => c x o (a x o h n) n
theorem Same.but {b : Addr} {H H' : Hp} (e : Same H H') : But b H H' := fun x o h _ => e x o h
theorem same_new {H : Hp} {p : Addr} (h : H p = none) (o : HO) : Same H (upd H p o) := fun b u q => by rw [upd_ne (ne_of_none q h)]; exact q
theorem same_mut {H H' : Hp} {p : Addr} {o : HO} (e : Same H H') (h : H p = none) : Same H (upd H' p o) := fun a u ha => by
  rw [upd_ne (ne_of_none ha h)]
  exact e a u ha
theorem but_mut {b : Addr} {H H' : Hp} {p : Addr} {o : HO} (e : But b H H') (h : H p = none) : But b H (upd H' p o) := fun a u ha n => by
  rw [upd_ne (ne_of_none ha h)]
  exact e a u ha n
theorem but_upd {b : Addr} {H H' : Hp} {o : HO} (e : But b H H') : But b H (upd H' b o) := fun a u ha n => by
  rw [upd_ne n]
  exact e a u ha n
theorem But.seq {K : PySem.W.Frag} {b a : Addr} {H H' : Hp} {xs : List V} (e : But b H H') (n : a ≠ b) (h : SqL K H a xs) : SqL K H' a xs := by
  rcases h with (h | ⟨o, h⟩) | h
  · exact .inl (.inl (e _ _ h n))
  · exact .inl (.inr ⟨o, e _ _ h n⟩)
  · exact .inr h
def spBag (K : PySem.W.Frag) : Sp := fun vs H Q _ => ∃ (a : Addr) (ns : List Int), vs = [.ref a] ∧ SqL K H a (ns.map V.int) ∧ ns.length ≤ 63 ∧ ∀ (b l : Addr) H', Same H H' → H b = none → BagAt H' b l → Q (.ref b) H'
def spPull : Sp := fun vs H Q _ => ∃ (b l : Addr) (n : Int), vs = [.ref b, .int n] ∧ BagAt H b l ∧ 0 < n ∧ n < 1073741824 ∧ ∀ (r : Nat) H', (r : Int) < n → But b H H' → BagAt H' b l → Q (.int (r : Int)) H'
def spOf (K : PySem.W.Frag) : Sp := fun vs H Q _ => ∃ (b l : Addr) (x : V), vs = [.ref b, x] ∧ BagAt H b l ∧
  ((∃ (a : Addr) (xs : List V), x = .ref a ∧ a ≠ b ∧ SqL K H a xs ∧ 0 < xs.length ∧ xs.length ≤ 1000 ∧ ∀ (v : V) H', v ∈ xs → But b H H' → BagAt H' b l → Q v H') ∨
   (∃ (z : List Nat), x = .str (S z) ∧ 0 < z.length ∧ z.length ≤ 1000 ∧ ∀ (c : Nat) H', c ∈ z → But b H H' → BagAt H' b l → Q (.str (S [c])) H'))
/-- a drawn text: of at most so many signs, each of those that the law has -/
def abc : List Nat := [97, 98, 32, 123, 125, 92, 10, 110, 120, 34, 36, 91, 93, 59, 35, 65, 122, 48, 57, 95, 45, 43, 33, 126, 99]
def spText : Sp := fun vs H Q _ => ∃ (b l : Addr) (n : Nat), vs = [.ref b, .int (n : Int)] ∧ BagAt H b l ∧ n ≤ 1000 ∧ ∀ (z : List Nat) H', z.length ≤ n → (∀ c ∈ z, c ∈ abc) → But b H H' → BagAt H' b l → Q (.str (S z)) H'
/-! ### two values that are told alike -/
def flatS : V → Bool
  | .non => true | .bl _ => true | .int _ => true | .str _ => true | _ => false
def Alike : Nat → Hp → V → V → Prop
  | 0, _, x, y => x = y ∧ flatS x = true
  | n + 1, H, x, y => (x = y ∧ flatS x = true) ∨ ∃ (a b : Addr) (xs ys : List V), x = .ref a ∧ y = .ref b ∧ ((H a = some (.lst xs) ∧ H b = some (.lst ys)) ∨ (H a = some (.tup xs) ∧ H b = some (.tup ys))) ∧
      xs.length = ys.length ∧ xs.length ≤ 10000 ∧ ∀ (i : Nat) (u v : V), xs[i]? = some u → ys[i]? = some v → Alike n H u v
theorem Alike.mono : ∀ {n : Nat} {H H' : Hp} {x y : V}, Same H H' → Alike n H x y → Alike n H' x y
  | 0, _, _, _, _, _, h => h
  | n + 1, H, H', x, y, e, h => by
    rcases h with h | ⟨a, b, xs, ys, h1, h2, h3, h4, h5, h6⟩
    · exact .inl h
    · refine .inr ⟨a, b, xs, ys, h1, h2, ?_, h4, h5, fun i u v hu hv => Alike.mono e (h6 i u v hu hv)⟩
      rcases h3 with ⟨p, q⟩ | ⟨p, q⟩
      · exact .inl ⟨e _ _ p, e _ _ q⟩
      · exact .inr ⟨e _ _ p, e _ _ q⟩
theorem Alike.flat {n : Nat} {H : Hp} {x : V} (h : flatS x = true) : Alike n H x x := by
  cases n with
  | zero => exact ⟨rfl, h⟩
  | succ n => exact .inl ⟨rfl, h⟩
def spLike : Nat → Sp
  | 0 => fun _ _ _ _ => False
  | n + 1 => fun vs H Q _ => ∃ (x y : V), vs = [x, y] ∧ Alike n H x y ∧ ∀ H', Same H H' → Q (.bl true) H'
/-- a script is handed in, True comes out -/
def spLaw (K : PySem.W.Frag) : Sp := fun vs H Q _ => ∃ (a : Addr) (ns : List Int), vs = [.ref a] ∧ SqL K H a (ns.map V.int) ∧ ns.length ≤ 63 ∧ ∀ H', Q (.bl true) H'
end My
namespace My
open PySem L2 SX
/-! ### reading a list's text -/
def White (c : Nat) : Prop := c = 32 ∨ c = 10
instance (c : Nat) : Decidable (White c) := inferInstanceAs (Decidable (_ ∨ _))
def whiteL : List Nat := [32, 10]
theorem lit_white : (Str.ofString " \n") = S whiteL := by decide +kernel
theorem mem_white (c : Nat) : c ∈ whiteL ↔ White c := by
  unfold whiteL White
  simp
def mean (c : Nat) : Nat := if c = 110 then 10 else c
def skipW : List Nat → Nat
  | [] => 0
  | c :: r => if White c then skipW r + 1 else 0
theorem skipW_le : ∀ l, skipW l ≤ l.length
  | [] => Nat.le_refl _
  | c :: r => by
    unfold skipW
    split
    · have := skipW_le r
      simp
      omega
    · simp
def rdBare : List Nat → Option (List Nat × Nat)
  | [] => some ([], 0)
  | c :: r => if White c then some ([], 0) else if c = 92 then (match r with | [] => none | d :: r' => (rdBare r').map fun p => (mean d :: p.1, p.2 + 2)) else (rdBare r).map fun p => (c :: p.1, p.2 + 1)
/-- the end of a word: white or nothing -/
def EndW : List Nat → Prop
  | [] => True
  | c :: _ => White c
/-- the word at the head of l: w, of n signs -/
inductive RdWord : List Nat → List Nat → Nat → Prop
  | braced {r : List Nat} {e : Nat} (h : pend 0 0 (123 :: r) = some e) (he : EndW ((123 :: r).drop (e + 1))) : RdWord (123 :: r) (((123 :: r).drop 1).take (e - 1)) (e + 1)
  | bare {c : Nat} {r w : List Nat} {n : Nat} (h1 : c ≠ 123) (h2 : ¬ White c) (h : rdBare (c :: r) = some (w, n)) : RdWord (c :: r) w n
/-- l is a text of ws -/
inductive Reads : List Nat → List (List Nat) → Prop
  | nil {l : List Nat} (h : l.drop (skipW l) = []) : Reads l []
  | cons {l w : List Nat} {n : Nat} {ws : List (List Nat)} (h : RdWord (l.drop (skipW l)) w n) (hn : 0 < n) (hr : Reads ((l.drop (skipW l)).drop n) ws) : Reads l (w :: ws)
theorem rdBare_le : ∀ (l w : List Nat) (n : Nat), rdBare l = some (w, n) → n ≤ l.length ∧ w.length ≤ n
  | [], w, n, h => by
    unfold rdBare at h
    cases h
    exact ⟨Nat.le_refl _, Nat.le_refl _⟩
  | c :: r, w, n, h => by
    unfold rdBare at h
    by_cases h1 : White c
    · rw [if_pos h1] at h
      cases h
      exact ⟨Nat.zero_le _, Nat.le_refl _⟩
    · rw [if_neg h1] at h
      by_cases h2 : c = 92
      · rw [if_pos h2] at h
        match r, h with
        | [], h => cases h
        | d :: r', h =>
          simp only [Option.map_eq_some_iff] at h
          obtain ⟨⟨w', n'⟩, h3, h4⟩ := h
          cases h4
          have := rdBare_le r' w' n' h3
          simp
          omega
      · rw [if_neg h2] at h
        simp only [Option.map_eq_some_iff] at h
        obtain ⟨⟨w', n'⟩, h3, h4⟩ := h
        cases h4
        have := rdBare_le r w' n' h3
        simp
        omega
theorem pend_more : ∀ (l t : List Nat) (m : Int) (k e : Nat), pend m k l = some e → pend m k (l ++ t) = some e
  | [], t, m, k, e, h => by cases h
  | c :: r, t, m, k, e, h => by
    show (if c = 123 then pend (m + 1) (k + 1) (r ++ t) else if c = 125 then (if m - 1 = 0 then some k else pend (m - 1) (k + 1) (r ++ t)) else pend m (k + 1) (r ++ t)) = some e
    have h' : (if c = 123 then pend (m + 1) (k + 1) r else if c = 125 then (if m - 1 = 0 then some k else pend (m - 1) (k + 1) r) else pend m (k + 1) r) = some e := h
    by_cases h1 : c = 123
    · rw [if_pos h1] at h' ⊢
      exact pend_more r t _ _ e h'
    · rw [if_neg h1] at h' ⊢
      by_cases h2 : c = 125
      · rw [if_pos h2] at h' ⊢
        by_cases h3 : m - 1 = 0
        · rw [if_pos h3] at h' ⊢
          exact h'
        · rw [if_neg h3] at h' ⊢
          exact pend_more r t _ _ e h'
      · rw [if_neg h2] at h' ⊢
        exact pend_more r t _ _ e h'
theorem pend_lt : ∀ (l : List Nat) (m : Int) (k e : Nat), pend m k l = some e → k ≤ e ∧ e < k + l.length
  | [], m, k, e, h => by cases h
  | c :: r, m, k, e, h => by
    have h' : (if c = 123 then pend (m + 1) (k + 1) r else if c = 125 then (if m - 1 = 0 then some k else pend (m - 1) (k + 1) r) else pend m (k + 1) r) = some e := h
    by_cases h1 : c = 123
    · rw [if_pos h1] at h'
      have := pend_lt r _ _ e h'
      simp
      omega
    · rw [if_neg h1] at h'
      by_cases h2 : c = 125
      · rw [if_pos h2] at h'
        by_cases h3 : m - 1 = 0
        · rw [if_pos h3] at h'
          cases h'
          simp
        · rw [if_neg h3] at h'
          have := pend_lt r _ _ e h'
          simp
          omega
      · rw [if_neg h2] at h'
        have := pend_lt r _ _ e h'
        simp
        omega
/-- the place counted from elsewhere -/
theorem pend_shift : ∀ (l : List Nat) (m : Int) (k j : Nat), pend m (k + j) l = (pend m k l).map (· + j)
  | [], m, k, j => rfl
  | c :: r, m, k, j => by
    show (if c = 123 then pend (m + 1) (k + j + 1) r else if c = 125 then (if m - 1 = 0 then some (k + j) else pend (m - 1) (k + j + 1) r) else pend m (k + j + 1) r) = (if c = 123 then pend (m + 1) (k + 1) r else if c = 125 then (if m - 1 = 0 then some k else pend (m - 1) (k + 1) r) else pend m (k + 1) r).map (· + j)
    have e : k + j + 1 = (k + 1) + j := by omega
    rw [e]
    split
    · exact pend_shift r _ _ _
    · split
      · split
        · rfl
        · exact pend_shift r _ _ _
      · exact pend_shift r _ _ _
theorem mean_of {c : Nat} (h : c ∈ specL) : mean c = c := by
  unfold mean
  rw [if_neg]
  intro e
  subst e
  revert h
  decide
theorem rdBare_tsig {c : Nat} {t w : List Nat} {n : Nat} (h : rdBare t = some (w, n)) : rdBare (tsig c ++ t) = some (c :: w, (tsig c).length + n) := by
  unfold tsig
  by_cases h1 : c = 10
  · rw [if_pos h1]
    show rdBare (92 :: 110 :: t) = _
    unfold rdBare
    rw [if_neg (by decide), if_pos rfl]
    show (rdBare t).map _ = _
    rw [h]
    subst h1
    show some (mean 110 :: w, n + 2) = some (10 :: w, 2 + n)
    rw [Nat.add_comm]
    rfl
  · rw [if_neg h1]
    by_cases h2 : c ∈ specL
    · rw [if_pos h2]
      show rdBare (92 :: c :: t) = _
      unfold rdBare
      rw [if_neg (by decide), if_pos rfl]
      show (rdBare t).map _ = _
      rw [h]
      show some (mean c :: w, n + 2) = some (c :: w, 2 + n)
      rw [mean_of h2, Nat.add_comm]
    · rw [if_neg h2]
      show rdBare (c :: t) = _
      have w1 : ¬ White c := by
        rintro (e | e)
        · exact h2 (by rw [e]; decide)
        · exact h1 e
      have w2 : ¬ c = 92 := fun e => h2 (by rw [e]; decide)
      unfold rdBare
      rw [if_neg w1, if_neg w2, h]
      show some (c :: w, n + 1) = some (c :: w, 1 + n)
      rw [Nat.add_comm]
theorem rdBare_end {t : List Nat} (h : EndW t) : rdBare t = some ([], 0) := by
  cases t with
  | nil => rfl
  | cons c r =>
    unfold rdBare
    rw [if_pos (show White c from h)]
theorem rdBare_turn {t : List Nat} (h : EndW t) : ∀ w : List Nat, rdBare (turn w ++ t) = some (w, (turn w).length)
  | [] => rdBare_end h
  | c :: r => by
    have e : turn (c :: r) = tsig c ++ turn r := by
      unfold turn
      rw [List.flatMap_cons]
    rw [e, List.append_assoc, rdBare_tsig (rdBare_turn h r), List.length_append]
/-- the head of a turned text -/
theorem tsig_head (c : Nat) : ∃ (d : Nat) (r : List Nat), tsig c = d :: r ∧ d ≠ 123 ∧ ¬ White d := by
  unfold tsig
  by_cases h1 : c = 10
  · rw [if_pos h1]; exact ⟨92, [110], rfl, by decide, by decide⟩
  · rw [if_neg h1]
    by_cases h2 : c ∈ specL
    · rw [if_pos h2]; exact ⟨92, [c], rfl, by decide, by decide⟩
    · rw [if_neg h2]
      refine ⟨c, [], rfl, fun e => h2 (by rw [e]; decide), ?_⟩
      rintro (e | e)
      · exact h2 (by rw [e]; decide)
      · exact h1 e
theorem skipW_no {c : Nat} {r : List Nat} (h : ¬ White c) : skipW (c :: r) = 0 := by
  unfold skipW
  rw [if_neg h]
/-- a written word is read -/
theorem rd_wtext (w : List Nat) {t : List Nat} (h : EndW t) : RdWord (wtext w ++ t) w (wtext w).length ∧ skipW (wtext w ++ t) = 0 ∧ 0 < (wtext w).length := by
  unfold wtext
  by_cases h0 : w = []
  · subst h0
    rw [if_pos rfl]
    refine ⟨?_, skipW_no (by decide), by decide⟩
    have := RdWord.braced (r := 125 :: t) (e := 1) (by rfl) (by exact h)
    exact this
  · rw [if_neg h0]
    by_cases h1 : w.length + 2 ≤ (turn w).length ∧ Pairs w = true
    · rw [if_pos h1]
      refine ⟨?_, skipW_no (by decide), by simp⟩
      have hp := pend_more _ t _ _ _ ((pend_pairs w).mpr h1.2)
      rw [List.cons_append] at hp
      have hd : (123 :: (w ++ [125]) ++ t).drop (w.length + 1 + 1) = t := by
        have e : w.length + 1 + 1 = (123 :: (w ++ [125])).length := by simp
        rw [e, List.drop_left]
      have := RdWord.braced (r := (w ++ [125]) ++ t) (e := w.length + 1) hp (by rw [← List.cons_append, hd]; exact h)
      have e2 : ((123 :: ((w ++ [125]) ++ t)).drop 1).take (w.length + 1 - 1) = w := by
        show ((w ++ [125]) ++ t).take w.length = w
        rw [List.append_assoc, List.take_left]
      rw [e2] at this
      have e3 : (123 :: (w ++ [125])).length = w.length + 1 + 1 := by simp
      rw [e3]
      exact this
    · rw [if_neg h1]
      obtain ⟨c, r, rfl⟩ : ∃ c r, w = c :: r := by
        cases w with
        | nil => exact absurd rfl h0
        | cons c r => exact ⟨c, r, rfl⟩
      have e : turn (c :: r) = tsig c ++ turn r := by
        unfold turn
        rw [List.flatMap_cons]
      obtain ⟨d, r', e1, n1, n2⟩ := tsig_head c
      have hr := rdBare_turn h (c :: r)
      rw [e, e1] at hr ⊢
      exact ⟨.bare n1 n2 hr, skipW_no n2, by simp⟩
/-- a list's text -/
def ltext (ws : List (List Nat)) : List Nat := TL.joinL [32] (ws.map wtext)
theorem reads_more {l : List Nat} {ws : List (List Nat)} (h : Reads l ws) {c : Nat} (hc : White c) : Reads (c :: l) ws := by
  have e0 : skipW (c :: l) = skipW l + 1 := by rw [skipW, if_pos hc]
  have e : (c :: l).drop (skipW (c :: l)) = l.drop (skipW l) := by
    rw [e0, List.drop_succ_cons]
  cases h with
  | nil h => exact .nil (by rw [e]; exact h)
  | cons h hn hr => exact .cons (by rw [e]; exact h) hn (by rw [e]; exact hr)
theorem reads_word {w : List Nat} {t : List Nat} {ws : List (List Nat)} (h : EndW t) (hr : Reads t ws) : Reads (wtext w ++ t) (w :: ws) := by
  obtain ⟨h1, h2, h3⟩ := rd_wtext w h
  refine .cons (by rw [h2]; exact h1) h3 ?_
  rw [h2, List.drop_zero, List.drop_left]
  exact hr
theorem reads_ltext : ∀ (ws : List (List Nat)) {t : List Nat} {vs : List (List Nat)}, EndW t → Reads t vs → Reads (ltext ws ++ t) (ws ++ vs)
  | [], t, vs, _, h => h
  | [w], t, vs, he, h => reads_word he h
  | w :: v :: r, t, vs, he, h => by
    have ih := reads_ltext (v :: r) he h
    have e : ltext (w :: v :: r) ++ t = wtext w ++ (32 :: (ltext (v :: r) ++ t)) := by
      show (wtext w ++ ([32] ++ TL.joinL [32] ((v :: r).map wtext))) ++ t = _
      rw [List.append_assoc]
      rfl
    rw [e]
    exact reads_word (show White 32 from .inl rfl) (reads_more ih (.inl rfl))
theorem reads_nil : Reads [] [] := .nil rfl
theorem reads_own (ws : List (List Nat)) : Reads (ltext ws) ws := by
  have := reads_ltext ws (t := []) (vs := []) trivial reads_nil
  rw [List.append_nil, List.append_nil] at this
  exact this
theorem wtext_len (w : List Nat) : (wtext w).length ≤ 2 * w.length + 2 := by
  unfold wtext
  split
  · simp
  · split
    · simp; omega
    · have := turn_len w; omega
theorem ltext_len : ∀ (ws : List (List Nat)) (k : Nat), (∀ w ∈ ws, w.length ≤ k) → (ltext ws).length ≤ ws.length * (2 * k + 3)
  | [], k, _ => by simp [ltext, TL.joinL]
  | [w], k, h => by
    show (wtext w).length ≤ _
    have := wtext_len w
    have := h w (List.mem_singleton.mpr rfl)
    simp
    omega
  | w :: v :: r, k, h => by
    have ih := ltext_len (v :: r) k fun x hx => h x (List.mem_cons_of_mem _ hx)
    show (wtext w ++ ([32] ++ ltext (v :: r))).length ≤ _
    have h1 := wtext_len w
    have h2 := h w List.mem_cons_self
    rw [List.length_append, List.length_append]
    have : (w :: v :: r).length * (2 * k + 3) = (v :: r).length * (2 * k + 3) + (2 * k + 3) := by
      rw [List.length_cons, Nat.succ_mul]
    rw [this]
    simp only [List.length_cons, List.length_nil] at ih ⊢
    omega
end My
namespace My
open PySem L2 SX
theorem joinL_nil : ∀ ps : List (List Nat), TL.joinL [] ps = ps.flatten
  | [] => rfl
  | [p] => by simp [TL.joinL]
  | p :: q :: r => by
    show p ++ ([] ++ TL.joinL [] (q :: r)) = _
    rw [joinL_nil (q :: r)]
    simp
theorem join0 {z : Str} (hz : z = S []) (ps : List (List Nat)) : Txt.join z (ps.map S) = S ps.flatten := by
  rw [hz, join_S, joinL_nil]
theorem iteN {p A B : Prop} [Decidable p] (h1 : ¬ p → A) (h2 : p → B) : if (!decide p) = true then A else B := by
  by_cases e : p
  · rw [decide_eq_true e]
    exact iteF (h2 e)
  · rw [decide_eq_false e]
    exact iteT (h1 e)
theorem iteNS {a b : List Nat} {z : Str} {A B : Prop} (hz : z = S b) (h1 : a ≠ b → A) (h2 : a = b → B) : if (!decide (V.str (S a) = V.str z)) = true then A else B := by
  subst hz
  rw [dec_S]
  exact iteN h1 h2
/-- a list of texts -/
def txs (ws : List (List Nat)) : List V := ws.map fun w => V.str (S w)
theorem txs_len (ws : List (List Nat)) : (txs ws).length = ws.length := List.length_map _
theorem txs_snoc (ws : List (List Nat)) (w : List Nat) : txs (ws ++ [w]) = txs ws ++ [V.str (S w)] := by
  unfold txs
  rw [List.map_append]
  rfl
theorem txs_map (ws : List (List Nat)) : txs ws = (ws.map S).map V.str := by
  unfold txs
  rw [List.map_map]
  rfl
theorem alike_txs {H : Hp} {a b : Addr} {ws : List (List Nat)} {n : Nat} (h1 : H a = some (.lst (txs ws))) (h2 : H b = some (.lst (txs ws))) (hz : ws.length ≤ 10000) : Alike (n + 1) H (.ref a) (.ref b) := by
  refine .inr ⟨a, b, _, _, rfl, rfl, .inl ⟨h1, h2⟩, rfl, by rw [txs_len]; exact hz, fun i u v hu hv => ?_⟩
  rw [hu] at hv
  cases hv
  unfold txs at hu
  rw [List.getElem?_map] at hu
  cases e : ws[i]? with
  | none => rw [e] at hu; cases hu
  | some l => rw [e] at hu; cases hu; exact Alike.flat rfl
theorem rdWord_le {l w : List Nat} {n : Nat} (h : RdWord l w n) : n ≤ l.length := by
  cases h with
  | braced h he =>
    have := (pend_lt _ _ _ _ h).2
    omega
  | bare h1 h2 h => exact (rdBare_le _ _ _ h).1
theorem atS' {l : List Nat} {i : Nat} (h : i < l.length) : atI (S l).cps.toList (i : Int) = some l[i] := atI_nat (List.getElem?_eq_getElem h)
theorem pend_i {l : List Nat} {i e : Nat} (h : pend 0 0 (l.drop i) = some e) : pend 0 i (l.drop i) = some (i + e) := by
  have := pend_shift (l.drop i) 0 0 i
  rw [Nat.zero_add, h] at this
  rw [this, Nat.add_comm]
  rfl
def spRefuse : Sp := fun vs H Q _ => ∃ (l : List Nat), vs = [.str (S l)] ∧ l.length ≤ 1000 ∧ Q .non H
def spBehind : Sp := fun vs H Q _ => ∃ (l : List Nat) (i : Nat), vs = [.str (S l), .int (i : Int)] ∧ l.length ≤ 1000 ∧ i ≤ l.length ∧ Q (.int ((i + skipW (l.drop i) : Nat) : Int)) H
def spMean : Sp := fun vs H Q _ => ∃ (c : Nat), vs = [.str (S [c])] ∧ Q (.str (S [mean c])) H
def spBare : Sp := fun vs H Q _ => ∃ (l : List Nat) (i : Nat) (w : List Nat) (n : Nat), vs = [.str (S l), .int (i : Int)] ∧ l.length ≤ 1000 ∧ i ≤ l.length ∧ rdBare (l.drop i) = some (w, n) ∧
  ∀ (p : Addr) H', Same H H' → H p = none → H' p = some (.tup [.str (S w), .int ((i + n : Nat) : Int)]) → Q (.ref p) H'
def spWord : Sp := fun vs H Q _ => ∃ (l : List Nat) (i : Nat) (w : List Nat) (n : Nat), vs = [.str (S l), .int (i : Int)] ∧ l.length ≤ 1000 ∧ i < l.length ∧ RdWord (l.drop i) w n ∧
  ∀ (p : Addr) H', Same H H' → H p = none → H' p = some (.tup [.str (S w), .int ((i + n : Nat) : Int)]) → Q (.ref p) H'
def spBraced : Sp := fun vs H Q _ => ∃ (l : List Nat) (i e : Nat), vs = [.str (S l), .int (i : Int)] ∧ l.length ≤ 1000 ∧ i < l.length ∧ pend 0 0 (l.drop i) = some e ∧ 1 ≤ e ∧ EndW ((l.drop i).drop (e + 1)) ∧
  ∀ (p : Addr) H', Same H H' → H p = none → H' p = some (.tup [.str (S (((l.drop i).drop 1).take (e - 1))), .int ((i + (e + 1) : Nat) : Int)]) → Q (.ref p) H'
def spRead : Sp := fun vs H Q _ => ∃ (l : List Nat) (ws : List (List Nat)), vs = [.str (S l)] ∧ l.length ≤ 1000 ∧ Reads l ws ∧ ∀ (p : Addr) H', Same H H' → H p = none → H' p = some (.lst (txs ws)) → Q (.ref p) H'
def spLtext (K : PySem.W.Frag) : Sp := fun vs H Q _ => ∃ (a : Addr) (ws : List (List Nat)), vs = [.ref a] ∧ SqL K H a (txs ws) ∧ ws.length ≤ 100 ∧ (∀ w ∈ ws, w.length ≤ 1000) ∧ ∀ H', Same H H' → Q (.str (S (ltext ws))) H'
end My
namespace My
open PySem L2 SX
def dataT (ws : List (List Nat)) : PyData := .list (ws.map fun w => PyData.str (S w))
theorem dp_all {K : PySem.W.Frag} {H : Hp} : ∀ ws : List (List Nat), DpAll K H (txs ws) (ws.map fun w => PyData.str (S w))
  | [] => .nil
  | w :: r => .cons (.str _) (dp_all r)
theorem dp_txs {K : PySem.W.Frag} {H : Hp} {a : Addr} {ws : List (List Nat)} (h : SqL K H a (txs ws)) : Dp K H (.ref a) (dataT ws) := .lst h (dp_all ws)
theorem ok_abc {w : List Nat} (h : ∀ c ∈ w, c ∈ abc) : PyData.canLay0 (.str (S w)) = true := by
  show PyData.strOk (S w) = true
  unfold PyData.strOk
  rw [← Array.all_toList]
  refine List.all_eq_true.mpr fun c hc => decide_eq_true ?_
  have : ∀ c ∈ abc, c < 0x110000 := by decide
  exact this c (h c hc)
theorem lay_T : ∀ ws : List (List Nat), (∀ w ∈ ws, ∀ c ∈ w, c ∈ abc) → PyData.canLayAll0 (ws.map fun w => PyData.str (S w)) = true
  | [], _ => rfl
  | w :: r, h => by
    show (PyData.canLay0 (.str (S w)) && PyData.canLayAll0 (r.map fun w => PyData.str (S w))) = true
    rw [lay_T r fun x hx => h x (List.mem_cons_of_mem _ hx), ok_abc (h w List.mem_cons_self)]
    rfl
theorem depth_T : ∀ ws : List (List Nat), PyData.depthAll (ws.map fun w => PyData.str (S w)) ≤ 1
  | [] => by decide
  | w :: r => by
    have ih := depth_T r
    show max 0 (PyData.depthAll (r.map fun w => PyData.str (S w))) ≤ 1
    omega
theorem layT {ws : List (List Nat)} (h : ∀ w ∈ ws, ∀ c ∈ w, c ∈ abc) : (dataT ws).canLay0 = true := lay_T ws h
theorem shaped_T {ws : List (List Nat)} (h : ∀ w ∈ ws, ∀ c ∈ w, c ∈ abc) : SeqAt.shaped (dataT ws) = true := by
  unfold SeqAt.shaped
  rw [layT h]
  have h := depth_T ws
  have h2 : (dataT ws).depth ≤ 64 := by
    show PyData.depthAll (ws.map fun w => PyData.str (S w)) + 1 ≤ 64
    omega
  rw [decide_eq_true h2]
  rfl
theorem eqv_T : ∀ ws vs : List (List Nat), PyData.eqv (dataT ws) (dataT vs) = decide (ws = vs) := by
  have all : ∀ ws vs : List (List Nat), PyData.eqvAll (ws.map fun w => PyData.str (S w)) (vs.map fun w => PyData.str (S w)) = decide (ws = vs) := by
    intro ws
    induction ws with
    | nil =>
      intro vs
      cases vs with
      | nil => rfl
      | cons v r => rfl
    | cons w r ih =>
      intro vs
      cases vs with
      | nil => rfl
      | cons v q =>
        show (PyData.eqv (.str (S w)) (.str (S v)) && PyData.eqvAll (r.map fun w => PyData.str (S w)) (q.map fun w => PyData.str (S w))) = _
        rw [ih]
        have e : PyData.eqv (.str (S w)) (.str (S v)) = decide (w = v) := by
          show (S w == S v) = _
          exact S_beq_eq
        rw [e]
        by_cases h1 : w = v
        · subst h1
          by_cases h2 : r = q
          · subst h2; simp
          · simp [h2]
        · simp [h1]
  exact fun ws vs => all ws vs
end My
namespace My
open PySem L2 SX
/-! ### defs that may raise -/
section
variable {P : Program} {w : World} {K : PySem.W.Frag} {mg : Str → Option Value} {base : Heap}
/-- a def of the module that may raise, called by its name -/
structure CalX (P : Program) (w : World) (K : PySem.W.Frag) (mg : Str → Option Value) (base : Heap) (k : Nat) (x : Str) (sp : Sp) : Prop where
  ex : ∃ (f : Addr) (fd : FuncData) (ps : List Str), FnOk P w K mg base (L2.CX P w) k f fd ps sp ∧ mg x = some (.ref f) ∧ PySem.W.keepIn K (.ref f) = true ∧ Binds K fd ps []
/-- a method that may raise, of the class at C -/
structure MetX (P : Program) (w : World) (K : PySem.W.Frag) (mg : Str → Option Value) (base : Heap) (k : Nat) (C : Addr) (m : Str) (sp : Sp) : Prop where
  ex : ∃ (f : Addr) (fd : FuncData) (ps : List Str), Cls K C ∧ Meth K C m f ∧ FnOk P w K mg base (L2.CX P w) k f fd ps sp ∧ Binds K fd ps []
theorem fnX {x qual : Str} {st : Stmt} {f : Addr} {fd : FuncData} {N ps : List Str} {k : Nat} {sp : Sp} (F : C8.Fun K x qual st f fd) (S : FnScope N ps (C8.fnScope st)) (len : ∀ vs H Q E, sp vs H Q E → vs.length = ps.length)
    (hbody : ∀ (cdv : Value) (A : Around) (outer : List Env) (s : Shared) (H : Hp) (vs : List V) (Q : VK) (E : XK), Room k (A.deeper (PyProof.Rows.envOfC qual (C8.fnScope st) s.heap.objs.size f cdv)) → sp vs H Q E →
      ∃ t, PSs (cxOf (L2.CX P w) P w K mg base N qual (C8.fnScope st) f cdv A outer s H E) (C8.fnBody st) t ∧ t { nx := fun _ H' => Q .non H', rt := Q } (start N vs) H) : FnOk P w K mg base (L2.CX P w) (k + 1) f fd ps sp := by
  obtain ⟨oc, od, dV, kV, doc, pm, an, cdv, ct, osl, rfl, lk, hcd⟩ := F.ex
  exact fn_of lk hcd S len fun A outer s H vs Q E hr hsp => hbody cdv A outer s H vs Q E hr hsp
theorem calX {x : Str} {st : Stmt} {f : Addr} {fd : FuncData} {N ps : List Str} {k : Nat} {sp : Sp} (F : C8.Def K mg x st f fd) (b : Binds K fd ps []) (S : FnScope N ps (C8.fnScope st)) (len : ∀ vs H Q E, sp vs H Q E → vs.length = ps.length)
    (hbody : ∀ (cdv : Value) (A : Around) (outer : List Env) (s : Shared) (H : Hp) (vs : List V) (Q : VK) (E : XK), Room k (A.deeper (PyProof.Rows.envOfC x (C8.fnScope st) s.heap.objs.size f cdv)) → sp vs H Q E →
      ∃ t, PSs (cxOf (L2.CX P w) P w K mg base N x (C8.fnScope st) f cdv A outer s H E) (C8.fnBody st) t ∧ t { nx := fun _ H' => Q .non H', rt := Q } (start N vs) H) : CalX P w K mg base (k + 1) x sp :=
  ⟨f, fd, ps, fnX F.fn S len hbody, F.mgf, F.kp, b⟩
theorem metX {m qual : Str} {C : Addr} {st : Stmt} {f : Addr} {fd : FuncData} {N ps : List Str} {k : Nat} {sp : Sp} (c : Cls K C) (me : Meth K C m f) (F : C8.Fun K m qual st f fd) (b : Binds K fd ps []) (S : FnScope N ps (C8.fnScope st)) (len : ∀ vs H Q E, sp vs H Q E → vs.length = ps.length)
    (hbody : ∀ (cdv : Value) (A : Around) (outer : List Env) (s : Shared) (H : Hp) (vs : List V) (Q : VK) (E : XK), Room k (A.deeper (PyProof.Rows.envOfC qual (C8.fnScope st) s.heap.objs.size f cdv)) → sp vs H Q E →
      ∃ t, PSs (cxOf (L2.CX P w) P w K mg base N qual (C8.fnScope st) f cdv A outer s H E) (C8.fnBody st) t ∧ t { nx := fun _ H' => Q .non H', rt := Q } (start N vs) H) : MetX P w K mg base (k + 1) C m sp :=
  ⟨f, fd, ps, c, me, fnX F S len hbody, b⟩
end
section
variable {X : Cx} {k j : Nat} {C : Addr} {x m : Str} {sp : Sp} {p pos apos : Pos} {e o : Expr} {es : List Expr} {ta : TE} {t : TA} {E : XK}
/-- a call that may raise, within a def that lets it out or around which nothing is let out -/
theorem pe_x (c : CalX X.prog X.w X.K X.mg X.base k x sp) (hr : Room j X.A) (hk : k ≤ j) (hg : Gl X x) (hx : Passes (L2.CX X.prog X.w) X E) (ha : PA X (e :: es) t)
    (hdb : (x == ("__debug__" : Str)) = false := by decide) (he : starEach (e :: es) X.env = (false, eval e X.env) :: starEach es X.env := by rfl) (hpl : (backTo pos (starEach es X.env)).any (·.1) = false := by rfl) :
    PE X (.Call (.Name x p) (e :: es) [] pos) (tCall sp [] E t) := by
  obtain ⟨f, fd, ps, F, hm, kp, b⟩ := c.ex
  exact pe_call F (hr.mono hk) hg hm kp b .nil hx ha hdb he hpl
theorem pe_mx0 {pl : Sem Bool} (c : MetX X.prog X.w X.K X.mg X.base k C m sp) (hr : Room j X.A) (hk : k ≤ j) (hx : Passes (L2.CX X.prog X.w) X E) (he : PE X o ta)
    (ht : eval (.Call (.Attribute o m apos) [] [] pos) X.env = (do
      let ov ← eval o X.env
      standAt apos.atName
      let (f, first) ← holding [ov] (getMethod ov m pl)
      callWith pos f first (backTo pos (starEach [] X.env)) (backToKw pos (keywordEach [] X.env))) := by rfl) :
    PE X (.Call (.Attribute o m apos) [] [] pos) (tMeth C m sp [] E ta tNil) := by
  obtain ⟨f, fd, ps, hc, hm, F, b⟩ := c.ex
  exact pe_meth0 (pl := pl) he hc hm F (hr.mono hk) b .nil hx ht
end
/-! ### errors that tell a place -/
def spPlace (C : Addr) : Sp := fun vs H Q _ => ∃ (a : Addr) (y : V), vs = [.ref a, y] ∧ H a = some (exo a C none) ∧ ∀ dx, H dx = none → dx ≠ a → Q .non (upd (upd H dx (exd dx [("place", y)])) a (exo a C (some dx)))
/-- what the top says of such a class -/
structure PlaceC (P : Program) (w : World) (K : PySem.W.Frag) (mg : Str → Option Value) (base : Heap) (x : Str) (C : Addr) : Prop where
  ox : OexC K C
  mgx : mg x = some (.ref C)
  ini : ∃ (f : Addr) (fd : FuncData) (ps : List Str), PySem.W.findIn K (.ref C) "__init__" = some (some (.ref f)) ∧ PySem.W.typeIn K (.ref f) = some (.type "function") ∧ FnOk P w K mg base C8.CX0 1 f fd ps (spPlace C) ∧ Binds K fd ps []
/-- what is let out: an error of the class at C with this place -/
def Told (C : Addr) (n : Int) (H : Hp) (E : XK) : Prop := ∀ (d : Addr) H', Same H H' → H d = none → H' d = some (.xd [("place", .int n)]) → E (.ref C) (some d) H'
/-- the reading of «raise C(e)», by what is wished of the error -/
theorem place_ok {C : Addr} {H1 : Hp} {y : V} {Q : XK} (q : ∀ (d : Addr) H', Same H1 H' → H1 d = none → H' d = some (.xd [("place", y)]) → Q (.ref C) (some d) H') :
    ([y] : List V).length ≤ 1000 ∧ ∀ a, H1 a = none → spPlace C (.ref a :: ([y] ++ [])) (upd H1 a (exo a C none))
      (fun v H2 => v = .non ∧ ∃ (d : Addr) (fs : List (Str × V)), H2 a = some (exo a C (some d)) ∧ H2 d = some (exd d fs) ∧ H1 d = none ∧ Q (.ref C) (some d) (upd (del H2 a) d (.xd fs))) (fun _ _ _ => False) := by
  refine ⟨(by show 1 ≤ 1000; decide), fun a ha => ⟨a, y, rfl, upd_same, fun dx hdx nda => ⟨rfl, dx, _, upd_same, by rw [upd_ne nda, upd_same], ?_, ?_⟩⟩⟩
  · rw [upd_ne nda] at hdx
    exact hdx
  · rw [upd_ne nda] at hdx
    refine q dx _ (fun b o hb => ?_) hdx upd_same
    have n1 : b ≠ dx := ne_of_none hb hdx
    have n2 : b ≠ a := ne_of_none hb ha
    rw [upd_ne n1, del_ne n2, upd_ne n2, upd_ne n1, upd_ne n2]
    exact hb
theorem ps_place {X : Cx} {W : WX} {x : Str} {C : Addr} {e : Expr} {te : TE} {p pos pos2 : Pos} {j : Nat} (hc : X.calm = true) (T : PlaceC X.prog X.w X.K X.mg X.base x C) (hr : Room j X.A) (hk : 2 ≤ j) (tk : Takes X W) (hg : Gl X x) (he : PE X e te)
    (hdb : (x == ("__debug__" : Str)) = false := by decide) (h1 : starEach [e] X.env = (false, eval e X.env) :: starEach [] X.env := by rfl) (h2 : (backTo pos (starEach [] X.env)).any (·.1) = false := by rfl) :
    PS X (.Raise (some (.Call (.Name x p) [e] [] pos)) none pos2) (fun _ σ H => tMkO C (spPlace C) [] (tCons te tNil) σ H fun cls d H' => W cls d σ H') := by
  obtain ⟨f, fd, ps, iC, tI, F1, hb⟩ := T.ini
  exact ps_raise (pos := pos2) hc tk (pmk_oex (p := p) (pos := pos) T.ox iC tI F1 (hr.mono hk) hb .nil C8.pass0 hg T.mgx (pa_cons (hs := h1) he pa_nil) hdb h1 h2)
end My
namespace My
open PySem L2 SX
/-! ### what a script is read to: texts and tuples -/
inductive Tr where
  | s (w : List Nat)
  | n (ts : List Tr)
inductive TrAt (H : Hp) : V → Tr → Prop
  | s (w : List Nat) : TrAt H (.str (S w)) (.s w)
  | n {a : Addr} {vs : List V} {ts : List Tr} (h : H a = some (.tup vs)) (hl : vs.length = ts.length) (hk : ∀ (i : Nat) (u : V) (t : Tr), vs[i]? = some u → ts[i]? = some t → TrAt H u t) : TrAt H (.ref a) (.n ts)
/-- tuples stay -/
def Tups (H H' : Hp) : Prop := ∀ a xs, H a = some (.tup xs) → H' a = some (.tup xs)
theorem TrAt.mono {H H' : Hp} {v : V} {t : Tr} (e : Tups H H') (h : TrAt H v t) : TrAt H' v t := by
  induction h with
  | s w => exact .s w
  | n h hl _ ih => exact .n (e _ _ h) hl fun i u t hu ht => ih i u t hu ht
theorem Tups.refl (H : Hp) : Tups H H := fun _ _ h => h
theorem Tups.trans {H H1 H2 : Hp} (a : Tups H H1) (b : Tups H1 H2) : Tups H H2 := fun c o h => b c o (a c o h)
theorem Same.tups {H H' : Hp} (e : Same H H') : Tups H H' := fun a xs h => e a _ h
/-- a change at an address where no tuple stands -/
theorem Tups.upd {H : Hp} {p : Addr} {o : HO} (h : ∀ xs, H p ≠ some (.tup xs)) : Tups H (L2.upd H p o) := fun a xs ha => by
  rw [upd_ne]
  · exact ha
  · rintro rfl
    exact h xs ha
theorem But.tups {p : Addr} {H H' : Hp} (e : But p H H') (h : ∀ xs, H p ≠ some (.tup xs)) : Tups H H' := fun a xs ha => e a _ ha fun z => h xs (by rw [← z]; exact ha)
/-- things side by side -/
def TrsAt (H : Hp) (vs : List V) (ts : List Tr) : Prop := vs.length = ts.length ∧ ∀ (i : Nat) (u : V) (t : Tr), vs[i]? = some u → ts[i]? = some t → TrAt H u t
theorem TrsAt.nil (H : Hp) : TrsAt H [] [] := ⟨rfl, fun i u t h => by simp at h⟩
theorem TrsAt.mono {H H' : Hp} {vs : List V} {ts : List Tr} (e : Tups H H') (h : TrsAt H vs ts) : TrsAt H' vs ts := ⟨h.1, fun i u t hu ht => (h.2 i u t hu ht).mono e⟩
theorem TrsAt.snoc {H : Hp} {vs : List V} {ts : List Tr} {v : V} {t : Tr} (h : TrsAt H vs ts) (hv : TrAt H v t) : TrsAt H (vs ++ [v]) (ts ++ [t]) := by
  refine ⟨by simp [h.1], fun i u t' hu ht => ?_⟩
  by_cases hi : i < vs.length
  · rw [List.getElem?_append_left hi] at hu
    rw [List.getElem?_append_left (by rw [← h.1]; exact hi)] at ht
    exact h.2 i u t' hu ht
  · have ei : i = vs.length := by
      have := (List.getElem?_eq_some_iff.mp hu).1
      simp at this
      omega
    subst ei
    rw [List.getElem?_append_right (Nat.le_refl _), Nat.sub_self] at hu
    rw [List.getElem?_append_right (by rw [h.1]; exact Nat.le_refl _), h.1, Nat.sub_self] at ht
    cases hu
    cases ht
    exact hv
theorem TrsAt.tup {H : Hp} {a : Addr} {vs : List V} {ts : List Tr} (h : H a = some (.tup vs)) (k : TrsAt H vs ts) : TrAt H (.ref a) (.n ts) := .n h k.1 k.2
def wText : List Nat := [116, 101, 120, 116]
def wName : List Nat := [110, 97, 109, 101]
def wRun : List Nat := [114, 117, 110]
theorem lit_text : (Str.ofString "text") = S wText := by decide +kernel
theorem lit_name : (Str.ofString "name") = S wName := by decide +kernel
theorem lit_run : (Str.ofString "run") = S wRun := by decide +kernel
def tx (w : List Nat) : Tr := .n [.s wText, .s w]
def nm (w : List Nat) : Tr := .n [.s wName, .s w]
def rn (cs : List Tr) : Tr := .n [.s wRun, .n cs]
/-- a piece: its kind and its worth -/
def IsPc (t : Tr) : Prop := (∃ w, t = tx w) ∨ (∃ w, t = nm w) ∨ ∃ cs, t = rn cs
/-- pieces, texts side by side made one -/
def merge (rows : List Tr) (p : Tr) : List Tr :=
  match rows.getLast?, p with
  | some (.n [.s k, .s u]), .n [.s k', .s w] => if k = wText ∧ k' = wText then rows.dropLast ++ [tx (u ++ w)] else rows ++ [p]
  | _, _ => rows ++ [p]
def joinP (ps : List Tr) : List Tr := ps.foldl merge []
/-! ### the ends -/
def bS (w : Nat) : List Nat → Bool
  | [] => true
  | c :: _ => decide (0 < w) && decide (c = 93)
def bC (w : Nat) : List Nat → Bool
  | [] => true
  | c :: r => bS w (c :: r) || (decide (c = 10) || decide (c = 59))
def bW (w : Nat) : List Nat → Bool
  | [] => true
  | c :: r => bC w (c :: r) || decide (c = 32)
def dropRem : List Nat → List Nat
  | [] => []
  | c :: r => if c = 10 then c :: r else dropRem r
def low (c : Nat) : Bool := decide (97 ≤ c) && decide (c ≤ 122)
/-- behind a dollar sign: the name and what follows it -/
def nameOf : List Nat → Option (List Nat × List Nat)
  | 123 :: r => if 1 ≤ (r.takeWhile low).length ∧ (r.takeWhile low).length ≤ 8 then (match r.dropWhile low with | 125 :: r' => some (r.takeWhile low, r') | _ => none) else none
  | r => if 1 ≤ (r.takeWhile low).length ∧ (r.takeWhile low).length ≤ 8 then some (r.takeWhile low, r.dropWhile low) else none
/-- what comes of reading: things and what is left, or how much is left from the wrong place on -/
inductive Out where
  | ok (ts : List Tr) (r : List Nat)
  | er (k : Nat)
def Out.cons (t : Tr) : Out → Out
  | .ok ts r => .ok (t :: ts) r
  | .er k => .er k
mutual
inductive DScr : Nat → List Nat → Out → Prop
  | stop {w : Nat} {r : List Nat} (h : bS w r = true) : DScr w r (.ok [] r)
  | skip {w c : Nat} {r : List Nat} {o : Out} (h : bS w (c :: r) = false) (hc : bW w (c :: r) = true) (d : DScr w r o) : DScr w (c :: r) o
  | remark {w : Nat} {r : List Nat} {o : Out} (h : bW w (35 :: r) = false) (d : DScr w (dropRem r) o) : DScr w (35 :: r) o
  | cmd {w c : Nat} {r r1 : List Nat} {ts : List Tr} {o : Out} (h : bW w (c :: r) = false) (hc : c ≠ 35) (d : DCmd w (c :: r) (.ok ts r1)) (d2 : DScr w r1 o) : DScr w (c :: r) (o.cons (.n ts))
  | cmdE {w c k : Nat} {r : List Nat} (h : bW w (c :: r) = false) (hc : c ≠ 35) (d : DCmd w (c :: r) (.er k)) : DScr w (c :: r) (.er k)
inductive DCmd : Nat → List Nat → Out → Prop
  | stop {w : Nat} {r : List Nat} (h : bC w r = true) : DCmd w r (.ok [] r)
  | skip {w c : Nat} {r : List Nat} {o : Out} (h : bC w (c :: r) = false) (hc : bW w (c :: r) = true) (d : DCmd w r o) : DCmd w (c :: r) o
  | word {w c : Nat} {r r1 : List Nat} {t : Tr} {o : Out} (h : bW w (c :: r) = false) (d : DWrd w (c :: r) (.ok [t] r1)) (d2 : DCmd w r1 o) : DCmd w (c :: r) (o.cons t)
  | wordE {w c k : Nat} {r : List Nat} (h : bW w (c :: r) = false) (d : DWrd w (c :: r) (.er k)) : DCmd w (c :: r) (.er k)
inductive DWrd : Nat → List Nat → Out → Prop
  | braced {w e : Nat} {r : List Nat} (h : pend 0 0 (123 :: r) = some e) (he : bW w (r.drop e) = true) : DWrd w (123 :: r) (.ok [.n (if e = 1 then [] else [tx (r.take (e - 1))])] (r.drop e))
  | bracedE {w : Nat} {r : List Nat} (h : pend 0 0 (123 :: r) = none) : DWrd w (123 :: r) (.er (r.length + 1))
  | bracedB {w e : Nat} {r : List Nat} (h : pend 0 0 (123 :: r) = some e) (he : bW w (r.drop e) = false) : DWrd w (123 :: r) (.er (r.drop e).length)
  | quoted {w : Nat} {r r1 : List Nat} {ps : List Tr} (d : DQuo w (r.length + 1) r (.ok ps r1)) (he : bW w r1 = true) : DWrd w (34 :: r) (.ok [.n (joinP ps)] r1)
  | quotedB {w : Nat} {r r1 : List Nat} {ps : List Tr} (d : DQuo w (r.length + 1) r (.ok ps r1)) (he : bW w r1 = false) : DWrd w (34 :: r) (.er r1.length)
  | quotedE {w k : Nat} {r : List Nat} (d : DQuo w (r.length + 1) r (.er k)) : DWrd w (34 :: r) (.er k)
  | bare {w c : Nat} {r r1 : List Nat} {ps : List Tr} (h1 : c ≠ 123) (h2 : c ≠ 34) (d : DBar w (c :: r) (.ok ps r1)) (he : bW w r1 = true) : DWrd w (c :: r) (.ok [.n (joinP ps)] r1)
  | bareE {w c k : Nat} {r : List Nat} (h1 : c ≠ 123) (h2 : c ≠ 34) (d : DBar w (c :: r) (.er k)) : DWrd w (c :: r) (.er k)
inductive DQuo : Nat → Nat → List Nat → Out → Prop
  | stop {w q : Nat} {r : List Nat} : DQuo w q (34 :: r) (.ok [] r)
  | lacks {w q : Nat} : DQuo w q [] (.er q)
  | piece {w q c : Nat} {r r1 : List Nat} {t : Tr} {o : Out} (h : c ≠ 34) (d : DPc w (c :: r) (.ok [t] r1)) (d2 : DQuo w q r1 o) : DQuo w q (c :: r) (o.cons t)
  | pieceE {w q c k : Nat} {r : List Nat} (h : c ≠ 34) (d : DPc w (c :: r) (.er k)) : DQuo w q (c :: r) (.er k)
inductive DBar : Nat → List Nat → Out → Prop
  | stop {w : Nat} {r : List Nat} (h : bW w r = true) : DBar w r (.ok [] r)
  | piece {w c : Nat} {r r1 : List Nat} {t : Tr} {o : Out} (h : bW w (c :: r) = false) (d : DPc w (c :: r) (.ok [t] r1)) (d2 : DBar w r1 o) : DBar w (c :: r) (o.cons t)
  | pieceE {w c k : Nat} {r : List Nat} (h : bW w (c :: r) = false) (d : DPc w (c :: r) (.er k)) : DBar w (c :: r) (.er k)
inductive DPc : Nat → List Nat → Out → Prop
  | turn {w d : Nat} {r : List Nat} : DPc w (92 :: d :: r) (.ok [tx [mean d]] r)
  | turnE {w : Nat} : DPc w [92] (.er 1)
  | name {w : Nat} {r n r1 : List Nat} (h : nameOf r = some (n, r1)) : DPc w (36 :: r) (.ok [nm n] r1)
  | nameE {w : Nat} {r : List Nat} (h : nameOf r = none) : DPc w (36 :: r) (.er (r.length + 1))
  | run {w : Nat} {r r1 : List Nat} {cs : List Tr} (h : w < 12) (d : DScr (w + 1) r (.ok cs (93 :: r1))) : DPc w (91 :: r) (.ok [rn cs] r1)
  | runB {w : Nat} {r : List Nat} {cs : List Tr} (h : w < 12) (d : DScr (w + 1) r (.ok cs [])) : DPc w (91 :: r) (.er (r.length + 1))
  | runE {w k : Nat} {r : List Nat} (h : w < 12) (d : DScr (w + 1) r (.er k)) : DPc w (91 :: r) (.er k)
  | runM {w : Nat} {r : List Nat} (h : w = 12) : DPc w (91 :: r) (.er (r.length + 1))
  | sign {w c : Nat} {r : List Nat} (h1 : c ≠ 92) (h2 : c ≠ 36) (h3 : c ≠ 91) : DPc w (c :: r) (.ok [tx [c]] r)
end
end My
namespace My
open PySem L2 SX C8
/-! ### a sign many times over -/
theorem foldl_cps (x : Array Nat) : ∀ (n : Nat) (a : Array Nat), (List.replicate n x).foldl (· ++ ·) a = a ++ ((List.replicate n x.toList).flatten).toArray
  | 0, a => by simp
  | n + 1, a => by
    rw [List.replicate_succ, List.foldl_cons, foldl_cps x n, List.replicate_succ, List.flatten_cons]
    apply Array.toList_inj.mp
    simp
theorem rep_flat (c n : Nat) : (List.replicate n [c]).flatten = List.replicate n c := by
  induction n with
  | zero => rfl
  | succ n ih => rw [List.replicate_succ, List.flatten_cons, ih]; rfl
theorem mul_S (c n : Nat) : Txt.mul (S [c]) (n : Int) = S (List.replicate n c) := by
  unfold Txt.mul
  by_cases h0 : ((n : Int) < 1)
  · have : n = 0 := by omega
    subst this
    rw [if_pos h0]
    rfl
  · rw [if_neg h0]
    by_cases h1 : n = 1
    · subst h1
      rfl
    · have e : (((n : Int) == 1) || (S [c]).length == 0) = false := by
        have e1 : ((n : Int) == 1) = false := by
          rw [beq_eq_false_iff_ne]; omega
        rw [e1]; rfl
      rw [if_neg (by rw [e]; decide), foldl_cps, Int.toNat_natCast]
      show (⟨#[] ++ (List.replicate n [c]).flatten.toArray⟩ : Str) = _
      rw [rep_flat]
      simp
theorem mulOk_S (c n : Nat) (h : n ≤ 100000) : MulOk (S [c]) (n : Int) := by
  refine ⟨?_, fun h1 _ => ?_, fun _ _ => ?_⟩
  · simp only [Bool.or_eq_false_iff, decide_eq_false_iff_not]
    omega
  · show ¬ (((1 : Nat) : Int) > _)
    have : 1 ≤ (2 ^ 63 - 1) / (n : Int) := by
      rw [Int.le_ediv_iff_mul_le (by omega)]
      omega
    omega
  · show Builtin.Str.tooLong (1 * ((n : Int)).toNat) = false
    unfold Builtin.Str.tooLong
    rw [decide_eq_false_iff_not, sizeLine_eq, Int.toNat_natCast]
    omega
section
variable {X : Cx}
theorem op_rep_str : OpR X (binaryOp .Mult) (fun x y H Q => ∃ c n : Nat, x = .str (S [c]) ∧ y = .int (n : Int) ∧ n ≤ 100000 ∧ Q (.str (S (List.replicate n c))) H) := by
  intro pins s σ H x y v u Q I rx ry h
  obtain ⟨c, n, rfl, rfl, hz, q⟩ := h
  obtain ⟨t, rfl⟩ := rx
  obtain ⟨t', rfl⟩ := ry
  refine SB.mul (mulOk_S c n hz) fun t' k => ?_
  rw [mul_S]
  exact ⟨.str (S (List.replicate n c)), H, I.tok _, ⟨_, rfl⟩, q⟩
end
/-! ### a call within a try -/
section
variable {X : Cx} {k j : Nat} {x : Str} {sp : Sp} {p pos : Pos} {e : Expr} {es : List Expr} {t : TA} {W : WX}
theorem pe_xS (c : CalX X.prog X.w X.K X.mg X.base k x sp) (hr : Room j X.A) (hk : k ≤ j) (hg : Gl X x) (tk : Takes X W) (ha : PA X (e :: es) t)
    (hdb : (x == ("__debug__" : Str)) = false := by decide) (he : starEach (e :: es) X.env = (false, eval e X.env) :: starEach es X.env := by rfl) (hpl : (backTo pos (starEach es X.env)).any (·.1) = false := by rfl) :
    PE X (.Call (.Name x p) (e :: es) [] pos) (tCallS sp (WE W) t) := by
  obtain ⟨f, fd, ps, F, hm, kp, b⟩ := c.ex
  exact pe_callS F (hr.mono hk) hg hm kp b (fun σ => passAt tk σ) ha hdb he hpl
end
/-- an error of the class at S is what «except S» names -/
theorem exm_self {K : PySem.W.Frag} {S : Addr} (h1 : PySem.W.subIn K (.ref S) (.type "BaseException") = some true) (h2 : PySem.W.isClsIn K S = true) (h3 : PySem.W.typeIn K (.ref S) = some (.type "type")) (h4 : PySem.W.subIn K (.ref S) (.ref S) = some true) :
    PySem.W.exmOne K (.ref S) (.ref S) = some true := by
  have e1 : (PySem.W.subIn K (.ref S) (.type "BaseException") == some true) = true := by rw [h1] <;> rfl
  have e2 : ((PySem.W.clsIn K S).isSome && PySem.W.typeIn K (.ref S) == some (.type "type")) = true := by
    have h2' : (PySem.W.clsIn K S).isSome = true := h2
    rw [h2', h3] <;> rfl
  show (if (PySem.W.subIn K (.ref S) (.type "BaseException") == some true) = true then (if ((PySem.W.clsIn K S).isSome && PySem.W.typeIn K (.ref S) == some (.type "type")) = true then PySem.W.subIn K (.ref S) (.ref S) else none) else none) = some true
  rw [if_pos e1, if_pos e2]
  exact h4
end My
namespace My
open PySem L2 SX C8
/-! ### a call that raises nothing, of a def that might -/
section
variable {P : Program} {w : World} {K : PySem.W.Frag} {mg : Str → Option Value} {base : Heap}
def calmed (sp : Sp) : Sp := fun vs H Q _ => sp vs H Q (fun _ _ _ => False)
theorem fn_calm {k : Nat} {f : Addr} {fd : FuncData} {ps : List Str} {sp : Sp} (F : FnOk P w K mg base (L2.CX P w) k f fd ps sp) : FnOk P w K mg base C8.CX0 k f fd ps (calmed sp) :=
  ⟨fun vs H Q _ h => F.len vs H Q _ h, fun A outer s H args us vs Q E hr he hb hv hs => codeAny_mono (F.run A outer s H args us vs Q (fun _ _ _ => False) hr he hb hv hs) fun r s' hq => by
    cases r with
    | error e =>
      obtain ⟨_, _, _, _, _, _, _, _, _, _, _, _, h⟩ := hq
      exact h.elim
    | ok fl => cases fl <;> exact hq⟩
theorem CalX.calm {k : Nat} {x : Str} {sp : Sp} (c : CalX P w K mg base k x sp) : Cal P w K mg base k x (calmed sp) [] := by
  obtain ⟨f, fd, ps, F, hm, kp, b⟩ := c.ex
  exact ⟨f, fd, ps, [], fn_calm F, hm, kp, b, .nil⟩
end
theorem room_u {k : Nat} {A : Around} (h : Room k A) : A.units + 1 < cLine := by have := h.un; omega
end My
namespace My
open PySem L2 SX C8
/-! ### list(text) -/
section
variable {X : Cx}
theorem call_list_S (hc : X.calm = true) : CallR X (.type "list") (fun xs H Q => ∃ ss : List Nat, xs = [.str (S ss)] ∧ ss.length ≤ 1000 ∧ ∀ l, H l = none → Q (.ref l) (upd H l (.lst (ss.map fun c => V.str (S [c]))))) := by
  intro pins s σ H xs us Q I r h
  obtain ⟨ss, rfl, hz, q⟩ := h
  obtain ⟨u, rfl, rx⟩ := vals1 r
  obtain ⟨t, rfl⟩ := rx
  have hsz : (S ss).cps.size = ss.length := by simp
  refine call_list_str (I.ok.hd hc) (S ss) t (fun h' tk acc' c' kp e it => ?_) (by rw [hsz, sizeLine_eq]; omega)
  have hv : Vals (ss.map fun c => V.str (S [c])) acc'.toList := vals_of_idx _ _ (by rw [Array.length_toList, it.1, hsz, List.length_map]) fun j v hj => by
    rw [Array.getElem?_toList] at hj
    obtain ⟨c, u, hcj, rfl⟩ := it.2 j v hj
    have hcj' : ss[j]? = some c := by simpa using hcj
    exact ⟨V.str (S [c]), by rw [List.getElem?_map, hcj']; rfl, ⟨u, rfl⟩⟩
  refine ⟨.ref s.heap.objs.size, _, I.laid (t' := tk) kp (Nat.le_refl _) (show ObjOk X.prog X.w _ h' _ (.lst _) from ⟨?_, acc'.toList, c', hv, ?_⟩), rfl, q _ (I.hok.fresh (Nat.le_refl _))⟩
  · rw [List.length_map, sizeLine_eq]; omega
  · rw [e]
end
end My
namespace My
open PySem L2 PySem.Spec PyProof.Rows
/-! ### a try with clauses of both kinds: with a name for the error and without -/
section
variable {X : Cx} {pins : List (Addr × Obj)} {σ : L2.St} {H : Hp} {cls : Value} {d : Option Addr} {a : Addr} {B : Heap} {s : Shared}
/-- an error that a frame has caught and whose clauses it looks at -/
structure Hld (X : Cx) (pins : List (Addr × Obj)) (σ : L2.St) (H : Hp) (cls : Value) (d : Option Addr) (a : Addr) (B : Heap) (s : Shared) : Prop where
  fl : HandSPX.FlyingZ B (X.env :: X.outer) a (Zc cls d) s.heap
  inv : ∀ h2, HandSPX.FlyingZ B (X.env :: X.outer) a (Zc cls d) h2 → s.heap.UpToSlots h2 → Inv X pins σ H { s with heap := h2 }
  here : Inv X pins σ H s
  na : H a = none
  nL : a ≠ X.env.locals
  nF : a ∉ X.fs
  back : ∀ (W : WX) h2 L, X.env.frame = some L → HandSPX.HeldZ B (X.env :: X.outer) a (Zc cls d) L h2 → s.heap.UpToSlots h2 → W cls d σ H → XE X W (.ref a) { s with heap := h2 }
abbrev TSu := Addr → Value → Option Addr → TS
def wBare (K : PySem.W.Frag) (c : Value) (ts : TSu) (W : Ends → WX) : Ends → WX := fun D cls d σ H =>
  ∃ b, PySem.W.exmOne K cls c = some b ∧ (b = true → ∀ a, H a = none → ts a cls d D σ H) ∧ (b = false → W D cls d σ H)
def wNamed (K : PySem.W.Frag) (c : Value) (i : Nat) (ts : TSu) (W : Ends → WX) : Ends → WX := fun D => wAs K c i ts (W D) D
/-- clauses and what they wish of an error -/
inductive Cls2 (X : Cx) : List ExceptHandler → (Ends → WX) → Prop
  | out {Wo : WX} (tk : Takes X Wo) : Cls2 X [] (fun _ => Wo)
  | bare {x : Str} {c : Value} {ts : TSu} {q0 : Stmt} {st : List Stmt} {np p2 : Pos} {hds : List ExceptHandler} {W : Ends → WX} (hc : Names X x c)
      (su : ∀ a oe cls d pn, Zc cls d oe → (∃ vs, oe.data = .fields vs) → PSs (X.suite a ((a, oe) :: pn)) (q0 :: st) (ts a cls d)) (r : Cls2 X hds W) : Cls2 X (.ExceptHandler (some (.Name x np)) none (q0 :: st) p2 :: hds) (wBare X.K c ts W)
  | named {x n : Str} {c : Value} {i : Nat} {ts : TSu} {q0 : Stmt} {st : List Stmt} {np p2 : Pos} {hds : List ExceptHandler} {W : Ends → WX} (hc : Names X x c) (hi : X.N[i]? = some n) (ln : X.env.kindOf n = some .local)
      (su : ∀ a oe cls d pn, Zc cls d oe → (∃ vs, oe.data = .fields vs) → PSs (X.suite a ((a, oe) :: pn)) (q0 :: st) (ts a cls d)) (r : Cls2 X hds W) : Cls2 X (.ExceptHandler (some (.Name x np)) (some n) (q0 :: st) p2 :: hds) (wNamed X.K c i ts W)
/-- the test of a clause -/
theorem Hld.test (h : Hld X pins σ H cls d a B s) {x : Str} {c : Value} {np : Pos} {b : Bool} (hc : Names X x c) (hb : PySem.W.exmOne X.K cls c = some b) {R : Bool → Shared → Prop} {E F : Value → Shared → Prop} (q : R b s) :
    wpAny (model X.prog X.w) (X.A.mark (some (.ref a))) (eval (.Name x np) X.env) (fun v s1 => wpAny (model X.prog X.w) (X.A.mark (some (.ref a))) (excMatches (.ref a) v) R F s1) E s := by
  obtain ⟨oe, vs, ho, hz, hd⟩ := h.fl.there
  have I1 := h.here.suite ho hd h.na h.nL h.nF
  have ty : PySem.W.Looks (model X.prog X.w) s.heap (typeOf (.ref a)) cls := fun _ _ _ _ kp q => wpAny_typeOf_ref (kp _ _ ho) (by rw [hz.1]; exact q)
  have mt := PySem.W.exm_one (M := model X.prog X.w) h.here.kIn ty hb
  obtain ⟨g1, g2, g3 | ⟨g3, g4, g5⟩⟩ := hc
  · exact ld_glob (X := X.suite a ((a, oe) :: (X.pn ++ pins))) I1 g1 g3 (mt.here q) g2
  · exact ld_blt (X := X.suite a ((a, oe) :: (X.pn ++ pins))) I1 g1 g3 g4 (mt.here q) g5 g2
/-- the clauses, one behind the other -/
theorem clauses_go (hs : X.stack = X.env :: X.outer) (L : Addr) (hf : X.env.frame = some L) (hN : X.N.Nodup) (ok : X.Ok) {D : Ends} : ∀ {hds : List ExceptHandler} {W : Ends → WX}, Cls2 X hds W → Hld X pins σ H cls d a B s → W D cls d σ H →
    wpAny (model X.prog X.w) X.A (handleBy (.ref a) X.env hds) (SP X pins D) X.xe s := by
  intro hds W hk
  induction hk with
  | out tk =>
    intro h w
    obtain ⟨_, _, _, oe, vs, tb, _, _, ho, _, hd, h1, _⟩ := id h.fl
    refine wpAny_handleBy_nil ?_
    have up : wpAny (model X.prog X.w) X.A (setFlight (.ref a) X.env.frame) (fun _ s2 => wpAny (model X.prog X.w) X.A (throw (.ref a) : Sem Flow) (SP X pins D) X.xe s2) X.xe s := by
      rw [hf]
      exact HandSPX.setFlight_upZ h.fl fun h2 k1 k2 => wpAny_throw (tk _ _ (h.back _ h2 L hf k1 k2 w))
    unfold PySem.passOn
    refine wpAny_bind (wpAny_field ho hd h1 ?_)
    rw [if_neg (by simp)]
    first
      | exact wpAny_bind (wpAny_pure (wpAny_bind up))
      | exact wpAny_bind up
  | bare hc su r ih =>
    rintro h ⟨b, hb, yes, no⟩
    refine wpAny_handleBy_cons (codeAny_handlers_test (h.test hc hb ?_)) (fun z => by cases z)
    cases b with
    | false => exact ih h (no rfl)
    | true =>
      refine codeAny_handlers_suite (HandSPX.lands_againZ h.fl fun h2 k1 k2 => ?_)
      obtain ⟨oe, vs, ho, hz, hd⟩ := k1.there
      have I2 := (h.inv h2 k1 k2).suite ho hd h.na h.nL h.nF
      refine wpAny_mono ((su a oe cls d (X.pn ++ pins) hz ⟨_, hd⟩).run [] _ σ H D I2 (yes rfl a h.na)) (fun fw s3 sp => ?_) (fun _ _ z => z.elim)
      cases fw with
      | ret u =>
        obtain ⟨v3, σ3, H3, I3, r3, q3⟩ := sp
        exact ⟨v3, σ3, H3, I3.unsuite ok, r3, q3⟩
      | next => exact sp.elim fun σ3 ⟨H3, I3, q3⟩ => ⟨σ3, H3, I3.unsuite ok, q3⟩
      | brk => exact sp.elim fun σ3 ⟨H3, I3, q3⟩ => ⟨σ3, H3, I3.unsuite ok, q3⟩
      | cont => exact sp.elim fun σ3 ⟨H3, I3, q3⟩ => ⟨σ3, H3, I3.unsuite ok, q3⟩
  | @named x n c i ts q0 st np p2 hds W hc hi ln su r ih =>
    rintro h ⟨b, hb, yes, no⟩
    refine wpAny_handleBy_cons (codeAny_handlers_test (h.test hc hb ?_)) (fun z => by cases z)
    cases b with
    | false => exact ih h (no rfl)
    | true =>
      refine codeAny_handlers_suite_as (HandSPX.lands_againZ h.fl fun h2 k1 k2 => ?_)
      obtain ⟨oe, vs, ho, hz, hd⟩ := k1.there
      have I2 := (h.inv h2 k1 k2).suite ho hd h.na h.nL h.nF
      refine store_ok (X := X.suite a ((a, oe) :: (X.pn ++ pins))) (v := .ref a) I2 hN hi (.inl ln) rfl (fun s3 I3 => ?_) (.inr ln)
      refine wpAny_mono ((su a oe cls d (X.pn ++ pins) hz ⟨_, hd⟩).run [] s3 _ H _ I3 (yes rfl a h.na)) (fun fw s4 sp => ?_) (fun _ _ z => z.elim)
      have go : ∀ {σ5 : L2.St} {H5 : Hp} {R : Shared → Prop}, Inv (X.suite a ((a, oe) :: (X.pn ++ pins))) [] σ5 H5 s4 → (∀ s5, Inv X pins (σ5.set i none) H5 s5 → R s5) → wpAny (model X.prog X.w) X.A (do bindName X.env n .none; unbindBehindTheSuite X.env n p2) (fun _ s5 => R s5) X.xe s4 :=
        fun I5 k => gone_ok (I5.unsuite ok) hN hi ln k
      cases fw with
      | ret u => exact sp.elim fun v5 ⟨σ5, H5, I5, r5, q5⟩ => go I5 fun s5 J => ⟨v5, _, H5, J, r5, q5⟩
      | next => exact sp.elim fun σ5 ⟨H5, I5, q5⟩ => go I5 fun s5 J => ⟨_, H5, J, q5⟩
      | brk => exact sp.elim fun σ5 ⟨H5, I5, q5⟩ => go I5 fun s5 J => ⟨_, H5, J, q5⟩
      | cont => exact sp.elim fun σ5 ⟨H5, I5, q5⟩ => go I5 fun s5 J => ⟨_, H5, J, q5⟩
end
section
variable {X : Cx} {body : List Stmt} {h₀ : ExceptHandler} {hds : List ExceptHandler} {pos : Pos} {tb : WX → TS} {W : Ends → WX}
/-- what leaves the body is caught -/
theorem held_of {pins : List (Addr × Obj)} {xe : Value → Shared → Prop} {Wb : WX} {u : Value} {s : Shared} (hs : X.stack = X.env :: X.outer) {L : Addr} (hf : X.env.frame = some L) (hfl : L = X.env.locals) (ok : X.Ok) (x : XE (X.tr (X.pn ++ pins) xe) Wb u s) {Q : Shared → Prop} {E : Value → Shared → Prop}
    (k : ∀ a B h2 σ H cls d, u = .ref a → Hld X pins σ H cls d a B { s with heap := h2 } → Wb cls d σ H → Q { s with heap := h2 }) :
    wpAny (model X.prog X.w) X.A (noteFrame u X.env) (fun _ s2 => wpAny (model X.prog X.w) X.A (setFlight u none) (fun _ s3 => Q s3) E s2) E s := by
  obtain ⟨a, B, si, pn, σ, H, cls, d, rfl, J, nb, up, sky, na, os, ag, w⟩ := x
  subst hfl
  have I0 : Inv X pins σ H si := J.ofTry ok
  have fr : X.A.frames = some (X.env :: X.outer) := by rw [ok.frames, hs]
  have sk : Sky B (X.env :: X.outer) a (Zc cls d) X.env.locals s.heap := by rw [← hs]; exact sky
  refine Sky.land (L := X.env.locals) Zc.steady fr hf sk fun h2 f2 u2 => k a B h2 σ H cls d rfl ?_ w
  have mk : ∀ h3, HandSPX.FlyingZ B (X.env :: X.outer) a (Zc cls d) h3 → s.heap.UpToSlots h3 → Inv X pins σ H { s with heap := h3 } := fun h3 f3 u3 => I0.landed nb f3.1 (up.trans u3) os ag
  obtain ⟨oe, vs, ho, _, hd⟩ := f2.there
  have nfr : a ∉ frs (X.env :: X.outer) := fun hm => by
    obtain ⟨_, o2, e2, nd⟩ := f2.2.2.1.mem hm
    rw [ho] at e2
    cases e2
    exact nd vs hd
  refine ⟨f2, fun h3 f3 u3 => mk h3 f3 (u2.trans u3), mk h2 f2 u2, na, fun z => nfr (List.mem_filterMap.mpr ⟨X.env, List.mem_cons_self, by rw [hf, z]⟩), fun hm => ?_, fun W h3 L2 hL hh u3 w3 => ?_⟩
  · obtain ⟨e, he, q⟩ := List.mem_filterMap.mp hm
    exact nfr (List.mem_filterMap.mpr ⟨e, List.mem_cons_of_mem _ he, q⟩)
  · rw [hf] at hL
    cases hL
    exact ⟨a, B, si, pins, σ, H, cls, d, rfl, I0, nb, (up.trans u2).trans u3, .inr (.inr (by rw [hs]; exact hh)), na, os, ag, w3⟩
theorem ps_tryC (hs : X.stack = X.env :: X.outer) (hf : X.env.frame = some X.env.locals) (hN : X.N.Nodup)
    (hb : ∀ (W : WX) (pn : List (Addr × Obj)) (xe : Value → Shared → Prop), Takes (X.tr pn xe) W → PSs (X.tr pn xe) body (tb W)) (hh : Cls2 X (h₀ :: hds) W) : PS X (.Try body (h₀ :: hds) [] [] pos) (fun D σ H => tb (W D) D σ H) := by
  refine ⟨fun pins s σ H D I h => wpAny_Try_except ?_⟩
  have ok := I.ok
  have run := (hb (W D) (X.pn ++ pins) (fun e s1 => wpAny (model X.prog X.w) X.A (noteFrame e X.env) (fun _ s2 => wpAny (model X.prog X.w) X.A (setFlight e none) (fun _ s3 => wpAny (model X.prog X.w) X.A (handleBy e X.env (h₀ :: hds)) (SP X pins D) X.xe s3) X.xe s2) X.xe s1)
    (fun u s1 x => held_of hs hf rfl ok x fun a B h2 σ' H' cls d e hd w => by subst e; exact clauses_go hs _ hf hN ok hh hd w)).run [] s σ H D (I.toTry _) h
  refine wpAny_mono run (fun fw s1 sp => ?_) (fun _ _ z => z)
  cases fw with
  | ret u => exact sp.elim fun v1 ⟨σ1, H1, I1, r1, q1⟩ => ⟨v1, σ1, H1, I1.ofTry ok, r1, q1⟩
  | next => exact sp.elim fun σ1 ⟨H1, I1, q1⟩ => wpAny_execs_nil ⟨σ1, H1, I1.ofTry ok, q1⟩
  | brk => exact sp.elim fun σ1 ⟨H1, I1, q1⟩ => ⟨σ1, H1, I1.ofTry ok, q1⟩
  | cont => exact sp.elim fun σ1 ⟨H1, I1, q1⟩ => ⟨σ1, H1, I1.ofTry ok, q1⟩
end
end My
namespace My
open PySem L2 SX C8
/-! ### errors that tell nothing but a message -/
structure OwnX (K : PySem.W.Frag) (mg : Str → Option Value) (x : Str) (C : Addr) : Prop where
  q : PySem.W.excIn K C [.type "ValueError", .type "Exception", .type "BaseException", .type "object"] "ValueError.__new__" = true
  gC : mg x = some (.ref C)
  kC : PySem.W.keepIn K (.ref C) = true
  ex : PySem.W.subIn K (.ref C) (.type "BaseException") = some true
  ty : PySem.W.typeIn K (.ref C) = some (.type "type")
section
variable {X : Cx} {W : WX} {x : Str} {C : Addr} {e : Expr} {te : TE} {p pos pos2 : Pos}
theorem ps_own (T : OwnX X.K X.mg x C) (tk : Takes X W) (hg : Gl X x) (he : PE X e te) (hc : X.calm = true := by rfl) (hs : starEach [e] X.env = (false, eval e X.env) :: starEach [] X.env := by rfl) (hdb : (x == ("__debug__" : Str)) = false := by decide) :
    PS X (.Raise (some (.Call (.Name x p) [e] [] pos)) none pos2) (fun _ σ H => te σ H fun _ H1 => W (.ref C) none σ H1) :=
  ps_raise hc tk (SkE.pmk_own1 PySem.F.excBase_ValueError T.q T.gC T.kC (raises_own T.ex T.ty) hg he hs hdb)
end
def spRefuseX (CT : Addr) : Sp := fun vs H Q E => ∃ (l : List Nat), vs = [.str (S l)] ∧ l.length ≤ 100000 ∧ (l.length ≤ 1000 → Q .non H) ∧ (1000 < l.length → ∀ H', Same H H' → E (.ref CT) none H')
end My
namespace My
open PySem L2 SX C8
theorem lit_sp : (Str.ofString " ") = S [32] := by decide +kernel
/-- ' '.join of written words: the list that the comprehension has made -/
theorem join_words {ws : List (List Nat)} : Txt.join (Str.ofString " ") ((ws.map wtext).map S) = S (ltext ws) := by
  rw [lit_sp, join_S]
  rfl
theorem sum_le {k : Nat} : ∀ (ws : List (List Nat)), (∀ w ∈ ws, w.length ≤ k) → (((ws.map wtext).map S).map (·.length)).sum ≤ ws.length * (2 * k + 2)
  | [], _ => by simp
  | w :: r, h => by
    have ih := sum_le r fun x hx => h x (List.mem_cons_of_mem _ hx)
    have h1 := wtext_len w
    have h2 := h w List.mem_cons_self
    have e : (w :: r).length * (2 * k + 2) = r.length * (2 * k + 2) + (2 * k + 2) := by rw [List.length_cons, Nat.succ_mul]
    have e2 : (S (wtext w)).length = (wtext w).length := S_len _
    rw [e]
    simp only [List.map_cons, List.sum_cons]
    omega
section
variable {P : Program} {w : World} {K : PySem.W.Frag} {mg : Str → Option Value} {base : Heap}
theorem join_ok {H : Hp} {D : Addr} {ws : List (List Nat)} {Q : VK} (hl : ws.length ≤ 100) (hw : ∀ w ∈ ws, w.length ≤ 1000) (hd : H D = some (.lst (txs (ws.map wtext)))) (q : Q (.str (S (ltext ws))) H) :
    ∃ a p, ∃ ys : List Str, V.str (Str.ofString " ") = .str a ∧ [V.ref D] = [.ref p] ∧ (SqL K H p (ys.map V.str) ∨ SqT K H p (ys.map V.str)) ∧ (ys.map (·.length)).sum + ys.length * a.length ≤ 16777216 ∧ Q (.str (Txt.join a ys)) H := by
  rw [txs_map] at hd
  refine ⟨_, D, (ws.map wtext).map S, rfl, rfl, .inl (SqL.of hd), ?_, by rw [join_words]; exact q⟩
  have h1 := sum_le ws hw
  have h2 : ws.length * (2 * 1000 + 2) ≤ 100 * (2 * 1000 + 2) := Nat.mul_le_mul_right _ hl
  have h3 : (Str.ofString " ").length = 1 := by rw [lit_sp, S_len]; rfl
  rw [h3]
  simp only [List.length_map]
  omega
end
end My
namespace My
open PySem PySem.Spec PyProof.Rows L2
/-! ### a loop over a list or a tuple -/
def iSeq (K : PySem.W.Frag) (tl : TE) : TI := fun σ H R => tl σ H fun x H1 => ∃ a, x = .ref a ∧ (((∃ xs, SqL K H1 a xs) ∧ R (Itl K a) H1) ∨ ((∃ xs, SqT K H1 a xs) ∧ R (Itt K a) H1))
theorem pi_seq {X : Cx} {tg l : Expr} {tl : TE} (hl : PE X l tl) : PI X tg l (iSeq X.K tl) := by
  constructor
  intro pins s σ H R I h
  refine thn (hl.run pins s σ H _ I h) fun v sa hq1 => ?_
  obtain ⟨x, Ha, Ia, ra, a, e, k⟩ := hq1
  subst e
  cases ra
  have fr := Ia.hok.fresh (Nat.le_refl sa.heap.objs.size)
  rcases k with ⟨⟨xs, hq⟩, q⟩ | ⟨⟨xs, hq⟩, q⟩
  · obtain ⟨its, rv, pl, hz⟩ := Ia.list hq
    refine wpAny_pyIter_list pl.isList ⟨sa.heap.objs.size, [sa.heap.objs.size], _, _, Ha, rfl, Ia.kept (t' := sa.toks) (fun b o e => Heap.get?_push_of_some _ e), turn_list a _, ⟨_, Heap.get?_push_size _ rfl, rfl, rfl⟩, fun b hb => ?_, q⟩
    rw [List.mem_singleton.mp hb]
    exact Ia.fpOk (Nat.le_refl _) fr
  · obtain ⟨its, rv, pt, hz⟩ := Ia.tuple hq
    refine wpAny_pyIter_tuple (show sa.heap.IsTuple a its.toArray from pt) ⟨sa.heap.objs.size, [sa.heap.objs.size], _, _, Ha, rfl, Ia.kept (t' := sa.toks) (fun b o e => Heap.get?_push_of_some _ e), turn_tuple a _, ⟨_, Heap.get?_push_size _ rfl, rfl, rfl⟩, fun b hb => ?_, q⟩
    rw [List.mem_singleton.mp hb]
    exact Ia.fpOk (Nat.le_refl _) fr
theorem for_seq {K : PySem.W.Frag} {a : Addr} {xs : List V} {g : TG} {tb : TS} {D : Ends} {σ : L2.St} {H : Hp} (Pv : Nat → L2.St → Hp → Prop) (h0 : Pv 0 σ H)
    (hl : (∀ i σ H, i ≤ xs.length → Pv i σ H → SqL K H a xs) ∨ (∀ i σ H, i ≤ xs.length → Pv i σ H → SqT K H a xs))
    (hs : ∀ i x σ H, xs[i]? = some x → Pv i σ H → g x σ H fun σ2 H2 => tb { D with nx := Pv (i + 1), ct := Pv (i + 1), bk := D.nx } σ2 H2)
    (hd : ∀ σ H, Pv xs.length σ H → D.nx σ H) :
    ((∃ ys, SqL K H a ys) ∧ (∃ W : Nat → Nat → L2.St → Hp → Prop, (∃ m, W 0 m σ H) ∧ ∀ i m σ H, W i m σ H → ((Itl K a).stop i H ∧ D.nx σ H) ∨
      ((Itl K a).go i H ∧ ∃ N : L2.St → Hp → Prop, (∀ σ' H', N σ' H' → ∃ m', m' < m ∧ W (i + 1) m' σ' H') ∧ ∀ x H', (Itl K a).yld i H x H' → g x σ H' fun σ2 H2 => tb { D with nx := N, ct := N, bk := D.nx } σ2 H2))) ∨
    ((∃ ys, SqT K H a ys) ∧ (∃ W : Nat → Nat → L2.St → Hp → Prop, (∃ m, W 0 m σ H) ∧ ∀ i m σ H, W i m σ H → ((Itt K a).stop i H ∧ D.nx σ H) ∨
      ((Itt K a).go i H ∧ ∃ N : L2.St → Hp → Prop, (∀ σ' H', N σ' H' → ∃ m', m' < m ∧ W (i + 1) m' σ' H') ∧ ∀ x H', (Itt K a).yld i H x H' → g x σ H' fun σ2 H2 => tb { D with nx := N, ct := N, bk := D.nx } σ2 H2))) := by
  rcases hl with hl | hl
  · exact .inl ⟨⟨xs, hl 0 σ H (Nat.zero_le _) h0⟩, for_list Pv h0 hl hs hd⟩
  · exact .inr ⟨⟨xs, hl 0 σ H (Nat.zero_le _) h0⟩, for_tup Pv h0 hl hs hd⟩
theorem lc_seq {K : PySem.W.Frag} {a : Addr} {xs : List V} {g : TG} {tt : TT} {te : TE} {vs : List Nat} {σ : L2.St} {H1 : Hp} {Qd : Addr → Hp → Prop} (Pv : Addr → Nat → Hp → Prop) (hk : SqL K H1 a xs ∨ SqT K H1 a xs)
    (h0 : ∀ D, H1 D = none → Pv D 0 (upd H1 D (.lst []))) (hl : ∀ D i H, H1 D = none → Pv D i H → (SqL K H1 a xs → SqL K H a xs) ∧ (SqT K H1 a xs → SqT K H a xs))
    (hs : ∀ D, H1 D = none → ∀ i x H, xs[i]? = some x → Pv D i H → g x (wipe σ vs) H fun σ2 H2 => wipe σ2 vs = wipe σ vs ∧ tt σ2 H2 fun b H3 =>
      if b = true then te σ2 H3 fun y H4 => ∃ acc, H4 D = some (.lst acc) ∧ acc.length < sizeLine ∧ Pv D (i + 1) (upd H4 D (.lst (acc ++ [y]))) else Pv D (i + 1) H3)
    (hd : ∀ D, H1 D = none → ∀ H, Pv D xs.length H → Qd D H) :
    ((∃ ys, SqL K H1 a ys) ∧ ∀ D, H1 D = none → ∃ W : Nat → Nat → Hp → Prop, (∃ m, W 0 m (upd H1 D (.lst []))) ∧ ∀ i m H, W i m H → ((Itl K a).stop i H ∧ Qd D H) ∨
      ((Itl K a).go i H ∧ ∃ Nx : Hp → Prop, (∀ H', Nx H' → ∃ m', m' < m ∧ W (i + 1) m' H') ∧ ∀ x H', (Itl K a).yld i H x H' → g x (wipe σ vs) H' fun σ2 H2 => wipe σ2 vs = wipe σ vs ∧ tt σ2 H2 fun b H3 =>
        if b = true then te σ2 H3 fun y H4 => ∃ acc, H4 D = some (.lst acc) ∧ acc.length < sizeLine ∧ Nx (upd H4 D (.lst (acc ++ [y]))) else Nx H3)) ∨
    ((∃ ys, SqT K H1 a ys) ∧ ∀ D, H1 D = none → ∃ W : Nat → Nat → Hp → Prop, (∃ m, W 0 m (upd H1 D (.lst []))) ∧ ∀ i m H, W i m H → ((Itt K a).stop i H ∧ Qd D H) ∨
      ((Itt K a).go i H ∧ ∃ Nx : Hp → Prop, (∀ H', Nx H' → ∃ m', m' < m ∧ W (i + 1) m' H') ∧ ∀ x H', (Itt K a).yld i H x H' → g x (wipe σ vs) H' fun σ2 H2 => wipe σ2 vs = wipe σ vs ∧ tt σ2 H2 fun b H3 =>
        if b = true then te σ2 H3 fun y H4 => ∃ acc, H4 D = some (.lst acc) ∧ acc.length < sizeLine ∧ Nx (upd H4 D (.lst (acc ++ [y]))) else Nx H3)) := by
  rcases hk with hk | hk
  · exact .inl ⟨⟨xs, hk⟩, fun D hD => lc_list (Pv D) (h0 D hD) (fun i H _ p => (hl D i H hD p).1 hk) (hs D hD) (hd D hD)⟩
  · exact .inr ⟨⟨xs, hk⟩, fun D hD => lc_tup (Pv D) (h0 D hD) (fun i H _ p => (hl D i H hD p).2 hk) (hs D hD) (hd D hD)⟩
/-! ### in a comprehension within a comprehension -/
def rJoinK (K : PySem.W.Frag) : V → List V → Hp → VK → Prop := fun x xs H Q => ∃ (a : Str) (p : Addr) (ys : List Str), x = .str a ∧ xs = [.ref p] ∧ (SqL K H p (ys.map V.str) ∨ SqT K H p (ys.map V.str)) ∧ (ys.map (·.length)).sum + ys.length * a.length ≤ 16777216 ∧ Q (.str (Txt.join a ys)) H
theorem pe_joinK {X : Cx} {K : PySem.W.Frag} {o e : Expr} {to te : TE} {apos pos : Pos} (hK : X.K = K) (ho : PE X o to) (he : PE X e te) (hs : starEach [e] X.env = [(false, eval e X.env)] := by rfl) (hbase : attributeBase o "join" X.env (eval o X.env) = eval o X.env := by rfl)
    (hline : (apos.endLine == pos.line) = true := by rfl) : PE X (.Call (.Attribute o "join" apos) [e] [] pos) (tM1 (rJoinK K) to te) := by
  subst hK
  exact pe_join ho he hs hbase hline
theorem pi_tupK {X : Cx} {K : PySem.W.Frag} {tg l : Expr} {tl : TE} (hK : X.K = K) (hl : PE X l tl) : PI X tg l (iTup K tl) := by
  subst hK
  exact pi_tup hl
theorem lk_relabel {env : Env} : ∀ {ns : List (Str × NameKind)} {x : Str}, (ns.lookup x = some .cell ∨ ns.lookup x = some .free) →
    ((ns.map fun (n, k) => if (k == .free && env.scope.kind == .function && env.kindOf n == some .cell) then (n, .cell) else (n, k)).lookup x = some .cell ∨
      (ns.map fun (n, k) => if (k == .free && env.scope.kind == .function && env.kindOf n == some .cell) then (n, .cell) else (n, k)).lookup x = some .free)
  | [], _, h => by rcases h with h | h <;> cases h
  | (n, k) :: r, x, h => by
    have ih := @lk_relabel env r x
    rw [List.map_cons]
    cases hx : x == n with
    | true =>
      have e : ((n, k) :: r).lookup x = some k := by rw [List.lookup_cons, hx]
      rw [e] at h
      by_cases hc : (k == .free && env.scope.kind == .function && env.kindOf n == some .cell) = true
      · simp only [hc, if_true, List.lookup_cons, hx]
        exact .inl trivial
      · simp only [hc, Bool.false_eq_true, if_false, List.lookup_cons, hx]
        rcases h with h | h
        · exact .inl h
        · exact .inr h
    | false =>
      have e : ((n, k) :: r).lookup x = r.lookup x := by rw [List.lookup_cons, hx]
      rw [e] at h
      by_cases hc : (k == .free && env.scope.kind == .function && env.kindOf n == some .cell) = true
      · simp only [hc, if_true, List.lookup_cons, hx]
        exact ih h
      · simp only [hc, Bool.false_eq_true, if_false, List.lookup_cons, hx]
        exact ih h
theorem blk_relabel {N : List Str} {sc scope : Scope} {env : Env} {own : List (Str × Nat)} (h : BlkOk N sc scope own) : BlkOk N (relabel sc env) scope own := ⟨h.kind, h.uniq, h.ix, fun y hy e => lk_relabel (h.free y hy e), h.own⟩
/-! ### t[::-1] of a tuple -/
section
variable {pr : Program} {w : World} {A : Around} {E : Value → Shared → Prop} {s : Shared}
theorem applied_rev {sl : Addr} {vs : Value} {n : Nat} {Q : Int × Int × Nat → Shared → Prop} (hs : s.heap.IsSliceOf sl .none .none vs) (ps : IsPart vs (some (-1)))
    (h : Q ((n : Int) - 1, -1, n) s) : wpAny (model pr w) A (Builtin.Slice.sliceApplied (.ref sl) (pure (n : Int))) Q E s := by
  obtain ⟨o1, g1, g2, g3⟩ := id hs
  unfold Builtin.Slice.sliceApplied; unfold Builtin.Slice.sliceFields
  refine wpAny_bind (wpAny_bind (wpAny_field g1 g3 (x := .none) rfl (wpAny_bind (wpAny_field g1 g3 (x := .none) rfl (wpAny_bind (wpAny_field g1 g3 (x := vs) rfl (wpAny_pure ?_)))))))
  refine wpAny_bind (HT.slicePart_ ps ?_)
  show wpAny _ _ (if ((-1 : Int) == 0) = true then _ else _) _ _ s
  rw [if_neg (by decide)]
  refine wpAny_bind (HT.slicePart_ .none (wpAny_bind (HT.slicePart_ .none (wpAny_bind (wpAny_pure ?_)))))
  show wpAny _ _ (match Builtin.Slice.sliceAdjust none none (-1) (n : Int) with | (lo, hi) => pure (lo, (-1 : Int), Builtin.Slice.slicePlaces lo hi (-1))) _ _ s
  have e1 : Builtin.Slice.sliceAdjust none none (-1) (n : Int) = ((n : Int) - 1, -1) := by
    unfold Builtin.Slice.sliceAdjust
    simp
  rw [e1]
  have e2 : Builtin.Slice.slicePlaces ((n : Int) - 1) (-1) (-1) = n := by
    unfold Builtin.Slice.slicePlaces
    simp
    omega
  show wpAny _ _ (pure ((n : Int) - 1, (-1 : Int), Builtin.Slice.slicePlaces ((n : Int) - 1) (-1) (-1))) _ _ s
  rw [e2]
  exact wpAny_pure h
theorem fm_same {α β : Type} {f g : α → Option β} : ∀ {l : List α}, (∀ x ∈ l, f x = g x) → l.filterMap f = l.filterMap g
  | [], _ => rfl
  | x :: r, h => by
    rw [List.filterMap_cons, List.filterMap_cons, h x List.mem_cons_self, fm_same fun y hy => h y (List.mem_cons_of_mem _ hy)]
theorem pick_rev (xs : Array Value) : ((List.range xs.size).filterMap fun (m : Nat) => xs[(((xs.size : Int) - 1) + (m : Int) * (-1)).toNat]?).toArray = xs.toList.reverse.toArray := by
  have k := PySem.W.krv_pick xs
  unfold slicePick at k
  rw [PySem.W.krv_bounds] at k
  have k2 : ((sliceRange ((xs.size : Int) - 1) (-1) (-1)).filterMap (xs[·]?)).toArray = xs.toList.reverse.toArray := k
  rw [PySem.W.krv_sliceRange, List.filterMap_map] at k2
  rw [← k2]
  congr 1
  apply fm_same
  intro m hm
  have hm' := List.mem_range.mp hm
  show xs[(((xs.size : Int) - 1) + (m : Int) * (-1)).toNat]? = xs[xs.size - 1 - m]?
  rw [show (((xs.size : Int) - 1) + (m : Int) * (-1)).toNat = xs.size - 1 - m by omega]
theorem getItem_tup_rev {t sl : Addr} {xs : Array Value} {vs : Value} {Q : Value → Shared → Prop} (h1 : IsTup s.heap t xs) (hs : s.heap.IsSliceOf sl .none .none vs) (ps : IsPart vs (some (-1)))
    (h : Q (.ref s.heap.objs.size) { s with heap := s.heap.push { cls := .type "tuple", data := .seq xs.toList.reverse.toArray } }) (hz : xs.size ≤ sizeLine) : wpAny (model pr w) A (getItem (.ref t) (.ref sl)) Q E s := by
  have h2 : sizeOk (.seq xs.toList.reverse.toArray) := by
    show xs.toList.reverse.toArray.size ≤ sizeLine
    rw [List.size_toArray, List.length_reverse, Array.length_toList]
    exact hz
  obtain ⟨o1, g1, g2, g3⟩ := id hs
  have h3 : s.TypeIs (.ref sl) "slice" := ⟨o1, g1, g2⟩
  unfold getItem
  (try with_reducible refine wpAny_holding ?_); (first | refine wpAny_bind (wpAny_pure ?_) | skip)
  refine wpAny_bind (wpAny_sequenceKey h1.typeIs (by decide) ?_)
  refine wpAny_bind (wpAny_callSpecial?_slot (name := Str.ofString "__getitem__") h1.typeIs PyProof.Rows.slot_tuple_getitem (wpAny_call_entry PyProof.Rows.slot_tuple_getitem h1.typeIs entry_tuple_getitem ?_ (args_tuple_getitem _ _)))
  show wpAny _ _ (Builtin.Tuple.tupleItemsOf (.ref t) >>= fun _ => _) _ _ s
  refine wpAny_bind (tupleItemsOf_ h1 ?_)
  refine wpAny_bind (wpAny_typeOf h3 ?_)
  rw [if_pos (by decide)]
  refine wpAny_bind (applied_rev hs ps ?_)
  have hno : ¬ ((((xs.size : Int) - 1) == 0 && (-1 : Int) == 1 && xs.size == xs.size) = true) := by
    intro q
    rw [Bool.and_eq_true, Bool.and_eq_true] at q
    exact absurd q.1.2 (by decide)
  show wpAny _ _ (if (((xs.size : Int) - 1) == 0 && (-1 : Int) == 1 && xs.size == xs.size) = true then _ else _) _ _ s
  rw [if_neg hno, pick_rev]
  first
    | exact wpAny_bind (m := Builtin.Tuple.tupleExact _) (wpAny_newObj_type (wpAny_pure ⟨_, rfl, wpAny_pure h⟩) h2)
    | exact wpAny_bind (m := Builtin.Tuple.tupleExact _) (wpAny_newObj_type (wpAny_bind (wpAny_pure (wpAny_pure ⟨_, rfl, wpAny_pure h⟩))) h2)
    | exact wpAny_bind (wpAny_bind (m := Builtin.Tuple.tupleExact _) (wpAny_newObj_type (wpAny_pure (wpAny_pure ⟨_, rfl, wpAny_pure h⟩)) h2))
    | exact wpAny_bind (wpAny_bind (m := Builtin.Tuple.tupleExact _) (wpAny_newObj_type (wpAny_pure ⟨_, rfl, wpAny_pure h⟩) h2))
end
def tRevT (K : PySem.W.Frag) (te : TE) : TE := fun σ H Q => te σ H fun x H1 => ∃ a xs, x = .ref a ∧ SqT K H1 a xs ∧ ∀ p, H1 p = none → Q (.ref p) (upd H1 p (.tup xs.reverse))
theorem pe_revT {X : Cx} {e : Expr} {te : TE} {k : Nat} {p1 p2 p3 pos : Pos} (he : PE X e te) : PE X (.Subscript e (.Slice none none (some (.UnaryOp .USub (.Constant (.int 1) k p1) p2)) p3) pos) (tRevT X.K te) := by
  constructor
  intro pins s σ H Q I h
  refine Subscript_ (thn (he.run pins s σ H _ I h) fun v sa hq1 => ?_)
  obtain ⟨x, Ha, Ia, ra, a, xs, ex, hx, q⟩ := hq1
  subst ex
  cases ra
  have hst : PO X (some (.UnaryOp .USub (.Constant (.int 1) k p1) p2)) (tPart (tUn (rU fun i => .int (-i)) (tC (.int 1)))) := (po_some (pe_un un_neg pe_int))
  refine wpAny_Slice (thn (po_none.run pins sa σ Ha (fun o Hb => o = none ∧ Hb = Ha) Ia ⟨rfl, rfl⟩) fun vl sb hqb => ?_)
  obtain ⟨l, Hb, Ib, pl, el, eb⟩ := hqb
  subst el eb
  cases pl
  refine thn (po_none.run pins sb σ Hb (fun o Hc => o = none ∧ Hc = Hb) Ib ⟨rfl, rfl⟩) fun vu sc hqc => ?_
  obtain ⟨u, Hc, Ic, pu, eu, ec⟩ := hqc
  subst eu ec
  cases pu
  refine thn (hst.run pins sc σ Hc (fun o Hd => o = some (-1) ∧ Hd = Hc) Ic ⟨1, rfl, -1, rfl, rfl, rfl⟩) fun vs sd hqd => ?_
  obtain ⟨o, Hd, Id, ps, eo, ed⟩ := hqd
  subst eo ed
  have Ie : Inv X pins σ Hd { sd with heap := sd.heap.push { cls := .type "slice", data := .fields #[.none, .none, vs] } } := Id.kept (t' := sd.toks) (fun b ob q => Heap.get?_push_of_some _ q)
  obtain ⟨its, r, ht, hz⟩ := Ie.tuple hx
  show wpAny (model X.prog X.w) X.A (subscriptTail e (.Slice none none (some (.UnaryOp .USub (.Constant (.int 1) k p1) p2)) p3) (.ref a) (.ref sd.heap.objs.size)) (EP X pins σ Q) X.xe { sd with heap := sd.heap.push { cls := .type "slice", data := .fields #[.none, .none, vs] } }
  refine tail_any (ops := [.ref a, .ref sd.heap.objs.size]) ht.typeIs PyProof.Rows.slot_tuple_getitem.lookup ?_ (by with_unfolding_all rfl)
  have hlen := r.length
  refine getItem_tup_rev ht (Heap.IsSliceOf.new _ .none .none vs) ps ?_ (by rw [List.size_toArray]; omega)
  refine ⟨.ref _, _, Ie.laid (t' := sd.toks) (o := .tup xs.reverse) (fun b ob q => Heap.get?_push_of_some _ q) (Nat.le_refl _) ?_, rfl, q _ (Ie.hok.fresh (Nat.le_refl _))⟩
  exact ⟨by rw [List.length_reverse]; exact hz, _, r.reverse, IsTup.new _ _⟩
end My
namespace My
open PySem PySem.Spec PyProof.Rows L2 RT
/-! ### list(reversed(a list)) -/
section
variable {prog : Program} {w : World} {A : Around} {E : Value → Shared → Prop} {s : Shared}
theorem extend_rev {it l S : Addr} {items : Array Value} {c0 : Nat} {res : Value} {R : Result → Shared → Prop} (hh : A.handled = none) (hit : s.heap.IsRevIter it l ((items.size : Int) - 1)) (hl : s.heap.IsList l items) (hne : l ≠ it) (hn : items.size ≤ sizeLine)
    (hSi : S ≠ it) (hSl : S ≠ l) (hS : s.heap.get? S = some { cls := .type "list", dict := none, data := .seq #[] c0, slots := #[] })
    (hQ : ∀ s' (acc' : Array Value) (c' : Nat), Moved (S :: [it]) (fun g g' => g' = g) s s' → s'.heap.get? S = some { cls := .type "list", dict := none, data := .seq acc' c', slots := #[] } → ItemsOf (fun i v => items[items.size - 1 - i]? = some v) acc' items.size → R (.ok (.ret res)) s') :
    wpAny (model prog w) A.in1 (Builtin.List.listExtendWith (.ref S) (.ref it) res)
      (fun fin s' => match fin with | .done f => R (.ok f) s' | .again c' => c'.quiet = true ∧ codeAny (model prog w) A c' R s') (fun e s' => R (.error e) s') s := by
  have W := (Walks.listRev (prog := prog) (w := w) (A := A.in1) hh it l hne items).toS
  have hSf : S ∉ [it, l] := by simp only [List.mem_cons, List.not_mem_nil, or_false, not_or]; exact ⟨hSi, hSl⟩
  have hT : s.TypeIs (.ref it) "list_reverseiterator" := Heap.IsRevIter.typeIs hit
  have h1 : Builtin.List.listSameRef (.ref S) (.ref it) = false := by simp [Builtin.List.listSameRef, hSi]
  unfold Builtin.List.listExtendWith
  refine wpAny_bind (wpAny_typeOf hT ?_)
  rw [if_neg (by rw [h1]; decide)]
  refine wpAny_bind (wpAny_pyIter_revIter hit ?_)
  refine wpAny_bind (wpAny_holding ?_)
  unfold Builtin.List.listLengthHint
  refine wpAny_bind (wpAny_specialOf hT nolen_lri ?_)
  show wpAny _ A.in1 (specialOf (Value.ref it) (Str.ofString "__length_hint__") >>= _) _ _ _
  refine wpAny_bind (wpAny_specialOf hT hint_lri ?_)
  generalize hid : ("list_reverseiterator.__length_hint__" : String) = id0
  wp_delta
  rw [show splitId id0 = some ("list_reverseiterator", "__length_hint__") from by subst hid; decide +kernel]
  subst hid
  refine wpAny_bind (wpAny_isInstance (b := true) hT (by rw [isSubtype_type]; kernel_rfl) ?_)
  refine wpAny_pure ?_
  rw [if_neg (by decide)]
  have e0 : ((items.size : Nat) : Int) - 1 - ((0 : Nat) : Int) = (items.size : Int) - 1 := by omega
  exact wpAny_pure ⟨plainId_quiet F.plain_extend_loop _, codeAny_extend_loopS W hn S hSf res items.size 0 s #[] c0 rfl (Nat.zero_le _) ⟨Nat.zero_le _, by rw [e0]; exact hit, hl⟩ hS (ItemsOf.nil _) hQ⟩
theorem call_list_rev {it l : Addr} {items : Array Value} {Q : Value → Shared → Prop} (hh : A.handled = none) (hit : s.heap.IsRevIter it l ((items.size : Int) - 1)) (hl : s.heap.IsList l items) (hne : l ≠ it) (hn : items.size ≤ sizeLine)
    (hQ : ∀ (h' : Heap) (tk : Nat) (acc : Array Value) (c : Nat), (∀ b o, b ≠ it → s.heap.get? b = some o → h'.get? b = some o) → h'.get? s.heap.objs.size = some { cls := .type "list", dict := none, data := .seq acc c, slots := #[] } →
      ItemsOf (fun i v => items[items.size - 1 - i]? = some v) acc items.size → Q (.ref s.heap.objs.size) { s with heap := h', toks := tk }) :
    wpAny (model prog w) A (call (.type "list") [.ref it]) Q E s := by
  refine callType_codes (Q₁ := fun obj s₁ => obj = .ref s.heap.objs.size ∧ s₁ = { s with heap := s.heap.push { cls := .type "list", data := .seq #[] } }) PySem.F.called_list (PySem.F.typeCall_list_1 _) PySem.F.entry_list_init
    (code_list_new _ ⟨rfl, rfl⟩) fun obj s₁ h₁ => ?_
  obtain ⟨rfl, rfl⟩ := h₁
  have hS : (s.heap.push { cls := .type "list", data := .seq #[] }).get? s.heap.objs.size = some { cls := .type "list", data := .seq #[] } := Heap.get?_push_size _ rfl
  refine ⟨⟨_, hS, rfl⟩, PySem.F.args_list_init_2 _ _, ?_⟩
  show wpAny _ _ (do let old ← Builtin.List.listItems (.ref s.heap.objs.size); Builtin.List.listUpdate (.ref s.heap.objs.size) (fun _ => #[]); letGo old.toList.reverse; Builtin.List.listExtendWith (.ref s.heap.objs.size) (.ref it) .none) _ _ _
  refine wpAny_bind ?_
  unfold Builtin.List.listItems
  refine wpAny_bind (wpAny_seqItems hS rfl (wpAny_pure ?_))
  show wpAny _ _ (updateSeq s.heap.objs.size (fun _ => #[]) >>= fun _ => letGo (#[] : Array Value).toList.reverse >>= fun _ => Builtin.List.listExtendWith (.ref s.heap.objs.size) (.ref it) .none) _ _ _
  refine wpAny_bind (wpAny_updateSeq hS rfl ?_)
  refine wpAny_bind (wpAny_letGo ?_)
  obtain ⟨oi, hoi, hoi2⟩ := id hit
  obtain ⟨ol, hol, hol2⟩ := id hl
  have nSi : s.heap.objs.size ≠ it := Nat.ne_of_gt (Heap.lt_size hoi)
  have nSl : s.heap.objs.size ≠ l := Nat.ne_of_gt (Heap.lt_size hol)
  have kp : ∀ b o, s.heap.get? b = some o → ((s.heap.push { cls := .type "list", data := .seq #[] }).update s.heap.objs.size (Obj.mapSeq fun _ => #[])).get? b = some o := fun b o e =>
    (Heap.get?_update_other _ _ (Nat.ne_of_gt (Heap.lt_size e))).trans (Heap.get?_push_of_some _ e)
  have q := PySem.IsL.update hS (fun _ => #[])
  refine extend_rev (A := A.in1) (S := s.heap.objs.size) (c0 := _) (res := .none) (R := wants (fun r s₂ => r = .none ∧ Q (.ref s.heap.objs.size) s₂) E) hh ⟨oi, kp _ _ hoi, hoi2⟩ ⟨ol, kp _ _ hol, hol2⟩ hne hn nSi nSl q fun s' acc c hm hs' hacc => ⟨rfl, ?_⟩
  have ee := Moved.eq_with hm
  rw [ee]
  refine hQ s'.heap s'.toks acc c (fun b o hb e => hm.heap b o (fun hmem => ?_) (kp b o e)) hs' hacc
  rcases List.mem_cons.mp hmem with e' | hmem
  · exact absurd (Heap.lt_size e) (by rw [e']; exact Nat.lt_irrefl _)
  · exact hb (List.mem_singleton.mp hmem)
end
def tLstRev (K : PySem.W.Frag) (te : TE) : TE := fun σ H Q => te σ H fun v H1 => ∃ (a : Addr) (xs : List V), v = .ref a ∧ SqL K H1 a xs ∧ ∀ q, H1 q = none → Q (.ref q) (upd H1 q (.lst xs.reverse))
theorem pe_lstRev {X : Cx} {e : Expr} {te : TE} {p p2 pos pos2 : Pos} (hc : X.calm = true) (hg : Gl X "list") (hm : X.mg "list" = none) (hg2 : Gl X "reversed") (hm2 : X.mg "reversed" = none) (he : PE X e te)
    (hs : starEach [e] X.env = (false, eval e X.env) :: starEach [] X.env := by rfl)
    (hs2 : starEach [.Call (.Name "reversed" p2) [e] [] pos2] X.env = (false, eval (.Call (.Name "reversed" p2) [e] [] pos2) X.env) :: starEach [] X.env := by rfl) :
    PE X (.Call (.Name "list" p) [.Call (.Name "reversed" p2) [e] [] pos2] [] pos) (tLstRev X.K te) := by
  refine ⟨fun pins s σ H Q I h => ?_⟩
  refine Call_ (ld_blt I hg hm boot_list (PyProof.Rows.callWith_type1 (args_cons (Call_ (ld_blt I hg2 hm2 PyProof.Rows.boot_reversed (PyProof.Rows.callWith_type1 (args_cons (thn (he.run pins s σ H _ I h) fun u s1 ⟨v, H1, I1, r1, q1⟩ => args_nil ?_) hs) hs rfl))) hs2) hs2 rfl))
  obtain ⟨a, xs, ev, hq, q⟩ := q1
  subst ev
  obtain rfl : u = Value.ref a := r1
  obtain ⟨its, rv, p', hz⟩ := I1.list hq
  refine call_reversed_list p'.isList (args_nil ?_)
  have k0 : ∀ b o, s1.heap.get? b = some o → (s1.heap.push (revObj a ((its.toArray.size : Int) - 1))).get? b = some o := fun b o e => Heap.get?_push_of_some _ e
  have I2 : Inv X pins σ H1 { s1 with heap := s1.heap.push (revObj a ((its.toArray.size : Int) - 1)) } := I1.kept (t' := s1.toks) k0
  have fp := I1.fpOk (H' := H1) (b := s1.heap.objs.size) (Nat.le_refl _) (I1.hok.fresh (Nat.le_refl _))
  have hl := p'.isList
  obtain ⟨ol, hol, _⟩ := id hl
  have hne : a ≠ s1.heap.objs.size := Nat.ne_of_lt (Heap.lt_size hol)
  have hn : its.toArray.size ≤ sizeLine := by rw [List.size_toArray, ← rv.length]; exact hz
  refine call_list_rev (s := { s1 with heap := s1.heap.push (revObj a ((its.toArray.size : Int) - 1)) }) (I1.ok.hd hc) ⟨_, Heap.get?_push_size _ rfl, rfl, rfl⟩ (hl.push _) hne hn fun h' tk acc c hk hS hi => ?_
  have I3 := I2.turnedNew (t' := tk) (ch := [s1.heap.objs.size]) (T := (s1.heap.push (revObj a ((its.toArray.size : Int) - 1))).objs.size) (ob := .lst xs.reverse) (h' := h') (fun b o hb e => hk b o (fun z => hb (by rw [z]; exact List.mem_singleton.mpr rfl)) e)
    (fun b hb => by rw [List.mem_singleton.mp hb]; exact fp) (Nat.le_refl _) ⟨by rw [List.length_reverse]; exact hz, acc.toList, c, vals_rev rv hi, by rw [Array.toArray_toList]; exact hS⟩
  exact ⟨.ref _, _, I3, rfl, q _ (I2.hok.fresh (Nat.le_refl _))⟩
end My
namespace My
open PySem L2 SX
/-! ### reading a list's text, with what is wrong in it -/
inductive RW where
  | ok (w : List Nat) (n : Nat)
  | er (k : Nat)
def RW.pre (c m : Nat) : RW → RW
  | .ok w n => .ok (c :: w) (n + m)
  | .er k => .er k
def rdBX : List Nat → RW
  | [] => .ok [] 0
  | c :: r => if White c then .ok [] 0 else if c = 92 then (match r with | [] => .er 1 | d :: r' => (rdBX r').pre (mean d) 2) else (rdBX r).pre c 1
instance : DecidablePred EndW := fun l => match l with
  | [] => .isTrue trivial
  | c :: _ => inferInstanceAs (Decidable (White c))
def rdWX (l : List Nat) : RW := if l.head? = some 123 then (match pend 0 0 l with | none => .er l.length | some e => if EndW (l.drop (e + 1)) then .ok ((l.drop 1).take (e - 1)) (e + 1) else .er (l.drop (e + 1)).length) else rdBX l
inductive LO where
  | ok (ws : List (List Nat))
  | er (k : Nat)
def LO.cons (w : List Nat) : LO → LO
  | .ok ws => .ok (w :: ws)
  | .er k => .er k
def LO.app (acc : List (List Nat)) : LO → LO
  | .ok ws => .ok (acc ++ ws)
  | .er k => .er k
theorem LO.app_cons (acc : List (List Nat)) (w : List Nat) (o : LO) : (o.cons w).app acc = o.app (acc ++ [w]) := by
  cases o with
  | ok ws => show LO.ok (acc ++ w :: ws) = .ok (acc ++ [w] ++ ws); simp
  | er k => rfl
theorem LO.app_nil (o : LO) : o.app [] = o := by cases o <;> rfl
inductive LX : List Nat → LO → Prop
  | nil {l : List Nat} (h : l.drop (skipW l) = []) : LX l (.ok [])
  | cons {l w r : List Nat} {c n : Nat} {o : LO} (hl : l.drop (skipW l) = c :: r) (h : rdWX (c :: r) = .ok w n) (d : LX ((c :: r).drop n) o) : LX l (o.cons w)
  | er {l r : List Nat} {c k : Nat} (hl : l.drop (skipW l) = c :: r) (h : rdWX (c :: r) = .er k) : LX l (.er k)
theorem rdBX_le : ∀ (l w : List Nat) (n : Nat), rdBX l = .ok w n → n ≤ l.length ∧ w.length ≤ n
  | [], w, n, h => by
    cases h
    exact ⟨Nat.le_refl _, Nat.le_refl _⟩
  | c :: r, w, n, h => by
    unfold rdBX at h
    by_cases h1 : White c
    · rw [if_pos h1] at h
      cases h
      exact ⟨Nat.zero_le _, Nat.le_refl _⟩
    · rw [if_neg h1] at h
      by_cases h2 : c = 92
      · rw [if_pos h2] at h
        match r, h with
        | d :: r', h =>
          cases e : rdBX r' with
          | er k => simp only [e] at h; cases h
          | ok w' n' =>
            simp only [e] at h
            cases h
            have := rdBX_le r' w' n' e
            simp; omega
      · rw [if_neg h2] at h
        cases e : rdBX r with
        | er k => rw [e] at h; cases h
        | ok w' n' =>
          rw [e] at h
          cases h
          have := rdBX_le r w' n' e
          simp; omega
theorem rdBX_pos {c : Nat} {r w : List Nat} {n : Nat} (nw : ¬ White c) (h : rdBX (c :: r) = .ok w n) : 0 < n := by
  unfold rdBX at h
  rw [if_neg nw] at h
  by_cases h2 : c = 92
  · rw [if_pos h2] at h
    match r, h with
    | d :: r', h =>
      cases e : rdBX r' with
      | er k => simp only [e] at h; cases h
      | ok w' n' => simp only [e] at h; cases h; omega
  · rw [if_neg h2] at h
    cases e : rdBX r with
    | er k => rw [e] at h; cases h
    | ok w' n' => rw [e] at h; cases h; omega
theorem rdWX_le {l w : List Nat} {n : Nat} (h : rdWX l = .ok w n) : n ≤ l.length := by
  unfold rdWX at h
  by_cases h1 : l.head? = some 123
  · rw [if_pos h1] at h
    cases e : pend 0 0 l with
    | none => rw [e] at h; cases h
    | some k =>
      rw [e] at h
      have hk := (pend_lt _ _ _ _ e).2
      by_cases h2 : EndW (l.drop (k + 1))
      · simp only [if_pos h2] at h
        cases h
        omega
      · simp only [if_neg h2] at h
        cases h
  · rw [if_neg h1] at h
    exact (rdBX_le _ _ _ h).1
theorem rdWX_pos {c : Nat} {r w : List Nat} {n : Nat} (nw : ¬ White c) (h : rdWX (c :: r) = .ok w n) : 0 < n := by
  unfold rdWX at h
  by_cases h1 : (c :: r).head? = some 123
  · rw [if_pos h1] at h
    cases e : pend 0 0 (c :: r) with
    | none => rw [e] at h; cases h
    | some k =>
      rw [e] at h
      by_cases h2 : EndW ((c :: r).drop (k + 1))
      · simp only [if_pos h2] at h
        cases h
        omega
      · simp only [if_neg h2] at h
        cases h
  · rw [if_neg h1] at h
    exact rdBX_pos nw h
theorem skipW_head : ∀ (l : List Nat) (c : Nat) (r : List Nat), l.drop (skipW l) = c :: r → ¬ White c
  | [], c, r, h => by cases h
  | d :: t, c, r, h => by
    by_cases hw : White d
    · rw [skipW, if_pos hw, List.drop_succ_cons] at h
      exact skipW_head t c r h
    · rw [skipW, if_neg hw] at h
      cases h
      exact hw
theorem lx_ex : ∀ (n : Nat) (l : List Nat), l.length ≤ n → ∃ o, LX l o
  | 0, l, h => by
    have : l = [] := List.eq_nil_of_length_eq_zero (by omega)
    subst this
    exact ⟨_, .nil rfl⟩
  | n + 1, l, h => by
    cases e : l.drop (skipW l) with
    | nil => exact ⟨_, .nil e⟩
    | cons c r =>
      have nw := skipW_head l c r e
      have hlen : (c :: r).length ≤ l.length := by rw [← e, List.length_drop]; omega
      cases e2 : rdWX (c :: r) with
      | er k => exact ⟨_, .er e e2⟩
      | ok w m =>
        have hm := rdWX_pos nw e2
        obtain ⟨o, ho⟩ := lx_ex n ((c :: r).drop m) (by rw [List.length_drop]; omega)
        exact ⟨_, .cons e e2 ho⟩
theorem lx_white {c : Nat} {r : List Nat} {o : LO} (hw : White c) (h : LX (c :: r) o) : LX r o := by
  have e : (c :: r).drop (skipW (c :: r)) = r.drop (skipW r) := by rw [skipW, if_pos hw, List.drop_succ_cons]
  cases h with
  | nil h => exact .nil (by rw [← e]; exact h)
  | cons hl h d => exact .cons (by rw [← e]; exact hl) h d
  | er hl h => exact .er (by rw [← e]; exact hl) h
theorem lx_word {c : Nat} {r : List Nat} {o : LO} (nw : ¬ White c) (h : LX (c :: r) o) : (∃ w n o', rdWX (c :: r) = .ok w n ∧ LX ((c :: r).drop n) o' ∧ o = o'.cons w) ∨ ∃ k, rdWX (c :: r) = .er k ∧ o = .er k := by
  have e : (c :: r).drop (skipW (c :: r)) = c :: r := by rw [skipW, if_neg nw]; rfl
  cases h with
  | nil h => rw [e] at h; cases h
  | cons hl h d =>
    rw [e] at hl
    cases hl
    exact .inl ⟨_, _, _, h, d, rfl⟩
  | er hl h =>
    rw [e] at hl
    cases hl
    exact .inr ⟨_, h, rfl⟩
theorem lx_nil {o : LO} (h : LX [] o) : o = .ok [] := by
  cases h with
  | nil _ => rfl
  | cons hl _ _ => cases hl
  | er hl _ => cases hl
theorem rdBX_a : ∀ n, rdBX (List.replicate n 97) = .ok (List.replicate n 97) n
  | 0 => rfl
  | n + 1 => by
    rw [List.replicate_succ]
    unfold rdBX
    rw [if_neg (by decide), if_neg (by decide), rdBX_a n]
    rfl
theorem lx_a (n : Nat) : LX (List.replicate (n + 1) 97) (.ok [List.replicate (n + 1) 97]) := by
  have hb := rdBX_a (n + 1)
  have e : List.replicate (n + 1) 97 = 97 :: List.replicate n 97 := List.replicate_succ
  have hw : rdWX (97 :: List.replicate n 97) = .ok (List.replicate (n + 1) 97) (n + 1) := by
    rw [← e, rdWX, if_neg (by rw [e]; intro z; cases z), hb]
  have d : LX ((97 :: List.replicate n 97).drop (n + 1)) (.ok []) := by
    rw [List.drop_of_length_le (by simp)]
    exact .nil rfl
  have := LX.cons (l := 97 :: List.replicate n 97) (by rw [skipW, if_neg (by decide)]; rfl) hw d
  rw [e]
  rw [e] at this
  exact this
/-! ### where braces pair, by counting -/
theorem dep_take_succ {l : List Nat} {j : Nat} (h : j < l.length) : dep (l.take (j + 1)) = dep (l.take j) + dl l[j] := by
  rw [List.take_add_one, List.getElem?_eq_getElem h]
  unfold dep dl
  rw [List.count_append, List.count_append]
  by_cases h1 : l[j] = 123
  · simp [h1]; omega
  · by_cases h2 : l[j] = 125
    · simp [h2]; omega
    · simp [h1, h2]
end My
namespace My
open PySem L2 SX
/-! ### reading is a function -/
theorem rdWord_fn {l w v : List Nat} {n m : Nat} (h : RdWord l w n) (h' : RdWord l v m) : w = v ∧ n = m := by
  cases h with
  | braced h he =>
    cases h' with
    | braced h2 he2 =>
      rw [h] at h2
      cases h2
      exact ⟨rfl, rfl⟩
    | bare n1 _ _ => exact absurd rfl n1
  | bare n1 n2 h =>
    cases h' with
    | braced _ _ => exact absurd rfl n1
    | bare _ _ h2 =>
      rw [h] at h2
      cases h2
      exact ⟨rfl, rfl⟩
theorem reads_fn : ∀ {l : List Nat} {ws vs : List (List Nat)}, Reads l ws → Reads l vs → ws = vs := by
  intro l ws vs h
  induction h generalizing vs with
  | nil h =>
    intro h'
    cases h' with
    | nil _ => rfl
    | cons h2 _ _ =>
      rw [h] at h2
      cases h2
  | cons h hn hr ih =>
    intro h'
    cases h' with
    | nil h2 =>
      rw [h2] at h
      cases h
    | cons h2 hn2 hr2 =>
      obtain ⟨rfl, rfl⟩ := rdWord_fn h h2
      rw [ih hr2]
theorem ltext_inj {ws vs : List (List Nat)} (h : ltext ws = ltext vs) : ws = vs := by
  have h1 := reads_own ws
  rw [h] at h1
  exact reads_fn h1 (reads_own vs)
theorem wtext_ge (w : List Nat) : w.length ≤ (wtext w).length := by
  unfold wtext
  split
  · rename_i h; subst h; simp
  · split
    · simp; omega
    · have : ∀ u : List Nat, u.length ≤ (turn u).length := fun u => by
        induction u with
        | nil => simp
        | cons c r ih =>
          have e : turn (c :: r) = tsig c ++ turn r := by unfold turn; rw [List.flatMap_cons]
          have : 1 ≤ (tsig c).length := by
            obtain ⟨d, r, e, _⟩ := tsig_head c
            rw [e]
            simp
          rw [e, List.length_append, List.length_cons]
          omega
      exact this w
theorem ltext_ge : ∀ (ws : List (List Nat)) (w : List Nat), w ∈ ws → w.length ≤ (ltext ws).length
  | [], w, h => by cases h
  | [u], w, h => by
    rw [List.mem_singleton.mp h]
    exact wtext_ge u
  | u :: v :: r, w, h => by
    have e : (ltext (u :: v :: r)).length = (wtext u).length + (1 + (ltext (v :: r)).length) := by
      show (wtext u ++ ([32] ++ ltext (v :: r))).length = _
      rw [List.length_append, List.length_append]
      rfl
    rw [e]
    rcases List.mem_cons.mp h with h | h
    · rw [h]
      have := wtext_ge u
      omega
    · have := ltext_ge (v :: r) w h
      omega
/-! ### lists within lists -/
inductive Nd where
  | t (w : List Nat)
  | l (xs : List Nd)
/-- the text of a thing of n lists within one another -/
def pk : Nat → Nd → List Nat
  | 0, .t w => w
  | n + 1, .l xs => ltext (xs.map (pk n))
  | _, _ => []
/-- no list is longer than three, no text longer than five -/
def Small : Nat → Nd → Prop
  | 0, .t w => w.length ≤ 5
  | n + 1, .l xs => xs.length ≤ 3 ∧ ∀ x ∈ xs, Small n x
  | _, _ => False
def bnd : Nat → Nat
  | 0 => 5
  | n + 1 => 3 * (2 * bnd n + 3)
theorem pk_len : ∀ (n : Nat) (d : Nd), Small n d → (pk n d).length ≤ bnd n
  | 0, .t w, h => h
  | 0, .l xs, h => h.elim
  | n + 1, .t w, h => h.elim
  | n + 1, .l xs, h => by
    have h1 := ltext_len (xs.map (pk n)) (bnd n) fun w hw => by
      obtain ⟨x, hx, rfl⟩ := List.mem_map.mp hw
      exact pk_len n x (h.2 x hx)
    rw [List.length_map] at h1
    have h2 : xs.length * (2 * bnd n + 3) ≤ 3 * (2 * bnd n + 3) := Nat.mul_le_mul_right _ h.1
    exact Nat.le_trans h1 h2
/-- the thing stands at x, at addresses of which P is true -/
def NdAt : Nat → (Addr → Prop) → Hp → V → Nd → Prop
  | 0, _, _, x, d => ∃ w, d = .t w ∧ x = .str (S w)
  | n + 1, P, H, x, d => ∃ (a : Addr) (vs : List V) (ds : List Nd), d = .l ds ∧ x = .ref a ∧ P a ∧ H a = some (.lst vs) ∧ vs.length = ds.length ∧ ∀ (i : Nat) (u : V) (e : Nd), vs[i]? = some u → ds[i]? = some e → NdAt n P H u e
theorem NdAt.keep : ∀ {n : Nat} {P P' : Addr → Prop} {H H' : Hp} {x : V} {d : Nd}, (∀ a, P a → P' a) → (∀ a o, P a → H a = some o → H' a = some o) → NdAt n P H x d → NdAt n P' H' x d
  | 0, _, _, _, _, _, _, _, _, h => h
  | n + 1, P, P', H, H', x, d, hp, hk, h => by
    obtain ⟨a, vs, ds, h1, h2, h3, h4, h5, h6⟩ := h
    exact ⟨a, vs, ds, h1, h2, hp a h3, hk a _ h3 h4, h5, fun i u e hu he => NdAt.keep hp hk (h6 i u e hu he)⟩
theorem NdAt.alike : ∀ {n : Nat} {P P' : Addr → Prop} {H : Hp} {x y : V} {d : Nd}, Small n d → NdAt n P H x d → NdAt n P' H y d → Alike n H x y
  | 0, P, P', H, x, y, d, _, h, h' => by
    obtain ⟨w, rfl, rfl⟩ := h
    obtain ⟨v, e, rfl⟩ := h'
    cases e
    exact Alike.flat rfl
  | n + 1, P, P', H, x, y, d, hs, h, h' => by
    obtain ⟨a, vs, ds, rfl, rfl, h3, h4, h5, h6⟩ := h
    obtain ⟨a', vs', ds', e, rfl, h3', h4', h5', h6'⟩ := h'
    cases e
    refine .inr ⟨a, a', vs, vs', rfl, rfl, .inl ⟨h4, h4'⟩, by omega, by have := hs.1; omega, fun i u v hu hv => ?_⟩
    have hi : i < ds.length := by
      have := (List.getElem?_eq_some_iff.mp hu).1
      omega
    have he : ds[i]? = some ds[i] := List.getElem?_eq_getElem hi
    exact NdAt.alike (hs.2 _ (List.mem_of_getElem? he)) (h6 i u _ hu he) (h6' i v _ hv he)
def Fresh (H : Hp) : Addr → Prop := fun a => H a = none
def spNested : Nat → Sp
  | 0 => fun _ _ _ _ => False
  | N + 1 => fun vs H Q _ => ∃ (b l : Addr) (n : Nat), vs = [.ref b, .int (n : Int)] ∧ n ≤ N ∧ BagAt H b l ∧ ∀ (x : V) (d : Nd) H', But b H H' → BagAt H' b l → NdAt n (Fresh H) H' x d → Small n d → Q x H'
def spPacked : Nat → Sp
  | 0 => fun _ _ _ _ => False
  | N + 1 => fun vs H Q _ => ∃ (x : V) (n : Nat) (P : Addr → Prop) (d : Nd), vs = [x, .int (n : Int)] ∧ n ≤ N ∧ n ≤ 3 ∧ NdAt n P H x d ∧ Small n d ∧ ∀ H', Same H H' → Q (.str (S (pk n d))) H'
def spUnpacked : Nat → Sp
  | 0 => fun _ _ _ _ => False
  | N + 1 => fun vs H Q _ => ∃ (n : Nat) (d : Nd), vs = [.str (S (pk n d)), .int (n : Int)] ∧ n ≤ N ∧ (pk n d).length ≤ 1000 ∧ Small n d ∧ ∀ (x : V) H', Same H H' → NdAt n (Fresh H) H' x d → Q x H'
end My
namespace My
open PySem L2 SX
/-! ### all small words -/
def step1 (ss : List Nat) (l : List (List Nat)) : List (List Nat) := l.flatMap fun w => ss.map fun c => w ++ [c]
def lev (ss : List Nat) : Nat → List (List Nat)
  | 0 => [[]]
  | n + 1 => step1 ss (lev ss n)
def allW (ss : List Nat) : Nat → List (List Nat)
  | 0 => [[]]
  | n + 1 => allW ss n ++ lev ss (n + 1)
theorem lev_len (ss : List Nat) : ∀ (n : Nat) (w : List Nat), w ∈ lev ss n → w.length = n ∧ ∀ c ∈ w, c ∈ ss
  | 0, w, h => by
    rw [List.mem_singleton.mp h]
    exact ⟨rfl, by simp⟩
  | n + 1, w, h => by
    obtain ⟨u, hu, hw⟩ := List.mem_flatMap.mp h
    obtain ⟨c, hc, rfl⟩ := List.mem_map.mp hw
    obtain ⟨h1, h2⟩ := lev_len ss n u hu
    refine ⟨by simp [h1], fun d hd => ?_⟩
    rcases List.mem_append.mp hd with h | h
    · exact h2 d h
    · rw [List.mem_singleton.mp h]; exact hc
theorem lev_count (ss : List Nat) : ∀ n, (lev ss n).length = ss.length ^ n
  | 0 => rfl
  | n + 1 => by
    have ih := lev_count ss n
    have : ∀ l : List (List Nat), (step1 ss l).length = l.length * ss.length := fun l => by
      unfold step1
      induction l with
      | nil => simp
      | cons a r ih => rw [List.flatMap_cons, List.length_append, ih, List.length_map, List.length_cons, Nat.succ_mul, Nat.add_comm]
    show (step1 ss (lev ss n)).length = _
    rw [this, ih, Nat.pow_succ]
theorem allW_mem (ss : List Nat) : ∀ (n : Nat) (w : List Nat), w ∈ allW ss n → w.length ≤ n ∧ ∀ c ∈ w, c ∈ ss
  | 0, w, h => by
    rw [List.mem_singleton.mp h]
    exact ⟨Nat.le_refl _, by simp⟩
  | n + 1, w, h => by
    rcases List.mem_append.mp h with h | h
    · have := allW_mem ss n w h
      exact ⟨by omega, this.2⟩
    · have := lev_len ss (n + 1) w h
      exact ⟨by omega, this.2⟩
theorem step1_nodup {ss : List Nat} (hs : ss.Nodup) : ∀ {l : List (List Nat)}, l.Nodup → (step1 ss l).Nodup
  | [], _ => List.nodup_nil
  | w :: r, h => by
    obtain ⟨h1, h2⟩ := List.nodup_cons.mp h
    show ((ss.map fun c => w ++ [c]) ++ step1 ss r).Nodup
    rw [List.nodup_append]
    refine ⟨?_, step1_nodup hs h2, ?_⟩
    · refine List.Pairwise.map _ (fun a b hab he => hab ?_) hs
      have := List.append_cancel_left he
      simpa using this
    · rintro a ha b hb rfl
      obtain ⟨c, _, rfl⟩ := List.mem_map.mp ha
      obtain ⟨u, hu, hw⟩ := List.mem_flatMap.mp hb
      obtain ⟨d, _, e⟩ := List.mem_map.mp hw
      have : u = w := (List.append_inj' e rfl).1
      rw [this] at hu
      exact h1 hu
theorem lev_nodup {ss : List Nat} (hs : ss.Nodup) : ∀ n, (lev ss n).Nodup
  | 0 => by show ([[]] : List (List Nat)).Nodup; simp
  | n + 1 => step1_nodup hs (lev_nodup hs n)
theorem allW_nodup {ss : List Nat} (hs : ss.Nodup) : ∀ n, (allW ss n).Nodup
  | 0 => by show ([[]] : List (List Nat)).Nodup; simp
  | n + 1 => by
    show (allW ss n ++ lev ss (n + 1)).Nodup
    rw [List.nodup_append]
    refine ⟨allW_nodup hs n, lev_nodup hs (n + 1), ?_⟩
    rintro a ha b hb rfl
    have h1 := (allW_mem ss n a ha).1
    have h2 := (lev_len ss (n + 1) a hb).1
    omega
theorem wtext_inj {w v : List Nat} (h : wtext w = wtext v) : w = v := by
  have : ltext [w] = ltext [v] := by
    show TL.joinL [32] [wtext w] = TL.joinL [32] [wtext v]
    rw [h]
  have := ltext_inj this
  simpa using this
theorem wtext_max (w : List Nat) : (wtext w).length ≤ max 2 (turn w).length := by
  unfold wtext
  split
  · show 2 ≤ _
    omega
  · split
    · rename_i h
      simp only [List.length_cons, List.length_append, List.length_nil]
      omega
    · omega
theorem wtext_pairs {w : List Nat} (h : Pairs w = true) : (wtext w).length ≤ w.length + 2 := by
  unfold wtext
  split
  · rename_i h; subst h; decide
  · split
    · simp
    · rename_i h2
      have : ¬ (w.length + 2 ≤ (turn w).length) := fun z => h2 ⟨z, h⟩
      omega
/-! ### a written word, read as a script's -/
def bareT (w : List Nat) : List Tr := if w = [] then [] else [tx w]
theorem merge_tx6 (u w : List Nat) : merge [tx u] (tx w) = [tx (u ++ w)] := by
  show (if wText = wText ∧ wText = wText then List.dropLast [tx u] ++ [tx (u ++ w)] else [tx u] ++ [tx w]) = _
  rw [if_pos ⟨rfl, rfl⟩]
  rfl
theorem foldl_tx : ∀ (w u : List Nat), (w.map fun c => tx [c]).foldl merge [tx u] = [tx (u ++ w)]
  | [], u => by simp
  | c :: r, u => by
    rw [List.map_cons, List.foldl_cons, merge_tx6, foldl_tx r]
    simp
theorem joinP_signs (w : List Nat) : joinP (w.map fun c => tx [c]) = bareT w := by
  cases w with
  | nil => rfl
  | cons c r =>
    show (r.map fun c => tx [c]).foldl merge (merge [] (tx [c])) = _
    rw [show merge [] (tx [c]) = [tx [c]] from rfl, foldl_tx]
    rfl
theorem bW0_plain {c : Nat} {r : List Nat} (h1 : c ≠ 10) (h2 : c ∉ specL) : bW 0 (c :: r) = false := by
  have n59 : c ≠ 59 := fun z => h2 (by rw [z]; decide)
  have n32 : c ≠ 32 := fun z => h2 (by rw [z]; decide)
  show ((decide (0 < 0) && decide (c = 93)) || (decide (c = 10) || decide (c = 59)) || decide (c = 32)) = false
  simp [h1, n59, n32]
theorem bW0_92 {r : List Nat} : bW 0 (92 :: r) = false := rfl
theorem bar_turn {r : List Nat} (hr : bW 0 r = true) : ∀ w, DBar 0 (turn w ++ r) (.ok (w.map fun c => tx [c]) r)
  | [] => DBar.stop hr
  | c :: w => by
    have ih := bar_turn hr w
    have e : turn (c :: w) ++ r = tsig c ++ (turn w ++ r) := by
      unfold turn
      rw [List.flatMap_cons, List.append_assoc]
    rw [e]
    unfold tsig
    by_cases h1 : c = 10
    · rw [if_pos h1]
      subst h1
      exact DBar.piece (o := .ok (w.map fun c => tx [c]) r) bW0_92 (DPc.turn (d := 110)) ih
    · rw [if_neg h1]
      by_cases h2 : c ∈ specL
      · rw [if_pos h2]
        have : mean c = c := by
          unfold mean
          rw [if_neg]
          rintro rfl
          exact absurd h2 (by decide)
        have d := DBar.piece (o := .ok (w.map fun c => tx [c]) r) bW0_92 (DPc.turn (w := 0) (d := c) (r := turn w ++ r)) ih
        rw [this] at d
        exact d
      · rw [if_neg h2]
        exact DBar.piece (o := .ok (w.map fun c => tx [c]) r) (bW0_plain h1 h2) (DPc.sign (fun z => h2 (by rw [z]; decide)) (fun z => h2 (by rw [z]; decide)) (fun z => h2 (by rw [z]; decide))) ih
/-- a written word with an end behind it -/
theorem wrd_text (w : List Nat) {r : List Nat} (hr : bW 0 r = true) : ∃ c r', wtext w ++ r = c :: r' ∧ bW 0 (c :: r') = false ∧ c ≠ 35 ∧ DWrd 0 (c :: r') (.ok [.n (bareT w)] r) := by
  have brc : ∀ u : List Nat, Pairs u = true → DWrd 0 (123 :: (u ++ [125] ++ r)) (.ok [.n (bareT u)] r) := fun u hu => by
    have hp := (pend_pairs u).mpr hu
    have hp2 : pend 0 0 (123 :: (u ++ [125] ++ r)) = some (u.length + 1) := pend_more (123 :: (u ++ [125])) r 0 0 _ hp
    have e1 : (u ++ [125] ++ r).drop (u.length + 1) = r := List.drop_left' (by simp)
    have d := DWrd.braced (w := 0) hp2 (by rw [e1]; exact hr)
    rw [e1] at d
    have e2 : (if u.length + 1 = 1 then [] else [tx ((u ++ [125] ++ r).take (u.length + 1 - 1))]) = bareT u := by
      unfold bareT
      cases u with
      | nil => rfl
      | cons a b =>
        rw [if_neg (by simp), if_neg (by simp)]
        congr 2
        rw [Nat.add_sub_cancel, List.append_assoc]
        exact List.take_left' rfl
    rw [e2] at d
    exact d
  unfold wtext
  by_cases h0 : w = []
  · rw [if_pos h0]
    subst h0
    exact ⟨123, 125 :: r, rfl, rfl, by decide, brc [] (by decide)⟩
  · rw [if_neg h0]
    by_cases h1 : w.length + 2 ≤ (turn w).length ∧ Pairs w = true
    · rw [if_pos h1]
      exact ⟨123, w ++ [125] ++ r, rfl, rfl, by decide, brc w h1.2⟩
    · rw [if_neg h1]
      have d := bar_turn hr w
      cases w with
      | nil => exact absurd rfl h0
      | cons c w =>
        have e : turn (c :: w) ++ r = tsig c ++ (turn w ++ r) := by
          unfold turn
          rw [List.flatMap_cons, List.append_assoc]
        have key : ∃ d r', tsig c ++ (turn w ++ r) = d :: r' ∧ bW 0 (d :: r') = false ∧ d ≠ 35 ∧ d ≠ 123 ∧ d ≠ 34 := by
          unfold tsig
          by_cases h1 : c = 10
          · rw [if_pos h1]
            exact ⟨92, _, rfl, rfl, by decide, by decide, by decide⟩
          · rw [if_neg h1]
            by_cases h2 : c ∈ specL
            · rw [if_pos h2]
              exact ⟨92, _, rfl, rfl, by decide, by decide, by decide⟩
            · rw [if_neg h2]
              exact ⟨c, _, rfl, bW0_plain h1 h2, fun z => h2 (by rw [z]; decide), fun z => h2 (by rw [z]; decide), fun z => h2 (by rw [z]; decide)⟩
        rw [← e] at key
        obtain ⟨x, r', e2, k1, k2, k3, k4⟩ := key
        rw [e2] at d
        refine ⟨x, r', e2, k1, k2, ?_⟩
        have := DWrd.bare k3 k4 d hr
        rw [joinP_signs] at this
        exact this
theorem scr_word (w : List Nat) : DScr 0 (wtext w) (.ok [.n [.n (bareT w)]] []) := by
  obtain ⟨c, r', e, k1, k2, d⟩ := wrd_text w (r := []) rfl
  rw [List.append_nil] at e
  rw [e]
  exact DScr.cmd (o := .ok [] []) k1 k2 (DCmd.word (o := .ok [] []) k1 d (DCmd.stop rfl)) (DScr.stop rfl)
theorem cmd_words : ∀ (ws : List (List Nat)), ∃ ts, DCmd 0 (ltext ws) (.ok ts [])
  | [] => ⟨[], DCmd.stop rfl⟩
  | [w] => by
    obtain ⟨c, r', e, k1, k2, d⟩ := wrd_text w (r := []) rfl
    rw [List.append_nil] at e
    show ∃ ts, DCmd 0 (wtext w) (.ok ts [])
    rw [e]
    exact ⟨_, DCmd.word (o := .ok [] []) k1 d (DCmd.stop rfl)⟩
  | w :: v :: t => by
    obtain ⟨ts, ih⟩ := cmd_words (v :: t)
    obtain ⟨c, r', e, k1, k2, d⟩ := wrd_text w (r := 32 :: ltext (v :: t)) rfl
    show ∃ ts, DCmd 0 (wtext w ++ ([32] ++ ltext (v :: t))) (.ok ts [])
    rw [show wtext w ++ ([32] ++ ltext (v :: t)) = wtext w ++ (32 :: ltext (v :: t)) from rfl, e]
    exact ⟨_, DCmd.word (o := .ok ts []) k1 d (DCmd.skip rfl rfl ih)⟩
theorem scr_words (w : List Nat) (ws : List (List Nat)) : ∃ t, DScr 0 (ltext (w :: ws)) (.ok [t] []) := by
  obtain ⟨ts, h⟩ := cmd_words (w :: ws)
  have key : ∃ c r', ltext (w :: ws) = c :: r' ∧ bW 0 (c :: r') = false ∧ c ≠ 35 := by
    cases ws with
    | nil =>
      obtain ⟨c, r', e, k1, k2, d⟩ := wrd_text w (r := []) rfl
      rw [List.append_nil] at e
      exact ⟨c, r', e, k1, k2⟩
    | cons v t =>
      obtain ⟨c, r', e, k1, k2, d⟩ := wrd_text w (r := 32 :: ltext (v :: t)) rfl
      exact ⟨c, r', e, k1, k2⟩
  obtain ⟨c, r', e, k1, k2⟩ := key
  rw [e] at h ⊢
  exact ⟨_, DScr.cmd (o := .ok [] []) k1 k2 h (DScr.stop rfl)⟩
end My
namespace My
open PySem L2 SX
/-! ### the first line feed from a place on -/
open StrLaws in
theorem range_split {lo n a : Nat} {pre post : List Nat} (h : List.range' lo n = pre ++ a :: post) : (∀ k, lo ≤ k → k < a → k ∈ pre) ∧ lo ≤ a := by
  have hL : n = pre.length + (post.length + 1) := by
    have := congrArg List.length h
    simpa using this
  have hlen : lo + pre.length = a := by
    have h1 : (List.range' lo n)[pre.length]? = some a := by rw [h]; simp
    rw [List.getElem?_range'] at h1
    · simpa using h1
    · omega
  refine ⟨fun k h0 hk => ?_, by omega⟩
  have h2 : (List.range' lo n)[k - lo]? = pre[k - lo]? := by rw [h, List.getElem?_append_left (by omega)]
  rw [List.getElem?_range'] at h2
  · have h3 : pre[k - lo]? = some k := by rw [← h2]; simp; omega
    exact List.mem_of_getElem? h3
  · omega
theorem remark_at (l : List Nat) : ∀ (m i a : Nat), a - i = m → i ≤ a → a ≤ l.length → (l ++ [10])[a]? = some 10 → (∀ k, i ≤ k → k < a → (l ++ [10])[k]? ≠ some 10) → l.drop a = dropRem (l.drop i)
  | 0, i, a, h, hi, ha, h10, hn => by
    have : i = a := by omega
    subst this
    by_cases hl : i < l.length
    · have e := List.drop_eq_getElem_cons hl
      rw [List.getElem?_append_left hl, List.getElem?_eq_getElem hl] at h10
      have h10' : l[i] = 10 := Option.some.inj h10
      rw [e, dropRem, if_pos h10']
    · rw [List.drop_eq_nil_of_le (by omega)]
      rfl
  | m + 1, i, a, h, hi, ha, h10, hn => by
    have hl : i < l.length := by omega
    have e := List.drop_eq_getElem_cons hl
    have hne := hn i (Nat.le_refl _) (by omega)
    rw [List.getElem?_append_left hl, List.getElem?_eq_getElem hl] at hne
    have hne' : ¬ l[i] = 10 := fun z => hne (by rw [z])
    have ih := remark_at l m (i + 1) a (by omega) (by omega) ha h10 (fun k h1 h2 => hn k (by omega) h2)
    rw [ih, e, dropRem, if_neg hne']
theorem index_nl (l : List Nat) (i : Nat) (hi : i ≤ l.length) : ∃ k, Txt.indexFrom (S (l ++ [10])) (S [10]) (i : Int) = some k ∧ i ≤ k ∧ k ≤ l.length ∧ l.drop k = dropRem (l.drop i) := by
  have hlen : (S (l ++ [10])).length = l.length + 1 := by rw [S_len]; simp
  have hfrom : PySem.fromIndex (S (l ++ [10])).length (i : Int) = i := by
    unfold PySem.fromIndex
    rw [if_neg (by omega)]
    omega
  have at_ : ∀ k, StrLaws.At (S (l ++ [10])) (S [10]) (S (l ++ [10])).length k ↔ (l ++ [10])[k]? = some 10 := fun k => StrLaws.subAt_one (S (l ++ [10])) 10 k
  have last : (l ++ [10])[l.length]? = some 10 := by simp
  unfold Txt.indexFrom
  rw [hfrom, StrLaws.occ_eq]
  rcases StrLaws.occ_first (S (l ++ [10])) (S [10]) (S (l ++ [10])).length 1 (Nat.le_refl _) (List.range' i ((S (l ++ [10])).length + 1 - i)) i (fun k hk => by rw [List.mem_range'_1] at hk; exact hk.1) with ⟨_, hn⟩ | ⟨pre, a, post, e, h0, ha, hn⟩
  · exact absurd ((at_ l.length).mpr last) (hn l.length (by rw [List.mem_range'_1]; omega))
  · obtain ⟨h1, h2⟩ := range_split e
    have ha' := (at_ a).mp ha
    have hal : a ≤ l.length := by
      have := (List.getElem?_eq_some_iff.mp ha').1
      simp at this
      omega
    refine ⟨a, ?_, h2, hal, remark_at l (a - i) i a rfl h2 hal ha' (fun k k1 k2 z => hn k (h1 k k1 k2) ((at_ k).mpr z))⟩
    generalize (forIn (List.range' i ((S (l ++ [10])).length + 1 - i)) ((#[] : Array Nat), i) (StrLaws.occBody (S (l ++ [10])) (S [10]) (S (l ++ [10])).length 1)).run.fst = arr at h0
    rw [List.head?_eq_getElem?]
    simpa using h0
/-! ### the law's reading place: a dict of three -/
def kd (l : List Nat) (i : Nat) (b : Int) : List (Key × V) := [(.inr "text", .str (S l)), (.inr "at", .int (i : Int)), (.inr "bad", .int b)]
theorem kne1 : ¬ ((.inr "text" : Key) = .inr "at") := fun z => absurd (Sum.inr.inj z) (by decide +kernel)
theorem kne2 : ¬ ((.inr "text" : Key) = .inr "bad") := fun z => absurd (Sum.inr.inj z) (by decide +kernel)
theorem kne3 : ¬ ((.inr "at" : Key) = .inr "bad") := fun z => absurd (Sum.inr.inj z) (by decide +kernel)
def PAt (H : Hp) (p : Addr) (l : List Nat) (i : Nat) (b : Int) : Prop := l.length ≤ 2000 ∧ (∀ c ∈ l, c < 1114112) ∧ H p = some (.dK (kd l i b))
theorem dg_text {H : Hp} {p : Addr} {l : List Nat} {i : Nat} {b : Int} (h : H p = some (.dK (kd l i b))) : DGet H p (.str (Str.ofString "text")) (some (.str (S l))) := by
  have := DGet.k (k := .inr (Str.ofString "text")) h
  rw [show valV (kd l i b) (.inr (Str.ofString "text")) = some (.str (S l)) from valV_pos rfl] at this
  exact this
theorem dg_at {H : Hp} {p : Addr} {l : List Nat} {i : Nat} {b : Int} (h : H p = some (.dK (kd l i b))) : DGet H p (.str (Str.ofString "at")) (some (.int (i : Int))) := by
  have := DGet.k (k := .inr (Str.ofString "at")) h
  rw [show valV (kd l i b) (.inr (Str.ofString "at")) = some (.int (i : Int)) from (valV_neg kne1).trans (valV_pos rfl)] at this
  exact this
theorem dg_bad {H : Hp} {p : Addr} {l : List Nat} {i : Nat} {b : Int} (h : H p = some (.dK (kd l i b))) : DGet H p (.str (Str.ofString "bad")) (some (.int b)) := by
  have := DGet.k (k := .inr (Str.ofString "bad")) h
  rw [show valV (kd l i b) (.inr (Str.ofString "bad")) = some (.int b) from (valV_neg kne2).trans ((valV_neg kne3).trans (valV_pos rfl))] at this
  exact this
theorem put_at (l : List Nat) (i j : Nat) (b : Int) {z : Int} (hz : z = (j : Int)) : putK (kd l i b) (.inr (Str.ofString "at")) (.int z) = kd l j b := by
  subst hz
  have h1 : ¬ ((.inr "text" : Key) = .inr (Str.ofString "at")) := kne1
  have h3 : ¬ ((.inr "bad" : Key) = .inr (Str.ofString "at")) := fun z => kne3 z.symm
  unfold putK kd
  simp [h1, h3]
theorem put_bad (l : List Nat) (i : Nat) (b z : Int) : putK (kd l i b) (.inr (Str.ofString "bad")) (.int z) = kd l i z := by
  have h1 : ¬ ((.inr "text" : Key) = .inr (Str.ofString "bad")) := kne2
  have h3 : ¬ ((.inr "at" : Key) = .inr (Str.ofString "bad")) := kne3
  unfold putK kd
  simp [h1, h3]
theorem kd_len (l : List Nat) (i : Nat) (b : Int) : (kd l i b).length < sizeLine := by
  show 3 < sizeLine
  rw [sizeLine_eq]; decide
theorem dp_at {H : Hp} {p : Addr} {l : List Nat} {i j : Nat} {b : Int} {z : Int} (hz : z = (j : Int)) (h : H p = some (.dK (kd l i b))) : DPut H p (.str (Str.ofString "at")) (.int z) (upd H p (.dK (kd l j b))) := by
  have := DPut.k (k := .inr (Str.ofString "at")) (v := .int z) h (kd_len l i b)
  rw [put_at l i j b hz] at this
  exact this
theorem dp_bad {H : Hp} {p : Addr} {l : List Nat} {i : Nat} {b z : Int} (h : H p = some (.dK (kd l i b))) : DPut H p (.str (Str.ofString "bad")) (.int z) (upd H p (.dK (kd l i z))) := by
  have := DPut.k (k := .inr (Str.ofString "bad")) (v := .int z) h (kd_len l i b)
  rw [put_bad l i b z] at this
  exact this
theorem cut_one (l : List Nat) (i : Nat) : cutS (S l) (some (i : Int)) (some ((i : Int) + 1)) = S ((l.drop i).take 1) := by
  have e1 : ((i : Int) + 1) = ((i + 1 : Nat) : Int) := by omega
  rw [e1]
  by_cases hb : i + 1 ≤ l.length
  · rw [slice_nn l i (i + 1) (by omega) hb, show i + 1 - i = 1 by omega]
  · unfold cutS
    rw [S_len, HT.sIx_nat, HT.sIx_nat, Nat.min_eq_right (show l.length ≤ i by omega), Nat.min_eq_right (show l.length ≤ i + 1 by omega), List.drop_eq_nil_of_le (show l.length ≤ i by omega)]
    simp
/-! ### trees that are not too deep -/
def Good : Nat → Tr → Prop
  | _, .s w => ∀ c ∈ w, c < 1114112
  | 0, .n _ => False
  | d + 1, .n ts => ts.length ≤ 3000 ∧ ∀ t ∈ ts, Good d t
mutual
def dataTr : Tr → PyData
  | .s w => .str (S w)
  | .n ts => .tuple (dataTrs ts)
def dataTrs : List Tr → List PyData
  | [] => []
  | t :: r => dataTr t :: dataTrs r
end
mutual
theorem dp_tr {K : PySem.W.Frag} {H : Hp} : ∀ (t : Tr) {v : V}, TrAt H v t → Dp K H v (dataTr t)
  | .s w, v, h => by cases h; exact .str _
  | .n ts, v, h => by
    cases h with
    | @n a vs _ h hl hk => exact .tup (SqT.of h) (dp_trs ts ⟨hl, hk⟩)
theorem dp_trs {K : PySem.W.Frag} {H : Hp} : ∀ (ts : List Tr) {vs : List V}, TrsAt H vs ts → DpAll K H vs (dataTrs ts)
  | [], vs, h => by
    cases vs with
    | nil => exact .nil
    | cons v r => have := h.1; simp at this
  | t :: r, vs, h => by
    cases vs with
    | nil => have := h.1; simp at this
    | cons v q => exact .cons (dp_tr t (h.2 0 v t rfl rfl)) (dp_trs r ⟨by have := h.1; simpa using this, fun i u x hu hx => h.2 (i + 1) u x (by simpa using hu) (by simpa using hx)⟩)
end
mutual
theorem good_data : ∀ (t : Tr) {d : Nat}, Good d t → (dataTr t).depth ≤ d ∧ (dataTr t).canLay0 = true
  | .s w, d, h => by
    refine ⟨Nat.zero_le _, ?_⟩
    show PyData.strOk (S w) = true
    unfold PyData.strOk
    rw [← Array.all_toList]
    have h' : ∀ c ∈ w, c < 1114112 := by cases d <;> exact h
    exact List.all_eq_true.mpr fun c hc => decide_eq_true (h' c hc)
  | .n ts, 0, h => h.elim
  | .n ts, d + 1, h => by
    obtain ⟨h1, h2⟩ := good_datas ts (d := d) h.2
    exact ⟨Nat.succ_le_succ h1, h2⟩
theorem good_datas : ∀ (ts : List Tr) {d : Nat}, (∀ t ∈ ts, Good d t) → PyData.depthAll (dataTrs ts) ≤ d ∧ PyData.canLayAll0 (dataTrs ts) = true
  | [], d, h => ⟨Nat.zero_le _, rfl⟩
  | t :: r, d, h => by
    obtain ⟨h1, h2⟩ := good_data t (h t List.mem_cons_self)
    obtain ⟨h3, h4⟩ := good_datas r fun x hx => h x (List.mem_cons_of_mem _ hx)
    refine ⟨?_, ?_⟩
    · show max (dataTr t).depth (PyData.depthAll (dataTrs r)) ≤ d
      omega
    · show ((dataTr t).canLay0 && PyData.canLayAll0 (dataTrs r)) = true
      rw [h2, h4]; rfl
end
theorem good_shaped {t : Tr} {d : Nat} (hd : d ≤ 64) (h : Good d t) : SeqAt.shaped (dataTr t) = true := by
  obtain ⟨h1, h2⟩ := good_data t h
  unfold SeqAt.shaped
  rw [h2, decide_eq_true (show (dataTr t).depth ≤ 64 by omega)]
  rfl
theorem Good.mono : ∀ {d e : Nat} {t : Tr}, d ≤ e → Good d t → Good e t
  | d, e, .s w, _, h => by
    have h' : ∀ c ∈ w, c < 1114112 := by cases d <;> exact h
    cases e <;> exact h'
  | 0, e, .n ts, _, h => h.elim
  | d + 1, 0, .n ts, hl, _ => absurd hl (by omega)
  | d + 1, e + 1, .n ts, hl, h => ⟨h.1, fun t ht => Good.mono (show d ≤ e by omega) (h.2 t ht)⟩
end My
namespace My
open PySem L2 SX C8
def top (i : Nat) : Stmt := PySem.Challenge.pw_wordrooms_k10_whole_read_written_and_rea.main.body.getD i (.Pass ⟨0, 0, 0, 0⟩)
abbrev s_pair_end : Stmt := top 1
abbrev N_pair_end : List Str := ["text", "start", "many", "at"]
theorem sc_pair_end : FnScope N_pair_end ["text", "start"] (fnScope s_pair_end) := fnScope_by (by decide +kernel)
abbrev s_can_stand_in_braces : Stmt := top 2
abbrev N_can_stand_in_braces : List Str := ["word"]
theorem sc_can_stand_in_braces : FnScope N_can_stand_in_braces ["word"] (fnScope s_can_stand_in_braces) := fnScope_by (by decide +kernel)
abbrev s_is_letter : Stmt := top 10
abbrev N_is_letter : List Str := ["sign"]
theorem sc_is_letter : FnScope N_is_letter ["sign"] (fnScope s_is_letter) := fnScope_by (by decide +kernel)
abbrev s_is_name : Stmt := top 11
abbrev N_is_name : List Str := ["text", "sign"]
theorem sc_is_name : FnScope N_is_name ["text"] (fnScope s_is_name) := fnScope_by (by decide +kernel)
abbrev s_refuse_long : Stmt := top 12
abbrev N_refuse_long : List Str := ["text"]
theorem sc_refuse_long : FnScope N_refuse_long ["text"] (fnScope s_refuse_long) := fnScope_by (by decide +kernel)
abbrev s_turned_sign : Stmt := top 16
abbrev N_turned_sign : List Str := ["sign"]
theorem sc_turned_sign : FnScope N_turned_sign ["sign"] (fnScope s_turned_sign) := fnScope_by (by decide +kernel)
abbrev s_turned : Stmt := top 17
abbrev N_turned : List Str := ["text", "sign"]
theorem sc_turned : FnScope N_turned ["text"] (fnScope s_turned) := fnScope_by (by decide +kernel)
abbrev s_meant : Stmt := top 18
abbrev N_meant : List Str := ["sign"]
theorem sc_meant : FnScope N_meant ["sign"] (fnScope s_meant) := fnScope_by (by decide +kernel)
abbrev s_word_text : Stmt := top 20
abbrev N_word_text : List Str := ["word", "in_braces", "by_turns"]
theorem sc_word_text : FnScope N_word_text ["word"] (fnScope s_word_text) := fnScope_by (by decide +kernel)
abbrev s_written : Stmt := top 22
abbrev N_written : List Str := ["commands", "words"]
theorem sc_written : FnScope N_written ["commands"] (fnScope s_written) := fnScope_by (by decide +kernel)
abbrev s_command_text : Stmt := top 23
abbrev N_command_text : List Str := ["words", "pieces"]
theorem sc_command_text : FnScope N_command_text ["words"] (fnScope s_command_text) := fnScope_by (by decide +kernel)
abbrev s_pieces_text : Stmt := top 24
abbrev N_pieces_text : List Str := ["pieces", "texts", "kind", "worth", "behind", "_"]
theorem sc_pieces_text : FnScope N_pieces_text ["pieces"] (fnScope s_pieces_text) := fnScope_by (by decide +kernel)
abbrev s_piece_text : Stmt := top 25
abbrev N_piece_text : List Str := ["kind", "worth", "behind"]
theorem sc_piece_text : FnScope N_piece_text ["kind", "worth", "behind"] (fnScope s_piece_text) := fnScope_by (by decide +kernel)
abbrev s_parsed : Stmt := top 29
abbrev N_parsed : List Str := ["text", "reader"]
theorem sc_parsed : FnScope N_parsed ["text"] (fnScope s_parsed) := fnScope_by (by decide +kernel)
abbrev s_joined : Stmt := top 30
abbrev N_joined : List Str := ["pieces", "rows", "kind", "worth"]
theorem sc_joined : FnScope N_joined ["pieces"] (fnScope s_joined) := fnScope_by (by decide +kernel)
abbrev s__law_bag : Stmt := top 33
abbrev N__law_bag : List Str := ["_law_script", "_law_salt", "_law_cell"]
theorem sc__law_bag : FnScope N__law_bag ["_law_script"] (fnScope s__law_bag) := fnScope_by (by decide +kernel)
abbrev s__law_pull : Stmt := top 34
abbrev N__law_pull : List Str := ["_law_bag_here", "_law_amount", "_law_cell", "_law_got", "_law_seed"]
theorem sc__law_pull : FnScope N__law_pull ["_law_bag_here", "_law_amount"] (fnScope s__law_pull) := fnScope_by (by decide +kernel)
abbrev s__law_of : Stmt := top 35
abbrev N__law_of : List Str := ["_law_bag_here", "_law_things"]
theorem sc__law_of : FnScope N__law_of ["_law_bag_here", "_law_things"] (fnScope s__law_of) := fnScope_by (by decide +kernel)
abbrev s__law_name : Stmt := top 36
abbrev N__law_name : List Str := ["_law_bag_here", "_law_k"]
theorem sc__law_name : FnScope N__law_name ["_law_bag_here"] (fnScope s__law_name) := fnScope_by (by decide +kernel)
abbrev s__law_text : Stmt := top 37
abbrev N__law_text : List Str := ["_law_bag_here", "_law_top", "_law_signs", "_law_k"]
theorem sc__law_text : FnScope N__law_text ["_law_bag_here", "_law_top"] (fnScope s__law_text) := fnScope_by (by decide +kernel)
abbrev s__law_pairs : Stmt := top 38
abbrev N__law_pairs : List Str := ["_law_text_here", "_law_depths", "_law_at"]
theorem sc__law_pairs : FnScope N__law_pairs ["_law_text_here"] (fnScope s__law_pairs) := fnScope_by (by decide +kernel)
abbrev s__law_merged : Stmt := top 39
abbrev N__law_merged : List Str := ["_law_pieces", "_law_found", "_law_kind", "_law_thing", "_law_piece"]
theorem sc__law_merged : FnScope N__law_merged ["_law_pieces"] (fnScope s__law_merged) := fnScope_by (by decide +kernel)
abbrev s__law_letters : Stmt := top 40
abbrev N__law_letters : List Str := ["_law_text_here", "_law_ends", "_law_at"]
theorem sc__law_letters : FnScope N__law_letters ["_law_text_here"] (fnScope s__law_letters) := fnScope_by (by decide +kernel)
abbrev s__law_wild_word : Stmt := top 41
abbrev N__law_wild_word : List Str := ["_law_bag_here", "_law_deep", "_law_pieces", "_law_k", "_law_mode"]
theorem sc__law_wild_word : FnScope N__law_wild_word ["_law_bag_here", "_law_deep"] (fnScope s__law_wild_word) := fnScope_by (by decide +kernel)
abbrev s__law_wild_tree : Stmt := top 42
abbrev N__law_wild_tree : List Str := ["_law_bag_here", "_law_deep", "_law_found", "_law_k", "_law_j"]
theorem sc__law_wild_tree : FnScope N__law_wild_tree ["_law_bag_here", "_law_deep"] (fnScope s__law_wild_tree) := fnScope_by (by decide +kernel)
abbrev s__law_spell : Stmt := top 43
abbrev N__law_spell : List Str := ["_law_bag_here", "_law_text_here", "_law_quoted", "_law_found", "_law_sign", "_law_plain", "_law_sign_of", "_law_turn"]
theorem sc__law_spell : FnScope N__law_spell ["_law_bag_here", "_law_text_here", "_law_quoted"] (fnScope s__law_spell) := fnScope_by (by decide +kernel)
abbrev s__law_spelt_word : Stmt := top 44
abbrev N__law_spelt_word : List Str := ["_law_bag_here", "_law_word", "_law_plain", "_law_mode", "_law_found", "_law_kind", "_law_thing", "_law_held"]
theorem sc__law_spelt_word : FnScope N__law_spelt_word ["_law_bag_here", "_law_word"] (fnScope s__law_spelt_word) := fnScope_by (by decide +kernel)
abbrev s__law_spelt : Stmt := top 45
abbrev N__law_spelt : List Str := ["_law_bag_here", "_law_commands", "_law_found", "_law_command", "_law_word"]
theorem sc__law_spelt : FnScope N__law_spelt ["_law_bag_here", "_law_commands"] (fnScope s__law_spelt) := fnScope_by (by decide +kernel)
abbrev s_law : Stmt := top 46
abbrev N_law : List Str := ["_law_script", "_law_bag_here", "_law_turn", "_law_tree", "_law_text_here", "_law_other", "_law_step", "_law_at", "_law_commands", "_law_plain"]
theorem sc_law : FnScope N_law ["_law_script"] (fnScope s_law) := fnScope_by (by decide +kernel)
abbrev s_BadScript___init__ : Stmt := inClass (top 5) 0
abbrev N_BadScript___init__ : List Str := ["self", "place"]
theorem sc_BadScript___init__ : FnScope N_BadScript___init__ ["self", "place"] (fnScope s_BadScript___init__) := fnScope_by (by decide +kernel)
abbrev s_Reader___init__ : Stmt := inClass (top 31) 0
abbrev N_Reader___init__ : List Str := ["self", "source"]
theorem sc_Reader___init__ : FnScope N_Reader___init__ ["self", "source"] (fnScope s_Reader___init__) := fnScope_by (by decide +kernel)
abbrev s_Reader_ends_text : Stmt := inClass (top 31) 1
abbrev N_Reader_ends_text : List Str := ["self"]
theorem sc_Reader_ends_text : FnScope N_Reader_ends_text ["self"] (fnScope s_Reader_ends_text) := fnScope_by (by decide +kernel)
abbrev s_Reader_ends_script : Stmt := inClass (top 31) 2
abbrev N_Reader_ends_script : List Str := ["self"]
theorem sc_Reader_ends_script : FnScope N_Reader_ends_script ["self"] (fnScope s_Reader_ends_script) := fnScope_by (by decide +kernel)
abbrev s_Reader_ends_command : Stmt := inClass (top 31) 3
abbrev N_Reader_ends_command : List Str := ["self"]
theorem sc_Reader_ends_command : FnScope N_Reader_ends_command ["self"] (fnScope s_Reader_ends_command) := fnScope_by (by decide +kernel)
abbrev s_Reader_ends_word : Stmt := inClass (top 31) 4
abbrev N_Reader_ends_word : List Str := ["self"]
theorem sc_Reader_ends_word : FnScope N_Reader_ends_word ["self"] (fnScope s_Reader_ends_word) := fnScope_by (by decide +kernel)
abbrev s_Reader_read_script : Stmt := inClass (top 31) 5
abbrev N_Reader_read_script : List Str := ["self", "commands"]
theorem sc_Reader_read_script : FnScope N_Reader_read_script ["self"] (fnScope s_Reader_read_script) := fnScope_by (by decide +kernel)
abbrev s_Reader_pass_remark : Stmt := inClass (top 31) 6
abbrev N_Reader_pass_remark : List Str := ["self"]
theorem sc_Reader_pass_remark : FnScope N_Reader_pass_remark ["self"] (fnScope s_Reader_pass_remark) := fnScope_by (by decide +kernel)
abbrev s_Reader_read_command : Stmt := inClass (top 31) 7
abbrev N_Reader_read_command : List Str := ["self", "words"]
theorem sc_Reader_read_command : FnScope N_Reader_read_command ["self"] (fnScope s_Reader_read_command) := fnScope_by (by decide +kernel)
abbrev s_Reader_read_word : Stmt := inClass (top 31) 8
abbrev N_Reader_read_word : List Str := ["self", "pieces"]
theorem sc_Reader_read_word : FnScope N_Reader_read_word ["self"] (fnScope s_Reader_read_word) := fnScope_by (by decide +kernel)
abbrev s_Reader_read_braced : Stmt := inClass (top 31) 9
abbrev N_Reader_read_braced : List Str := ["self", "start", "end"]
theorem sc_Reader_read_braced : FnScope N_Reader_read_braced ["self"] (fnScope s_Reader_read_braced) := fnScope_by (by decide +kernel)
abbrev s_Reader_read_quoted : Stmt := inClass (top 31) 10
abbrev N_Reader_read_quoted : List Str := ["self", "start", "pieces"]
theorem sc_Reader_read_quoted : FnScope N_Reader_read_quoted ["self"] (fnScope s_Reader_read_quoted) := fnScope_by (by decide +kernel)
abbrev s_Reader_read_bare : Stmt := inClass (top 31) 11
abbrev N_Reader_read_bare : List Str := ["self", "pieces"]
theorem sc_Reader_read_bare : FnScope N_Reader_read_bare ["self"] (fnScope s_Reader_read_bare) := fnScope_by (by decide +kernel)
abbrev s_Reader_read_piece : Stmt := inClass (top 31) 12
abbrev N_Reader_read_piece : List Str := ["self", "sign"]
theorem sc_Reader_read_piece : FnScope N_Reader_read_piece ["self"] (fnScope s_Reader_read_piece) := fnScope_by (by decide +kernel)
abbrev s_Reader_read_turned : Stmt := inClass (top 31) 13
abbrev N_Reader_read_turned : List Str := ["self", "behind"]
theorem sc_Reader_read_turned : FnScope N_Reader_read_turned ["self"] (fnScope s_Reader_read_turned) := fnScope_by (by decide +kernel)
abbrev s_Reader_read_name : Stmt := inClass (top 31) 14
abbrev N_Reader_read_name : List Str := ["self", "start", "in_braces", "name"]
theorem sc_Reader_read_name : FnScope N_Reader_read_name ["self"] (fnScope s_Reader_read_name) := fnScope_by (by decide +kernel)
abbrev s_Reader_read_letters : Stmt := inClass (top 31) 15
abbrev N_Reader_read_letters : List Str := ["self", "start"]
theorem sc_Reader_read_letters : FnScope N_Reader_read_letters ["self"] (fnScope s_Reader_read_letters) := fnScope_by (by decide +kernel)
abbrev s_Reader_read_run : Stmt := inClass (top 31) 16
abbrev N_Reader_read_run : List Str := ["self", "start", "commands"]
theorem sc_Reader_read_run : FnScope N_Reader_read_run ["self"] (fnScope s_Reader_read_run) := fnScope_by (by decide +kernel)
structure Txt (mg : Str → Option Value) : Prop where
  range : mg "range" = none
  len : mg "len" = none
  all : mg "all" = none
  reversed : mg "reversed" = none
  list : mg "list" = none
  tuple : mg "tuple" = none
  min : mg "min" = none
  int : mg "int" = none
  max : mg "max" = none
  g_LONGEST_NAME : ∃ u, mg "LONGEST_NAME" = some u ∧ RelV (.int 8) u
  g_LONGEST : ∃ u, mg "LONGEST" = some u ∧ RelV (.int 1000) u
  g_TURNED_SIGNS : ∃ u, mg "TURNED_SIGNS" = some u ∧ RelV (.str (Str.ofString " \\{}\"$[];#")) u
  g_TURN : ∃ u, mg "TURN" = some u ∧ RelV (.str (Str.ofString "\\")) u
  g_COMMAND_ENDS : ∃ u, mg "COMMAND_ENDS" = some u ∧ RelV (.str (Str.ofString "\n;")) u
  g_MOST_RUNS : ∃ u, mg "MOST_RUNS" = some u ∧ RelV (.int 12) u
end My
namespace My
open PySem L2 SX C8
section
variable {P : Program} {w : World} {K : PySem.W.Frag} {mg : Str → Option Value} {base : Heap}
theorem ok_pair_end {f : Addr} {fd : FuncData} (F : Def K mg "pair_end" s_pair_end f fd) (b : Binds K fd ["text", "start"] []) (T : Txt mg) : Cal P w K mg base 1 "pair_end" spPend [] := by
  refine cal0 F b .nil sc_pair_end (fun vs H Q E h => ?_) (fun cdv A outer s H vs Q E hr h => ?_)
  · obtain ⟨l, i, rfl, _⟩ := h
    rfl
  obtain ⟨l, i, rfl, hl, hi, q⟩ := h
  refine ⟨_, pss_cons (ps_set (i := 2) sc_pair_end.nd rfl (Or.inl rfl) pe_int)
    (pss_cons (ps_for PassesOwn.never rfl (pi_range2 rfl T.range (pa_cons (pv 1) (pa_cons (pe_callB call_len (by rfl) T.len (by decide +kernel) (pa_cons (pv 0) pa_nil)) pa_nil))) (pg_name (i := 3) sc_pair_end.nd rfl (Or.inl rfl))
      (pss_one (ps_if (pt_cmpR op_eq (pe_ix ix_str (pv 0) (pv 3) (fun _ _ => rfl)) pe_str (nomark _))
        (pss_one (ps_aug (i := 2) sc_pair_end.nd rfl (Or.inl rfl) pe_int ip_add))
        (pss_one (ps_if (pt_cmpR op_eq (pe_ix ix_str (pv 0) (pv 3) (fun _ _ => rfl)) pe_str (nomark _))
          (pss_cons (ps_aug (i := 2) sc_pair_end.nd rfl (Or.inl rfl) pe_int ip_sub)
          (pss_one (ps_if (pt_cmpR op_eq (pv 2) pe_int (nomark _))
            (pss_one (ps_ret (pv 3)))
            (pss_nil))))
          (pss_nil))))))
    (pss_one (ps_ret pe_non))), ?_⟩
  have hz : (S l).length ≤ sizeLine := size_S (by omega)
  refine ⟨_, rfl, _, rfl, _, _, rfl, ⟨hz, rfl⟩, _, _, rfl, ⟨by omega, by omega, by omega, by rw [S_len]; omega⟩, for_range
    (fun k σ H2 => ∃ (m : Int) (v : Option V), σ = [some (.str (S l)), some (.int (i : Int)), some (.int m), v] ∧ H2 = H ∧ pend m (i + k) (l.drop (i + k)) = pend 0 i (l.drop i)) ⟨0, none, rfl, rfl, rfl⟩ ?_ ?_⟩
  · rintro k σ H2 hk ⟨m, v, rfl, rfl, e⟩
    rw [S_len] at hk
    have hlt : i + k < l.length := by omega
    obtain ⟨c, hc⟩ : ∃ c, l[i + k]? = some c := ⟨l[i + k], List.getElem?_eq_getElem hlt⟩
    have ei : ((i : Int) + (k : Int)) = ((i + k : Nat) : Int) := by omega
    have ha : atI (S l).cps.toList ((i : Int) + (k : Int)) = some c := by rw [ei]; exact at_S hc
    rw [pend_at hc] at e
    have ek : i + k + 1 = i + (k + 1) := by omega
    rw [ek] at e
    refine ⟨_, rfl, _, rfl, _, _, _, rfl, rfl, hz, ha, rfl, _, rfl, ite_S lit_ob (fun e1 => ?_) (fun n1 => ?_)⟩
    · have e1' : c = 123 := List.head_eq_of_cons_eq e1
      rw [if_pos e1'] at e
      exact ⟨_, rfl, _, _, rfl, rfl, _, _, rfl, rfl, e⟩
    · have n1' : ¬ c = 123 := fun q => n1 (by rw [q])
      rw [if_neg n1'] at e
      refine ⟨_, rfl, _, rfl, _, _, _, rfl, rfl, hz, ha, rfl, _, rfl, ite_S lit_cb (fun e2 => ?_) (fun n2 => ?_)⟩
      · have e2' : c = 125 := List.head_eq_of_cons_eq e2
        rw [if_pos e2'] at e
        refine ⟨_, rfl, _, _, rfl, rfl, ?_⟩
        refine ⟨_, rfl, rfl, _, rfl, iteI (fun e3 => ?_) (fun n3 => ?_)⟩
        · rw [if_pos e3] at e
          refine ⟨_, rfl, ?_⟩
          rw [← e] at q
          rw [ei]
          exact q
        · rw [if_neg n3] at e
          exact ⟨_, _, rfl, rfl, e⟩
      · have n2' : ¬ c = 125 := fun q => n2 (by rw [q])
        rw [if_neg n2'] at e
        exact ⟨_, _, rfl, rfl, e⟩
  · rintro σ H2 ⟨m, v, rfl, rfl, e⟩
    have hn : (((S l).length : Int) - (i : Int)).toNat = l.length - i := by rw [S_len]; omega
    rw [hn, List.drop_eq_nil_of_le (by omega)] at e
    rw [← e] at q
    exact q
end
end My
namespace My
open PySem L2 SX C8
section
variable {P : Program} {w : World} {K : PySem.W.Frag} {mg : Str → Option Value} {base : Heap}
theorem oI_dec (o : Option Nat) (n : Nat) : decide (oI o = V.int (n : Int)) = decide (o = some n) := by
  cases o with
  | none => rfl
  | some k =>
    show decide (V.int (k : Int) = V.int (n : Int)) = _
    by_cases e : k = n
    · subst e; simp
    · rw [decide_eq_false (fun q => e (by have := V.int.inj q; omega)), decide_eq_false (fun q => e (Option.some.inj q))]
theorem oI_scal (o : Option Nat) (n : Int) : scal (oI o) (.int n) = true := by cases o <;> rfl
theorem ok_can_stand_in_braces {f : Addr} {fd : FuncData} (F : Def K mg "can_stand_in_braces" s_can_stand_in_braces f fd) (b : Binds K fd ["word"] []) (T : Txt mg) (c_pair_end : Cal P w K mg base 1 "pair_end" spPend []) : Cal P w K mg base 2 "can_stand_in_braces" spStand [] := by
  refine cal0 F b .nil sc_can_stand_in_braces (fun vs H Q E h => ?_) (fun cdv A outer s H vs Q E hr h => ?_)
  · obtain ⟨l, rfl, _⟩ := h
    rfl
  obtain ⟨l, rfl, hl, q⟩ := h
  refine ⟨_, pss_one (ps_ret (pe_cmpR op_eq (pe_c c_pair_end hr (by first | decide | assumption | omega) rfl (pa_cons (pe_op op_add_str (pe_op op_add_str pe_str (pv 0)) pe_str) (pa_cons pe_int pa_nil))) (pe_op op_add (pe_callB call_len (by rfl) T.len (by decide +kernel) (pa_cons (pv 0) pa_nil)) pe_int) (nomark _))), ?_⟩
  have hz : (S l).length ≤ sizeLine := size_S (by omega)
  have h1 : (Str.ofString "{").length + (S l).length ≤ sizeLine := by
    rw [lit_ob, S_len, S_len]; exact Nat.le_trans (show _ ≤ 100000 by simp; omega) (by decide)
  have e1 : Str.ofString "{" ++ S l ++ Str.ofString "}" = S (123 :: (l ++ [125])) := by
    rw [lit_ob, lit_cb, S_cat, S_cat] <;> rfl
  have h2 : (Str.ofString "{" ++ S l).length + (Str.ofString "}").length ≤ sizeLine := by
    rw [lit_ob, lit_cb, S_cat, S_len, S_len]; exact Nat.le_trans (show _ ≤ 100000 by simp; omega) (by decide)
  refine ⟨_, rfl, _, _, rfl, rfl, h1, _, _, rfl, rfl, h2, (123 :: (l ++ [125])), 0, by rw [e1] <;> rfl, by simp; omega, Nat.zero_le _, ?_⟩
  refine ⟨_, rfl, _, _, rfl, ⟨hz, rfl⟩, _, _, rfl, rfl, oI_scal _ _, ?_⟩
  have e2 : ((S l).length : Int) + 1 = ((l.length + 1 : Nat) : Int) := by rw [S_len]; omega
  show Q (V.bl (decide (oI (pend 0 0 (List.drop 0 (123 :: (l ++ [125])))) = V.int (((S l).length : Int) + 1)))) H
  rw [e2, oI_dec, List.drop_zero]
  have e3 : decide (pend 0 0 (123 :: (l ++ [125])) = some (l.length + 1)) = Pairs l := by
    cases hp : Pairs l with
    | true => exact decide_eq_true ((pend_pairs l).mpr hp)
    | false => exact decide_eq_false fun z => by rw [(pend_pairs l).mp z] at hp; cases hp
  rw [e3]
  exact q
end
end My
namespace My
open PySem L2 SX C8
section
variable {P : Program} {w : World} {K : PySem.W.Frag} {mg : Str → Option Value} {base : Heap}
theorem ok_turned_sign {f : Addr} {fd : FuncData} (F : Def K mg "turned_sign" s_turned_sign f fd) (b : Binds K fd ["sign"] []) (T : Txt mg) : Cal P w K mg base 1 "turned_sign" spTsig [] := by
  refine cal0 F b .nil sc_turned_sign (fun vs H Q E h => ?_) (fun cdv A outer s H vs Q E hr h => ?_)
  · obtain ⟨l, rfl, _⟩ := h
    rfl
  obtain ⟨c, rfl, q⟩ := h
  refine ⟨_, pss_cons (ps_if (pt_cmpR op_eq (pv 0) pe_str (nomark _))
      (pss_one (ps_ret (pe_op op_add_str (pe_gc rfl T.g_TURN) pe_str)))
      (pss_nil))
    (pss_cons (ps_if (pt_cmpR op_in_sign (pv 0) (pe_gc rfl T.g_TURNED_SIGNS) rfl)
      (pss_one (ps_ret (pe_op op_add_str (pe_gc rfl T.g_TURN) (pv 0))))
      (pss_nil))
    (pss_one (ps_ret (pv 0)))), ?_⟩
  refine ⟨_, rfl, rfl, _, rfl, ite_S lit_nl (fun e1 => ?_) (fun n1 => ?_)⟩
  · have e1' : c = 10 := List.head_eq_of_cons_eq e1
    refine ⟨_, _, rfl, rfl, ?_, ?_⟩
    · rw [lit_bs, lit_n]; decide
    · have e : Str.ofString "\\" ++ Str.ofString "n" = S (tsig c) := by
        rw [lit_bs, lit_n, S_cat, e1'] <;> rfl
      rw [e]
      exact q
  · have n1' : ¬ c = 10 := fun q => n1 (by rw [q])
    refine ⟨_, rfl, c, _, rfl, rfl, _, rfl, ?_⟩
    rw [lit_spec]
    refine iteD (fun e2 => ?_) (fun n2 => ?_)
    · refine ⟨_, rfl, _, _, rfl, rfl, ?_, ?_⟩
      · rw [lit_bs, S_len, S_len]; show 2 ≤ sizeLine; decide
      · have e : Str.ofString "\\" ++ S [c] = S (tsig c) := by
          have e2' : c ∈ specL := e2
          rw [lit_bs, S_cat]
          unfold tsig
          rw [if_neg n1', if_pos e2'] <;> rfl
        rw [e]
        exact q
    · refine ⟨_, rfl, ?_⟩
      have n2' : ¬ c ∈ specL := n2
      have e : tsig c = [c] := by
        unfold tsig
        rw [if_neg n1', if_neg n2']
      rw [e] at q
      exact q
theorem ok_turned {f : Addr} {fd : FuncData} (F : Def K mg "turned" s_turned f fd) (b : Binds K fd ["text"] []) (T : Txt mg) (c_turned_sign : Cal P w K mg base 1 "turned_sign" spTsig []) : Cal P w K mg base 2 "turned" spTurned [] := by
  refine cal0 F b .nil sc_turned (fun vs H Q E h => ?_) (fun cdv A outer s H vs Q E hr h => ?_)
  · obtain ⟨l, rfl, _⟩ := h
    rfl
  obtain ⟨l, rfl, hl, q⟩ := h
  refine ⟨_, pss_one (ps_ret (pe_join pe_str (pe_lc (own := [("sign", 1)]) (g := gName 1) (by rfl) sc_turned.nd (pi_str (pv 0)) (blkOk_by (own := [("sign", 1)]) (N := N_turned) (sc := fnScope s_turned) (by decide +kernel)) (fun _ _ _ _ _ => pg_name (i := 1) sc_turned.nd rfl (Or.inl rfl)) (fun _ _ _ _ _ => pts_nil) (fun _ _ _ _ _ => (pe_c c_turned_sign hr (by first | decide | assumption | omega) rfl (pa_cons (pv 1) pa_nil)))))), ?_⟩
  refine ⟨⟨_, rfl⟩, _, rfl, _, rfl, fun D hD => lc_it walk_str (fun i H2 => Same H H2 ∧ H2 D = some (.lst (((l.take i).map fun c => S (tsig c)).map V.str))) ⟨same_new hD _, upd_same⟩ (fun _ _ _ _ => trivial) ?_ ?_⟩
  · rintro i x H2 H3 hi ⟨hs, hd⟩ ⟨rfl, c, hc, rfl⟩
    have hc' : l[i]? = some c := by
      have : (S l).cps.toList[i]? = some c := by rw [Array.getElem?_toList]; exact hc
      exact this
    have hi' : i < l.length := (List.getElem?_eq_some_iff.mp hc').1
    refine ⟨rfl, _, rfl, c, rfl, _, hd, ?_, same_mut hs hD, ?_⟩
    · rw [List.length_map, List.length_map, List.length_take]
      exact Nat.lt_of_le_of_lt (show _ ≤ 40000 by omega) (by decide)
    · rw [upd_same, List.take_add_one, hc']
      simp
  · rintro H2 ⟨hs, hd⟩
    have hz : (S l).cps.size = l.length := S_len l
    rw [hz, List.take_length] at hd
    have hm : (l.map fun c => S (tsig c)) = (l.map tsig).map S := by rw [List.map_map] <;> rfl
    refine ⟨_, D, l.map fun c => S (tsig c), rfl, rfl, .inl (SqL.of hd), ?_, ?_⟩
    · rw [lit_e]
      have : ((l.map fun c => S (tsig c)).map (·.length)).sum = (turn l).length := by
        unfold turn
        rw [List.length_flatMap, List.map_map]
        congr 1
      rw [this]
      have := turn_len l
      have e0 : (S ([] : List Nat)).length = 0 := rfl
      rw [e0, Nat.mul_zero]
      omega
    · rw [hm, join0 lit_e]
      exact q H2 hs
end
end My
namespace My
open PySem L2 SX C8
section
variable {P : Program} {w : World} {K : PySem.W.Frag} {mg : Str → Option Value} {base : Heap}
theorem ok_word_text {f : Addr} {fd : FuncData} (F : Def K mg "word_text" s_word_text f fd) (b : Binds K fd ["word"] []) (T : Txt mg) (c_turned : Cal P w K mg base 2 "turned" spTurned []) (c_can_stand_in_braces : Cal P w K mg base 2 "can_stand_in_braces" spStand []) : Cal P w K mg base 3 "word_text" spWtext [] := by
  refine cal0 F b .nil sc_word_text (fun vs H Q E h => ?_) (fun cdv A outer s H vs Q E hr h => ?_)
  · obtain ⟨l, rfl, _⟩ := h
    rfl
  obtain ⟨l, rfl, hl, q⟩ := h
  refine ⟨_, pss_cons (ps_set (i := 1) sc_word_text.nd rfl (Or.inl rfl) (pe_op op_add_str (pe_op op_add_str pe_str (pv 0)) pe_str))
    (pss_cons (ps_if (pt_cmpR op_eq (pv 0) pe_str (nomark _))
      (pss_one (ps_ret (pv 1)))
      (pss_nil))
    (pss_cons (ps_set (i := 2) sc_word_text.nd rfl (Or.inl rfl) (pe_c c_turned hr (by first | decide | assumption | omega) rfl (pa_cons (pv 0) pa_nil)))
    (pss_cons (ps_if (PW.pt (pw_and (pt_cmpR op_le (pe_callB call_len (by rfl) T.len (by decide +kernel) (pa_cons (pv 1) pa_nil)) (pe_callB call_len (by rfl) T.len (by decide +kernel) (pa_cons (pv 2) pa_nil)) (nomark _)) (pw_and1 (pt_val (pe_c c_can_stand_in_braces hr (by first | decide | assumption | omega) rfl (pa_cons (pv 0) pa_nil))))))
      (pss_one (ps_ret (pv 1)))
      (pss_nil))
    (pss_one (ps_ret (pv 2)))))), ?_⟩
  have hz : (S l).length ≤ sizeLine := size_S (by omega)
  have h1 : (Str.ofString "{").length + (S l).length ≤ sizeLine := by
    rw [lit_ob, S_len, S_len]; exact Nat.le_trans (show _ ≤ 100000 by simp; omega) (by decide)
  have e1 : Str.ofString "{" ++ S l ++ Str.ofString "}" = S (123 :: (l ++ [125])) := by
    rw [lit_ob, lit_cb, S_cat, S_cat] <;> rfl
  have h2 : (Str.ofString "{" ++ S l).length + (Str.ofString "}").length ≤ sizeLine := by
    rw [lit_ob, lit_cb, S_cat, S_len, S_len]; exact Nat.le_trans (show _ ≤ 100000 by simp; omega) (by decide)
  refine ⟨_, rfl, _, _, rfl, rfl, h1, _, _, rfl, rfl, h2, ?_⟩
  rw [e1]
  refine ⟨_, rfl, rfl, _, rfl, ite_S lit_e (fun e2 => ?_) (fun n2 => ?_)⟩
  · refine ⟨_, rfl, ?_⟩
    have := q H (Same.refl H)
    subst e2
    exact this
  · refine ⟨_, rfl, l, rfl, hl, fun H1 s1 => ?_⟩
    have hz1 : (S (123 :: (l ++ [125]))).length ≤ sizeLine := size_S (by simp; omega)
    have ht : (turn l).length ≤ 80000 := by have := turn_len l; omega
    have hz2 : (S (turn l)).length ≤ sizeLine := size_S (by omega)
    refine ⟨_, rfl, _, _, rfl, ⟨hz1, rfl⟩, _, rfl, _, _, rfl, ⟨hz2, rfl⟩, _, _, rfl, rfl, _, rfl, ?_⟩
    have el : (S (123 :: (l ++ [125]))).length = l.length + 2 := by rw [S_len]; simp
    have et : (S (turn l)).length = (turn l).length := S_len _
    rw [el, et]
    refine iteD (fun e3 => ?_) (fun n3 => ?_)
    · refine ⟨_, rfl, l, rfl, by omega, _, rfl, ?_⟩
      cases hp : Pairs l with
      | true =>
        refine iteT ⟨_, rfl, ?_⟩
        have := q H1 s1
        unfold wtext at this
        rw [if_neg n2, if_pos ⟨by omega, hp⟩] at this
        exact this
      | false =>
        refine iteF ⟨_, rfl, ?_⟩
        have := q H1 s1
        unfold wtext at this
        rw [if_neg n2, if_neg (fun z => by rw [hp] at z; cases z.2)] at this
        exact this
    · refine iteF ⟨_, rfl, ?_⟩
      have := q H1 s1
      unfold wtext at this
      rw [if_neg n2, if_neg (fun z => n3 (by have := z.1; omega))] at this
      exact this
end
end My
namespace My
open PySem L2 SX C8
theorem lit_aP : (Str.ofString "a") = S [97] := by decide +kernel
theorem lit_zP : (Str.ofString "z") = S [122] := by decide +kernel
theorem ltP (a b : Nat) : decide ((S [a]).cps.toList < (S [b]).cps.toList) = decide (a < b) := by
  show decide ([a] < [b]) = _
  by_cases h : a < b
  · rw [decide_eq_true h, decide_eq_true]
    exact List.cons_lt_cons_iff.mpr (.inl h)
  · rw [decide_eq_false h, decide_eq_false]
    intro z
    rcases List.cons_lt_cons_iff.mp z with z | ⟨_, z⟩
    · exact h z
    · cases z
def spLetterP : Sp := fun vs H Q _ => ∃ (c : Nat), vs = [.str (S [c])] ∧ Q (.bl (low c)) H
section
variable {P : Program} {w : World} {K : PySem.W.Frag} {mg : Str → Option Value} {base : Heap}
theorem okp_is_letter {f : Addr} {fd : FuncData} (F : Def K mg "is_letter" s_is_letter f fd) (b : Binds K fd ["sign"] []) (T : Txt mg) : Cal P w K mg base 1 "is_letter" spLetterP [] := by
  refine cal0 F b .nil sc_is_letter (fun vs H Q E h => ?_) (fun cdv A outer s H vs Q E hr h => ?_)
  · obtain ⟨l, rfl, _⟩ := h
    rfl
  obtain ⟨c, rfl, q⟩ := h
  refine ⟨_, pss_one (ps_ret (pe_chain op_le_str op_le_str pe_str (pv 0) pe_str)), ?_⟩
  refine ⟨_, rfl, _, _, rfl, rfl, _, rfl, ?_⟩
  rw [lit_aP, ltP]
  unfold low at q
  by_cases h : c < 97
  · rw [decide_eq_true h]
    rw [decide_eq_false (show ¬ 97 ≤ c by omega), Bool.false_and] at q
    exact iteF q
  · rw [decide_eq_false h]
    rw [decide_eq_true (show 97 ≤ c by omega), Bool.true_and] at q
    refine iteT ⟨_, _, rfl, rfl, ?_⟩
    rw [lit_zP, ltP]
    have : (!decide (122 < c)) = decide (c ≤ 122) := by
      by_cases h2 : c ≤ 122
      · rw [decide_eq_true h2, decide_eq_false (by omega)]; rfl
      · rw [decide_eq_false h2, decide_eq_true (by omega)]; rfl
    rw [this]
    exact q
end
end My
namespace My
open PySem L2 SX C8
section
variable {P : Program} {w : World} {K : PySem.W.Frag} {mg : Str → Option Value} {base : Heap}
theorem ok_refuse_long {f : Addr} {fd : FuncData} (F : Def K mg "refuse_long" s_refuse_long f fd) (b : Binds K fd ["text"] []) (T : Txt mg) : Cal P w K mg base 1 "refuse_long" spRefuse [] := by
  refine cal0 F b .nil sc_refuse_long (fun vs H Q E h => ?_) (fun cdv A outer s H vs Q E hr h => ?_)
  · obtain ⟨l, rfl, _⟩ := h
    rfl
  obtain ⟨l, rfl, hl, q⟩ := h
  refine ⟨_, pss_one (ps_if (pt_cmpR op_gt (pe_callB call_len (by rfl) T.len (by decide +kernel) (pa_cons (pv 0) pa_nil)) (pe_gc rfl T.g_LONGEST) (nomark _))
      (pss_one (ps_never))
      (pss_nil)), ?_⟩
  refine ⟨_, rfl, _, _, rfl, ⟨size_S (by omega), rfl⟩, _, _, rfl, rfl, _, rfl, ?_⟩
  refine iteD (fun e => ?_) (fun _ => q)
  rw [S_len] at e
  omega
theorem ok_meant {f : Addr} {fd : FuncData} (F : Def K mg "meant" s_meant f fd) (b : Binds K fd ["sign"] []) (T : Txt mg) : Cal P w K mg base 1 "meant" spMean [] := by
  refine cal0 F b .nil sc_meant (fun vs H Q E h => ?_) (fun cdv A outer s H vs Q E hr h => ?_)
  · obtain ⟨l, rfl, _⟩ := h
    rfl
  obtain ⟨c, rfl, q⟩ := h
  refine ⟨_, pss_cons (ps_if (pt_cmpR op_eq (pv 0) pe_str (nomark _))
      (pss_one (ps_ret pe_str))
      (pss_nil))
    (pss_one (ps_ret (pv 0))), ?_⟩
  unfold mean at q
  refine ⟨_, rfl, rfl, _, rfl, ite_S lit_n (fun e1 => ?_) (fun n1 => ?_)⟩
  · rw [if_pos (List.head_eq_of_cons_eq e1), ← lit_nl] at q
    exact q
  · rw [if_neg (fun e => n1 (by rw [e]))] at q
    exact ⟨_, rfl, q⟩
end
end My
namespace My
open PySem L2 SX C8
/-! ### a Reader -/
theorem nAS : ¬ (("at" : Str) = "source") := by decide +kernel
theorem nWS : ¬ (("within" : Str) = "source") := by decide +kernel
theorem nWA : ¬ (("within" : Str) = "at") := by decide +kernel
theorem nSA : ¬ (("source" : Str) = "at") := by decide +kernel
theorem nSW : ¬ (("source" : Str) = "within") := by decide +kernel
theorem nAW : ¬ (("at" : Str) = "within") := by decide +kernel
def rf (l : List Nat) (i w : Nat) : List (Str × V) := [("source", .str (S l)), ("at", .int (i : Int)), ("within", .int (w : Int))]
theorem lk_cons (f g : Str) (y : V) (fs : List (Str × V)) : ((f, y) :: fs).lookup g = if g = f then some y else fs.lookup g := lookup_put f g y fs
theorem rf_src (l : List Nat) (i w : Nat) : (rf l i w).lookup ("source" : Str) = some (.str (S l)) := by
  unfold rf; rw [lk_cons, if_pos rfl]
theorem rf_at (l : List Nat) (i w : Nat) : (rf l i w).lookup ("at" : Str) = some (.int (i : Int)) := by
  unfold rf; rw [lk_cons, if_neg nAS, lk_cons, if_pos rfl]
theorem rf_wi (l : List Nat) (i w : Nat) : (rf l i w).lookup ("within" : Str) = some (.int (w : Int)) := by
  unfold rf; rw [lk_cons, if_neg nWS, lk_cons, if_neg nWA, lk_cons, if_pos rfl]
theorem rf_no (l : List Nat) (i w : Nat) {m : Str} (h1 : ¬ m = "source") (h2 : ¬ m = "at") (h3 : ¬ m = "within") : (rf l i w).lookup m = none := by
  unfold rf; rw [lk_cons, if_neg h1, lk_cons, if_neg h2, lk_cons, if_neg h3]; rfl
theorem putF_cons (f g : Str) (x y : V) (fs : List (Str × V)) : putF f x ((g, y) :: fs) = if g = f then (g, x) :: fs else (g, y) :: putF f x fs := rfl
theorem rf_putat (l : List Nat) (i w : Nat) (j : Nat) {z : Int} (hz : z = (j : Int)) : putF "at" (.int z) (rf l i w) = rf l j w := by
  subst hz
  unfold rf
  rw [putF_cons, if_neg nSA, putF_cons, if_pos rfl]
theorem rf_putwi (l : List Nat) (i w : Nat) (j : Nat) {z : Int} (hz : z = (j : Int)) : putF "within" (.int z) (rf l i w) = rf l i j := by
  subst hz
  unfold rf
  rw [putF_cons, if_neg nSW, putF_cons, if_neg nAW, putF_cons, if_pos rfl]
/-- a Reader of the text l, at place i, within w runs, stands at p -/
def RdAt (C : Addr) (H : Hp) (p : Addr) (l : List Nat) (i w : Nat) : Prop := l.length ≤ 1000 ∧ i ≤ l.length ∧ ∃ dx, H p = some (.ins C dx (rf l i w))
theorem RdAt.notup {C : Addr} {H : Hp} {p : Addr} {l : List Nat} {i w : Nat} (h : RdAt C H p l i w) : ∀ xs, H p ≠ some (.tup xs) := fun xs e => by
  obtain ⟨_, _, dx, h⟩ := h
  rw [h] at e
  cases e
/-- what the walk asks of the class -/
structure RdC (K : PySem.W.Frag) (mg : Str → Option Value) (C : Addr) : Prop where
  cl : Cls K C
  nS : NoAttr K C "source"
  nA : NoAttr K C "at"
  nW : NoAttr K C "within"
  mgC : mg "Reader" = some (.ref C)
def spEnds (C : Addr) (f : Nat → List Nat → Bool) : Sp := fun vs H Q _ => ∃ (p : Addr) (l : List Nat) (i w : Nat), vs = [.ref p] ∧ RdAt C H p l i w ∧ Q (.bl (f w (l.drop i))) H
/-- a step on -/
def spMove (C : Addr) (f : List Nat → List Nat) : Sp := fun vs H Q _ => ∃ (p : Addr) (l : List Nat) (i w : Nat), vs = [.ref p] ∧ RdAt C H p l i w ∧ ∀ (j : Nat) H', But p H H' → RdAt C H' p l j w → l.drop j = f (l.drop i) → Q .non H'
section
variable {P : Program} {w : World} {K : PySem.W.Frag} {mg : Str → Option Value} {base : Heap} {C : Addr}
theorem ok_ends_text {f : Addr} {fd : FuncData} (R : RdC K mg C) (me : Meth K C "ends_text" f) (F : C8.Fun K "ends_text" "Reader.ends_text" s_Reader_ends_text f fd) (b : Binds K fd ["self"] []) (T : Txt mg) : Met P w K mg base 1 C "ends_text" (spEnds C fun _ r => r.isEmpty) [] := by
  refine met0 R.cl me F b sc_Reader_ends_text (fun vs H Q E h => ?_) (fun cdv A outer s H vs Q E hr h => ?_)
  · obtain ⟨p, l, i, w, rfl, _⟩ := h
    rfl
  obtain ⟨p, l, i, w, rfl, ⟨hl, hi, dx, hp⟩, q⟩ := h
  refine ⟨_, pss_one (ps_ret (pe_cmpR op_eq (pe_fld (pv 0) rfl) (pe_callB call_len (by rfl) T.len (by decide +kernel) (pa_cons (pe_fld (pv 0) rfl) pa_nil)) (nomark _))), ?_⟩
  refine ⟨_, rfl, p, C, dx, _, _, rfl, hp, R.cl, R.nA, rf_at _ _ _, _, rfl, p, C, dx, _, _, rfl, hp, R.cl, R.nS, rf_src _ _ _, _, _, rfl, ⟨size_S (by omega), rfl⟩, rfl, ?_⟩
  rw [dec_int, S_len]
  have e : ((i : Int) == (l.length : Int)) = (l.drop i).isEmpty := by
    by_cases h : i = l.length
    · subst h; simp
    · have h1 : l.drop i ≠ [] := fun z => h (by have := List.drop_eq_nil_iff.mp z; omega)
      have h2 : (l.drop i).isEmpty = false := by simpa using h1
      rw [h2]
      exact beq_eq_false_iff_ne.mpr (by omega)
  rw [e]
  exact q
theorem drop_cases {l : List Nat} {i : Nat} (h : i ≤ l.length) : l.drop i = [] ∨ ∃ (hl : i < l.length), l.drop i = l[i] :: l.drop (i + 1) := by
  by_cases e : i < l.length
  · exact .inr ⟨e, List.drop_eq_getElem_cons e⟩
  · exact .inl (List.drop_eq_nil_of_le (by omega))
theorem lit_cl : (Str.ofString "]") = S [93] := by decide +kernel
theorem lit_ce : (Str.ofString "\n;") = S [10, 59] := by decide +kernel
theorem lit_bl : (Str.ofString " ") = S [32] := by decide +kernel
theorem lit_hash : (Str.ofString "#") = S [35] := by decide +kernel
theorem dec_1 (a b : Nat) : decide (V.str (S [a]) = V.str (S [b])) = decide (a = b) := by
  rw [dec_S]
  by_cases h : a = b
  · subst h; simp
  · rw [decide_eq_false h, decide_eq_false fun z => h (List.head_eq_of_cons_eq z)]
theorem ok_ends_script {f : Addr} {fd : FuncData} (R : RdC K mg C) (me : Meth K C "ends_script" f) (F : C8.Fun K "ends_script" "Reader.ends_script" s_Reader_ends_script f fd) (b : Binds K fd ["self"] []) (T : Txt mg) (c_ends_text : Met P w K mg base 1 C "ends_text" (spEnds C fun _ r => r.isEmpty) []) : Met P w K mg base 2 C "ends_script" (spEnds C bS) [] := by
  refine met0 R.cl me F b sc_Reader_ends_script (fun vs H Q E h => ?_) (fun cdv A outer s H vs Q E hr h => ?_)
  · obtain ⟨p, l, i, w, rfl, _⟩ := h
    rfl
  obtain ⟨p, l, i, w, rfl, hR, q⟩ := h
  obtain ⟨hl, hi, dx, hp⟩ := id hR
  refine ⟨_, pss_one (ps_ret (pe_or (pe_mt0 c_ends_text hr (by first | decide | assumption | omega) (pv 0)) (pe_one (pe_and (pe_cmpR op_gt (pe_fld (pv 0) rfl) pe_int (nomark _)) (pe_one (pe_cmpR op_eq (pe_ix ix_str (pe_fld (pv 0) rfl) (pe_fld (pv 0) rfl) (fun _ _ => rfl)) pe_str (nomark _))))))), ?_⟩
  refine ⟨_, rfl, p, dx, _, rfl, hp, rf_no _ _ _ (by decide +kernel) (by decide +kernel) (by decide +kernel), p, l, i, w, rfl, hR, _, rfl, ?_⟩
  rcases drop_cases hi with e | ⟨hlt, e⟩
  · rw [e] at q ⊢
    exact iteT q
  · rw [e] at q ⊢
    refine iteF ⟨_, rfl, p, C, dx, _, _, rfl, hp, R.cl, R.nW, rf_wi _ _ _, _, _, rfl, rfl, _, rfl, iteD (fun h0 => ?_) (fun h0 => ?_)⟩
    · refine ⟨_, rfl, p, C, dx, _, _, rfl, hp, R.cl, R.nS, rf_src _ _ _, _, rfl, p, C, dx, _, _, rfl, hp, R.cl, R.nA, rf_at _ _ _, _, _, _, rfl, rfl, size_S (by omega), at_S (List.getElem?_eq_getElem hlt), rfl, ?_⟩
      rw [lit_cl, dec_1]
      have : bS w (l[i] :: l.drop (i + 1)) = decide (l[i] = 93) := by
        show (decide (0 < w) && decide (l[i] = 93)) = _
        rw [decide_eq_true (show 0 < w by omega), Bool.true_and]
      rw [this] at q
      exact q
    · have : bS w (l[i] :: l.drop (i + 1)) = false := by
        show (decide (0 < w) && decide (l[i] = 93)) = _
        rw [decide_eq_false (show ¬ 0 < w by omega), Bool.false_and]
      rw [this] at q
      exact q
theorem ok_ends_command {f : Addr} {fd : FuncData} (R : RdC K mg C) (me : Meth K C "ends_command" f) (F : C8.Fun K "ends_command" "Reader.ends_command" s_Reader_ends_command f fd) (b : Binds K fd ["self"] []) (T : Txt mg) (c_ends_script : Met P w K mg base 2 C "ends_script" (spEnds C bS) []) : Met P w K mg base 3 C "ends_command" (spEnds C bC) [] := by
  refine met0 R.cl me F b sc_Reader_ends_command (fun vs H Q E h => ?_) (fun cdv A outer s H vs Q E hr h => ?_)
  · obtain ⟨p, l, i, w, rfl, _⟩ := h
    rfl
  obtain ⟨p, l, i, w, rfl, hR, q⟩ := h
  obtain ⟨hl, hi, dx, hp⟩ := id hR
  refine ⟨_, pss_one (ps_ret (pe_or (pe_mt0 c_ends_script hr (by first | decide | assumption | omega) (pv 0)) (pe_one (pe_cmpR op_in_sign (pe_ix ix_str (pe_fld (pv 0) rfl) (pe_fld (pv 0) rfl) (fun _ _ => rfl)) (pe_gc rfl T.g_COMMAND_ENDS) rfl)))), ?_⟩
  refine ⟨_, rfl, p, dx, _, rfl, hp, rf_no _ _ _ (by decide +kernel) (by decide +kernel) (by decide +kernel), p, l, i, w, rfl, hR, _, rfl, ?_⟩
  rcases drop_cases hi with e | ⟨hlt, e⟩
  · rw [e] at q ⊢
    exact iteT q
  · rw [e] at q ⊢
    have hb : bC w (l[i] :: l.drop (i + 1)) = (bS w (l[i] :: l.drop (i + 1)) || (decide (l[i] = 10) || decide (l[i] = 59))) := rfl
    cases hs : bS w (l[i] :: l.drop (i + 1)) with
    | true =>
      rw [hb, hs] at q
      exact iteT q
    | false =>
      rw [hb, hs, Bool.false_or] at q
      refine iteF ⟨_, rfl, p, C, dx, _, _, rfl, hp, R.cl, R.nS, rf_src _ _ _, _, rfl, p, C, dx, _, _, rfl, hp, R.cl, R.nA, rf_at _ _ _, _, _, _, rfl, rfl, size_S (by omega), at_S (List.getElem?_eq_getElem hlt), l[i], _, rfl, rfl, ?_⟩
      rw [lit_ce]
      have : decide (l[i] ∈ (S [10, 59]).cps.toList) = (decide (l[i] = 10) || decide (l[i] = 59)) := by
        rw [Bool.eq_iff_iff]
        simp
      rw [this]
      exact q
theorem ok_ends_word {f : Addr} {fd : FuncData} (R : RdC K mg C) (me : Meth K C "ends_word" f) (F : C8.Fun K "ends_word" "Reader.ends_word" s_Reader_ends_word f fd) (b : Binds K fd ["self"] []) (T : Txt mg) (c_ends_command : Met P w K mg base 3 C "ends_command" (spEnds C bC) []) : Met P w K mg base 4 C "ends_word" (spEnds C bW) [] := by
  refine met0 R.cl me F b sc_Reader_ends_word (fun vs H Q E h => ?_) (fun cdv A outer s H vs Q E hr h => ?_)
  · obtain ⟨p, l, i, w, rfl, _⟩ := h
    rfl
  obtain ⟨p, l, i, w, rfl, hR, q⟩ := h
  obtain ⟨hl, hi, dx, hp⟩ := id hR
  refine ⟨_, pss_one (ps_ret (pe_or (pe_mt0 c_ends_command hr (by first | decide | assumption | omega) (pv 0)) (pe_one (pe_cmpR op_eq (pe_ix ix_str (pe_fld (pv 0) rfl) (pe_fld (pv 0) rfl) (fun _ _ => rfl)) pe_str (nomark _))))), ?_⟩
  refine ⟨_, rfl, p, dx, _, rfl, hp, rf_no _ _ _ (by decide +kernel) (by decide +kernel) (by decide +kernel), p, l, i, w, rfl, hR, _, rfl, ?_⟩
  rcases drop_cases hi with e | ⟨hlt, e⟩
  · rw [e] at q ⊢
    exact iteT q
  · rw [e] at q ⊢
    have hb : bW w (l[i] :: l.drop (i + 1)) = (bC w (l[i] :: l.drop (i + 1)) || decide (l[i] = 32)) := rfl
    cases hs : bC w (l[i] :: l.drop (i + 1)) with
    | true =>
      rw [hb, hs] at q
      exact iteT q
    | false =>
      rw [hb, hs, Bool.false_or] at q
      refine iteF ⟨_, rfl, p, C, dx, _, _, rfl, hp, R.cl, R.nS, rf_src _ _ _, _, rfl, p, C, dx, _, _, rfl, hp, R.cl, R.nA, rf_at _ _ _, _, _, _, rfl, rfl, size_S (by omega), at_S (List.getElem?_eq_getElem hlt), rfl, ?_⟩
      rw [lit_bl, dec_1]
      exact q
end
end My
namespace My
open PySem L2 SX C8
theorem lit_a : (Str.ofString "a") = S [97] := by decide +kernel
theorem lit_z : (Str.ofString "z") = S [122] := by decide +kernel
theorem lt1 (a b : Nat) : decide ((S [a]).cps.toList < (S [b]).cps.toList) = decide (a < b) := by
  show decide ([a] < [b]) = _
  by_cases h : a < b
  · rw [decide_eq_true h, decide_eq_true]
    exact List.cons_lt_cons_iff.mpr (.inl h)
  · rw [decide_eq_false h, decide_eq_false]
    intro z
    rcases List.cons_lt_cons_iff.mp z with z | ⟨_, z⟩
    · exact h z
    · cases z
def spLetter : Sp := fun vs H Q _ => ∃ (c : Nat), vs = [.str (S [c])] ∧ Q (.bl (low c)) H
def isName (n : List Nat) : Bool := decide (1 ≤ n.length) && decide (n.length ≤ 8) && n.all low
def spName : Sp := fun vs H Q _ => ∃ (n : List Nat), vs = [.str (S n)] ∧ n.length ≤ 1000 ∧ ∀ H', Same H H' → Q (.bl (isName n)) H'
def spLetters (C : Addr) : Sp := fun vs H Q _ => ∃ (p : Addr) (l : List Nat) (i w : Nat), vs = [.ref p] ∧ RdAt C H p l i w ∧ ∀ (j : Nat) H', But p H H' → RdAt C H' p l j w → l.drop j = (l.drop i).dropWhile low → Q (.str (S ((l.drop i).takeWhile low))) H'
section
variable {P : Program} {w : World} {K : PySem.W.Frag} {mg : Str → Option Value} {base : Heap} {C : Addr}
theorem ok_is_letter {f : Addr} {fd : FuncData} (F : Def K mg "is_letter" s_is_letter f fd) (b : Binds K fd ["sign"] []) (T : Txt mg) : Cal P w K mg base 1 "is_letter" spLetter [] := by
  refine cal0 F b .nil sc_is_letter (fun vs H Q E h => ?_) (fun cdv A outer s H vs Q E hr h => ?_)
  · obtain ⟨l, rfl, _⟩ := h
    rfl
  obtain ⟨c, rfl, q⟩ := h
  refine ⟨_, pss_one (ps_ret (pe_chain op_le_str op_le_str pe_str (pv 0) pe_str)), ?_⟩
  refine ⟨_, rfl, _, _, rfl, rfl, _, rfl, ?_⟩
  rw [lit_a, lt1]
  unfold low at q
  by_cases h : c < 97
  · rw [decide_eq_true h]
    rw [decide_eq_false (show ¬ 97 ≤ c by omega), Bool.false_and] at q
    exact iteF q
  · rw [decide_eq_false h]
    rw [decide_eq_true (show 97 ≤ c by omega), Bool.true_and] at q
    refine iteT ⟨_, _, rfl, rfl, ?_⟩
    rw [lit_z, lt1]
    have : (!decide (122 < c)) = decide (c ≤ 122) := by
      by_cases h2 : c ≤ 122
      · rw [decide_eq_true h2, decide_eq_false (by omega)]; rfl
      · rw [decide_eq_false h2, decide_eq_true (by omega)]; rfl
    rw [this]
    exact q
theorem allMap (bs : List Nat) : (bs.map low).all id = bs.all low := by
  induction bs with
  | nil => rfl
  | cons c r ih => simp only [List.map_cons, List.all_cons, ih, id]
theorem ok_is_name {f : Addr} {fd : FuncData} (F : Def K mg "is_name" s_is_name f fd) (b : Binds K fd ["text"] []) (T : Txt mg) (c_is_letter : Cal P w K mg base 1 "is_letter" spLetter []) : Cal P w K mg base 2 "is_name" spName [] := by
  refine cal0 F b .nil sc_is_name (fun vs H Q E h => ?_) (fun cdv A outer s H vs Q E hr h => ?_)
  · obtain ⟨l, rfl, _⟩ := h
    rfl
  obtain ⟨n, rfl, hl, q⟩ := h
  refine ⟨_, pss_one (ps_ret (pe_and (pe_chain op_le op_le pe_int (pe_callB call_len (by rfl) T.len (by decide +kernel) (pa_cons (pv 0) pa_nil)) (pe_gc rfl T.g_LONGEST_NAME)) (pe_one (pe_callB (cr_all rfl) (by rfl) T.all (by decide +kernel) (pa_cons (pe_lc (own := [("sign", 1)]) (g := gName 1) (by rfl) sc_is_name.nd (pi_str (pv 0)) (blkOk_by (own := [("sign", 1)]) (N := N_is_name) (sc := fnScope s_is_name) (by decide +kernel)) (fun _ _ _ _ _ => pg_name (i := 1) sc_is_name.nd rfl (Or.inl rfl)) (fun _ _ _ _ _ => pts_nil) (fun _ _ _ _ _ => (pe_c c_is_letter hr (by first | decide | assumption | omega) rfl (pa_cons (pv 1) pa_nil)))) pa_nil))))), ?_⟩
  have hz : (S n).length ≤ sizeLine := size_S (by omega)
  refine ⟨_, rfl, _, _, rfl, ⟨hz, rfl⟩, _, _, rfl, rfl, _, rfl, ?_⟩
  have e1 : decide ((1 : Int) ≤ ((S n).length : Int)) = decide (1 ≤ n.length) := by
    rw [S_len]
    by_cases h : 1 ≤ n.length
    · rw [decide_eq_true h, decide_eq_true (by omega)]
    · rw [decide_eq_false h, decide_eq_false (by omega)]
  rw [e1]
  unfold isName at q
  cases h1 : decide (1 ≤ n.length) with
  | false =>
    rw [h1] at q
    exact iteF ⟨_, rfl, iteF (q H (Same.refl H))⟩
  | true =>
    rw [h1, Bool.true_and] at q
    refine iteT ⟨_, _, rfl, rfl, _, rfl, ?_⟩
    have e2 : decide (((S n).length : Int) ≤ 8) = decide (n.length ≤ 8) := by
      rw [S_len]
      by_cases h : n.length ≤ 8
      · rw [decide_eq_true h, decide_eq_true (by omega)]
      · rw [decide_eq_false h, decide_eq_false (by omega)]
    rw [e2]
    cases h2 : decide (n.length ≤ 8) with
    | false =>
      rw [h2] at q
      exact iteF (q H (Same.refl H))
    | true =>
      rw [h2, Bool.true_and] at q
      refine iteT ⟨_, rfl, _, rfl, fun D hD => lc_it walk_str (fun i H2 => Same H H2 ∧ H2 D = some (.lst (((n.take i).map low).map V.bl))) ⟨same_new hD _, upd_same⟩ (fun _ _ _ _ => trivial) ?_ ?_⟩
      · rintro i x H2 H3 hi ⟨hs, hd⟩ ⟨rfl, c, hc, rfl⟩
        have hc' : n[i]? = some c := by
          have : (S n).cps.toList[i]? = some c := by rw [Array.getElem?_toList]; exact hc
          exact this
        refine ⟨rfl, _, rfl, c, rfl, _, hd, ?_, same_mut hs hD, ?_⟩
        · rw [List.length_map, List.length_map, List.length_take]
          exact Nat.lt_of_le_of_lt (show _ ≤ 2000 by omega) (by decide)
        · rw [upd_same, List.take_add_one, hc']
          simp
      · rintro H2 ⟨hs, hd⟩
        have hz : (S n).cps.size = n.length := S_len n
        rw [hz, List.take_length] at hd
        refine ⟨D, _, rfl, SqL.of hd, ?_⟩
        rw [allMap]
        exact q H2 hs
theorem rd_step {H : Hp} {p : Addr} {l : List Nat} {i w : Nat} {dx : Addr} (hl : l.length ≤ 1000) (hi : i + 1 ≤ l.length) : RdAt C (upd H p (.ins C dx (putF "at" (.int ((i : Int) + 1)) (rf l i w)))) p l (i + 1) w :=
  ⟨hl, hi, dx, by rw [upd_same, rf_putat l i w (i + 1) (by omega)]⟩
theorem ok_pass_remark {f : Addr} {fd : FuncData} (R : RdC K mg C) (me : Meth K C "pass_remark" f) (F : C8.Fun K "pass_remark" "Reader.pass_remark" s_Reader_pass_remark f fd) (b : Binds K fd ["self"] []) (T : Txt mg) (c_ends_text : Met P w K mg base 1 C "ends_text" (spEnds C fun _ r => r.isEmpty) []) : Met P w K mg base 2 C "pass_remark" (spMove C dropRem) [] := by
  refine met0 R.cl me F b sc_Reader_pass_remark (fun vs H Q E h => ?_) (fun cdv A outer s H vs Q E hr h => ?_)
  · obtain ⟨p, l, i, w, rfl, _⟩ := h
    rfl
  obtain ⟨p, l, i, w, rfl, hR, q⟩ := h
  refine ⟨_, pss_one (ps_while PassesOwn.never (PW.pt (pw_and (pt_not (pt_val (pe_mt0 c_ends_text hr (by first | decide | assumption | omega) (pv 0)))) (pw_and1 (pt_cmpR op_ne (pe_ix ix_str (pe_fld (pv 0) rfl) (pe_fld (pv 0) rfl) (fun _ _ => rfl)) pe_str (nomark _)))))
      (pss_one (ps_fldaug (pv 0) pe_int in_add))), ?_⟩
  let W : Nat → L2.St → Hp → Prop := fun m σ H2 => ∃ k : Nat, σ = [some (.ref p)] ∧ But p H H2 ∧ RdAt C H2 p l k w ∧ dropRem (l.drop k) = dropRem (l.drop i) ∧ m = l.length - k
  refine ⟨W, ⟨_, i, rfl, But.refl p H, hR, rfl, rfl⟩, ?_⟩
  rintro m σ H2 ⟨k, rfl, hb, hR2, e, rfl⟩
  obtain ⟨hl, hk, dx, hp⟩ := id hR2
  refine ⟨_, rfl, p, dx, _, rfl, hp, rf_no _ _ _ (by decide +kernel) (by decide +kernel) (by decide +kernel), p, l, k, w, rfl, hR2, _, rfl, ?_⟩
  rcases drop_cases hk with e0 | ⟨hlt, e0⟩
  · refine (?_ : if (!(l.drop k).isEmpty) = true then _ else _)
    rw [e0]
    rw [e0] at e
    refine iteF ?_
    exact q k H2 hb hR2 (by rw [e0, ← e]; rfl)
  · have ne : (!(l.drop k).isEmpty) = true := by rw [e0]; rfl
    refine (?_ : if (!(l.drop k).isEmpty) = true then _ else _)
    rw [ne]
    refine iteT ⟨_, rfl, p, C, dx, _, _, rfl, hp, R.cl, R.nS, rf_src _ _ _, _, rfl, p, C, dx, _, _, rfl, hp, R.cl, R.nA, rf_at _ _ _, _, _, _, rfl, rfl, size_S (by omega), at_S (List.getElem?_eq_getElem hlt), rfl, _, rfl, iteNS lit_nl (fun n10 => ?_) (fun e10 => ?_)⟩
    · have n10' : ¬ l[k] = 10 := fun z => n10 (by rw [z])
      refine ⟨fun σ' H' => ∃ m', m' < l.length - k ∧ W m' σ' H', fun _ _ h => h, ?_⟩
      refine ⟨_, rfl, p, C, dx, _, _, rfl, hp, R.cl, R.nA, rf_at _ _ _, _, _, rfl, rfl, dx, _, hp, (by show 3 < 1000; decide), ?_⟩
      exact ⟨l.length - (k + 1), by omega, k + 1, rfl, but_upd hb, rd_step hl (by omega), by rw [← e, e0, dropRem, if_neg n10'], rfl⟩
    · have e10' : l[k] = 10 := List.head_eq_of_cons_eq e10
      exact q k H2 hb hR2 (by rw [← e, e0, dropRem, if_pos e10'])
theorem okr_read_letters {f : Addr} {fd : FuncData} (R : RdC K mg C) (me : Meth K C "read_letters" f) (F : C8.Fun K "read_letters" "Reader.read_letters" s_Reader_read_letters f fd) (b : Binds K fd ["self"] []) (T : Txt mg) (c_ends_text : Met P w K mg base 1 C "ends_text" (spEnds C fun _ r => r.isEmpty) []) (c_is_letter : Cal P w K mg base 1 "is_letter" spLetter []) : Met P w K mg base 2 C "read_letters" (spLetters C) [] := by
  refine met0 R.cl me F b sc_Reader_read_letters (fun vs H Q E h => ?_) (fun cdv A outer s H vs Q E hr h => ?_)
  · obtain ⟨p, l, i, w, rfl, _⟩ := h
    rfl
  obtain ⟨p, l, i, w, rfl, hR, q⟩ := h
  obtain ⟨hl, hi, dx0, hp0⟩ := id hR
  refine ⟨_, pss_cons (ps_set (i := 1) sc_Reader_read_letters.nd rfl (Or.inl rfl) (pe_fld (pv 0) rfl))
    (pss_cons (ps_while PassesOwn.never (PW.pt (pw_and (pt_not (pt_val (pe_mt0 c_ends_text hr (by first | decide | assumption | omega) (pv 0)))) (pw_and1 (pt_val (pe_c c_is_letter hr (by first | decide | assumption | omega) rfl (pa_cons (pe_ix ix_str (pe_fld (pv 0) rfl) (pe_fld (pv 0) rfl) (fun _ _ => rfl)) pa_nil))))))
      (pss_one (ps_fldaug (pv 0) pe_int in_add)))
    (pss_one (ps_ret (pe_slice sl_str (pe_fld (pv 0) rfl) (po_some (pv 1)) (po_some (pe_fld (pv 0) rfl)))))), ?_⟩
  refine ⟨_, rfl, p, C, dx0, _, _, rfl, hp0, R.cl, R.nA, rf_at _ _ _, ?_⟩
  let W : Nat → L2.St → Hp → Prop := fun m σ H2 => ∃ k : Nat, σ = [some (.ref p), some (.int (i : Int))] ∧ But p H H2 ∧ RdAt C H2 p l k w ∧ i ≤ k ∧ (l.drop i).takeWhile low = (l.drop i).take (k - i) ++ (l.drop k).takeWhile low ∧ (l.drop i).dropWhile low = (l.drop k).dropWhile low ∧ m = l.length - k
  refine ⟨W, ⟨_, i, rfl, But.refl p H, hR, Nat.le_refl _, by simp, rfl, rfl⟩, ?_⟩
  rintro m σ H2 ⟨k, rfl, hb, hR2, hik, et, ed, rfl⟩
  obtain ⟨_, hk, dx, hp⟩ := id hR2
  have fin : (l.drop k).takeWhile low = [] → (l.drop k).dropWhile low = l.drop k → tRet (tSl rSlS (tFld K (tVar 0) "source") (tPart (tVar 1)) (tPart (tFld K (tVar 0) "at"))) { nx := fun _ H' => Q .non H', rt := Q } [some (.ref p), some (.int (i : Int))] H2 := fun h1 h2 => by
    refine ⟨_, rfl, p, C, dx, _, _, rfl, hp, R.cl, R.nS, rf_src _ _ _, _, rfl, _, rfl, _, rfl, p, C, dx, _, _, rfl, hp, R.cl, R.nA, rf_at _ _ _, _, rfl, _, rfl, size_S (by omega), ?_⟩
    rw [slice_nn l i k hi hk]
    have := q k H2 hb hR2 (by rw [ed, h2])
    rw [et, h1, List.append_nil] at this
    exact this
  refine ⟨_, rfl, p, dx, _, rfl, hp, rf_no _ _ _ (by decide +kernel) (by decide +kernel) (by decide +kernel), p, l, k, w, rfl, hR2, _, rfl, ?_⟩
  rcases drop_cases hk with e0 | ⟨hlt, e0⟩
  · refine (?_ : if (!(l.drop k).isEmpty) = true then _ else _)
    have ne : (!(l.drop k).isEmpty) = false := by rw [e0]; rfl
    rw [ne]
    exact iteF (fin (by rw [e0]; rfl) (by rw [e0]; rfl))
  · have ne : (!(l.drop k).isEmpty) = true := by rw [e0]; rfl
    refine (?_ : if (!(l.drop k).isEmpty) = true then _ else _)
    rw [ne]
    refine iteT ⟨_, rfl, p, C, dx, _, _, rfl, hp, R.cl, R.nS, rf_src _ _ _, _, rfl, p, C, dx, _, _, rfl, hp, R.cl, R.nA, rf_at _ _ _, _, _, _, rfl, rfl, size_S (by omega), at_S (List.getElem?_eq_getElem hlt), l[k], rfl, _, rfl, ?_⟩
    cases hw : low l[k] with
    | true =>
      refine iteT ⟨fun σ' H' => ∃ m', m' < l.length - k ∧ W m' σ' H', fun _ _ h => h, ?_⟩
      refine ⟨_, rfl, p, C, dx, _, _, rfl, hp, R.cl, R.nA, rf_at _ _ _, _, _, rfl, rfl, dx, _, hp, (by show 3 < 1000; decide), ?_⟩
      refine ⟨l.length - (k + 1), by omega, k + 1, rfl, but_upd hb, rd_step hl (by omega), by omega, ?_, ?_, rfl⟩
      · rw [et, e0, List.takeWhile_cons, hw]
        have e3 : (l.drop i).take (k + 1 - i) = (l.drop i).take (k - i) ++ [l[k]] := by
          rw [show k + 1 - i = (k - i) + 1 by omega, List.take_add_one]
          rw [List.getElem?_drop, show i + (k - i) = k by omega, List.getElem?_eq_getElem hlt]
          rfl
        rw [e3, List.append_assoc]
        rfl
      · rw [ed, e0, List.dropWhile_cons, hw]
        rfl
    | false =>
      refine iteF (fin ?_ ?_)
      · rw [e0, List.takeWhile_cons, hw]; rfl
      · rw [e0, List.dropWhile_cons, hw]; rfl
end
end My
namespace My
open PySem L2 SX C8
def spLetters2 : Sp := fun vs H Q _ => ∃ (l : List Nat), vs = [.str (S l)] ∧ l.length ≤ 2000000 ∧ ∀ H', Same H H' → Q (.str (S (l.takeWhile low))) H'
def nonL (o : Nat) : List Nat → List Nat
  | [] => []
  | c :: r => if low c then nonL (o + 1) r else o :: nonL (o + 1) r
theorem nonL_snoc : ∀ (a : List Nat) (o c : Nat), nonL o (a ++ [c]) = nonL o a ++ (if low c then [] else [o + a.length])
  | [], o, c => by
    show (if low c then [] else [o]) = _
    simp [nonL]
  | d :: a, o, c => by
    have ih := nonL_snoc a (o + 1) c
    show (if low d then nonL (o + 1) (a ++ [c]) else o :: nonL (o + 1) (a ++ [c])) = _
    rw [ih]
    have e : o + 1 + a.length = o + (d :: a).length := by simp; omega
    rw [e]
    cases hd : low d <;> simp [nonL, hd]
theorem nonL_head : ∀ (l : List Nat) (o : Nat), (nonL o l ++ [o + l.length])[0]? = some (o + (l.takeWhile low).length)
  | [], o => rfl
  | c :: r, o => by
    cases hc : low c with
    | true =>
      have ih := nonL_head r (o + 1)
      have e : nonL o (c :: r) = nonL (o + 1) r := by simp [nonL, hc]
      rw [e, List.takeWhile_cons, hc]
      have e2 : o + (c :: r).length = o + 1 + r.length := by simp; omega
      rw [e2, ih]
      simp; omega
    | false =>
      have e : nonL o (c :: r) = o :: nonL (o + 1) r := by simp [nonL, hc]
      rw [e, List.takeWhile_cons, hc]
      rfl
theorem nonL_len : ∀ (l : List Nat) (o : Nat), (nonL o l).length ≤ l.length
  | [], _ => Nat.le_refl _
  | c :: r, o => by
    have ih := nonL_len r (o + 1)
    cases hc : low c <;> simp [nonL, hc] <;> omega
theorem take_takeWhile (l : List Nat) : l.take (l.takeWhile low).length = l.takeWhile low := by
  induction l with
  | nil => rfl
  | cons c r ih =>
    rw [List.takeWhile_cons]
    cases low c with
    | true => simp [ih]
    | false => rfl
section
variable {P : Program} {w : World} {K : PySem.W.Frag} {mg : Str → Option Value} {base : Heap}
theorem ok__law_letters {f : Addr} {fd : FuncData} (F : Def K mg "_law_letters" s__law_letters f fd) (b : Binds K fd ["_law_text_here"] []) (T : Txt mg) : Cal P w K mg base 1 "_law_letters" spLetters2 [] := by
  refine cal0 F b .nil sc__law_letters (fun vs H Q E h => ?_) (fun cdv A outer s H vs Q E hr h => ?_)
  · obtain ⟨l, rfl, _⟩ := h
    rfl
  obtain ⟨l, rfl, hl, q⟩ := h
  refine ⟨_, pss_cons (ps_set (i := 1) sc__law_letters.nd rfl (Or.inl rfl) (pe_op op_cat (pe_lc (own := [("_law_at", 2)]) (g := gName 2) (by rfl) sc__law_letters.nd (pi_range1 rfl T.range (pa_cons (pe_callB call_len (by rfl) T.len (by decide +kernel) (pa_cons (pv 0) pa_nil)) pa_nil)) (blkOk_by (own := [("_law_at", 2)]) (N := N__law_letters) (sc := fnScope s__law_letters) (by decide +kernel)) (fun _ _ _ _ _ => pg_name (i := 2) sc__law_letters.nd rfl (Or.inl rfl)) (fun _ _ _ _ _ => pts_one (pt_not (pt_chain op_le_str op_le_str pe_str (pe_ix ix_str (pv 0) (pv 2) (fun _ _ => rfl)) pe_str))) (fun _ _ _ _ _ => (pv 2))) (pe_lst (pa_cons (pe_callB call_len (by rfl) T.len (by decide +kernel) (pa_cons (pv 0) pa_nil)) pa_nil))))
    (pss_one (ps_ret (pe_slice sl_str (pv 0) po_none (po_some (pe_ix ix_seq (pv 1) pe_int (fun _ _ => rfl)))))), ?_⟩
  have hz : (S l).length ≤ sizeLine := by rw [S_len]; exact Nat.le_trans hl (by decide)
  have hn : (((S l).length : Int)).toNat = l.length := by rw [S_len]; omega
  refine ⟨_, rfl, _, _, rfl, ⟨hz, rfl⟩, _, rfl, by omega, by rw [S_len]; omega, fun D hD => ?_⟩
  rw [hn]
  refine lc_range (lo := 0) (n := l.length) (fun i H2 => Same H H2 ∧ H2 D = some (.lst ((nonL 0 (l.take i)).map fun j : Nat => V.int (j : Int)))) ⟨same_new hD _, upd_same⟩ ?_ ?_
  · rintro i H2 hi ⟨hs, hd⟩
    have hlt : i < l.length := by omega
    have ei : (0 : Int) + (i : Int) = (i : Int) := Int.zero_add _
    rw [ei]
    have hnl := nonL_len (l.take i) 0
    rw [List.length_take] at hnl
    have hstep : nonL 0 (l.take (i + 1)) = nonL 0 (l.take i) ++ (if low l[i] then [] else [i]) := by
      rw [List.take_add_one, List.getElem?_eq_getElem hlt]
      show nonL 0 (l.take i ++ [l[i]]) = _
      rw [nonL_snoc, List.length_take, Nat.min_eq_left (by omega), Nat.zero_add]
    refine ⟨rfl, ?_⟩
    refine ⟨_, rfl, _, rfl, _, _, _, rfl, rfl, hz, atS' hlt, _, _, rfl, rfl, _, rfl, ?_⟩
    rw [lit_a]
    show if (!decide ((S [l[i]]).cps.toList < (S [97]).cps.toList)) = true then _ else _
    rw [lt1]
    have out : low l[i] = false → ∃ acc, H2 D = some (HO.lst acc) ∧ acc.length < sizeLine ∧ Same H (L2.upd H2 D (HO.lst (acc ++ [V.int (i : Int)]))) ∧ L2.upd H2 D (HO.lst (acc ++ [V.int (i : Int)])) D = some (HO.lst ((nonL 0 (l.take (i + 1))).map fun j : Nat => V.int (j : Int))) := fun hlow => by
      refine ⟨_, hd, ?_, same_mut hs hD, ?_⟩
      · rw [List.length_map]
        exact Nat.lt_of_le_of_lt (show _ ≤ 2000000 by omega) (by decide)
      · rw [upd_same, hstep, hlow]
        simp
    have keep : low l[i] = true → Same H H2 ∧ H2 D = some (HO.lst ((nonL 0 (l.take (i + 1))).map fun j : Nat => V.int (j : Int))) := fun hlow => ⟨hs, by rw [hd, hstep, hlow]; simp⟩
    by_cases h1 : l[i] < 97
    · rw [decide_eq_true h1]
      have hlow : low l[i] = false := by unfold low; rw [decide_eq_false (by omega)]; rfl
      exact iteF (A := False) ⟨_, rfl, iteT (B := False) ⟨_, rfl, out hlow⟩⟩
    · rw [decide_eq_false h1]
      refine iteT (B := False) ⟨_, _, rfl, rfl, _, rfl, ?_⟩
      rw [lit_z]
      show if (!(!decide ((S [122]).cps.toList < (S [l[i]]).cps.toList))) = true then _ else _
      rw [lt1]
      by_cases h2 : 122 < l[i]
      · rw [decide_eq_true h2]
        have hlow : low l[i] = false := by unfold low; rw [decide_eq_false (show ¬ l[i] ≤ 122 by omega), Bool.and_false]
        exact iteT (B := False) ⟨_, rfl, out hlow⟩
      · rw [decide_eq_false h2]
        have hlow : low l[i] = true := by unfold low; rw [decide_eq_true (show 97 ≤ l[i] by omega), decide_eq_true (show l[i] ≤ 122 by omega)]; rfl
        exact iteF (A := False) (keep hlow)
  · rintro H2 ⟨hs, hd⟩
    rw [List.take_length] at hd
    have hnl := nonL_len l 0
    refine ⟨_, rfl, _, _, rfl, ⟨hz, rfl⟩, (by show 1 ≤ sizeLine; decide), fun E2 hE2 => ?_⟩
    have nDE : D ≠ E2 := ne_of_none hd hE2
    refine ⟨D, E2, _, _, rfl, rfl, by rw [upd_ne nDE]; exact hd, upd_same, ?_, fun G hG => ?_⟩
    · rw [List.length_map, sizeLine_eq]
      show _ + 1 ≤ _
      omega
    · have s3 := (hs.trans (same_new hE2 (HO.lst [.int ((S l).length : Int)]))).trans (same_new hG (HO.lst (((nonL 0 l).map fun j : Nat => V.int (j : Int)) ++ [.int ((S l).length : Int)])))
      have hh : (((nonL 0 l).map fun j : Nat => V.int (j : Int)) ++ [V.int ((S l).length : Int)])[0]? = some (V.int (((l.takeWhile low).length : Nat) : Int)) := by
        have h1 := nonL_head l 0
        have e : ((nonL 0 l).map fun j : Nat => V.int (j : Int)) ++ [V.int ((S l).length : Int)] = (nonL 0 l ++ [0 + l.length]).map fun j : Nat => V.int (j : Int) := by
          rw [List.map_append, S_len]
          simp
        rw [e, List.getElem?_map, h1, Nat.zero_add]
        rfl
      refine ⟨_, rfl, _, rfl, .inl ⟨G, _, _, _, rfl, rfl, SqL.of upd_same, atI_nat (j := 0) hh, _, rfl, _, rfl, hz, ?_⟩⟩
      rw [slice_0n l _ (by have := List.takeWhile_sublist low (l := l) |>.length_le; exact this), take_takeWhile]
      exact q _ s3
end
end My
namespace My
open PySem L2 SX C8
theorem TrAt.inv_n {H : Hp} {v : V} {ts : List Tr} (h : TrAt H v (.n ts)) : ∃ a vs, v = .ref a ∧ H a = some (.tup vs) ∧ TrsAt H vs ts := by
  cases h with
  | n h hl hk => exact ⟨_, _, rfl, h, hl, hk⟩
theorem TrAt.inv_s {H : Hp} {v : V} {w : List Nat} (h : TrAt H v (.s w)) : v = .str (S w) := by
  cases h with
  | s w => rfl
theorem TrAt.two {H : Hp} {v : V} {k : List Nat} {t : Tr} (h : TrAt H v (.n [.s k, t])) : ∃ a y, v = .ref a ∧ H a = some (.tup [.str (S k), y]) ∧ TrAt H y t := by
  obtain ⟨a, vs, rfl, h1, h2, h3⟩ := h.inv_n
  match vs, h2 with
  | [x, y], _ =>
    have e1 := (h3 0 x (.s k) rfl rfl).inv_s
    subst e1
    exact ⟨a, y, rfl, h1, h3 1 y t rfl rfl⟩
theorem TrAt.mk2 {H : Hp} {a : Addr} {k : List Nat} {y : V} {t : Tr} (h : H a = some (.tup [.str (S k), y])) (hy : TrAt H y t) : TrAt H (.ref a) (.n [.s k, t]) := by
  refine .n h rfl fun i u t' hu ht => ?_
  match i, hu, ht with
  | 0, hu, ht => cases hu; cases ht; exact .s k
  | 1, hu, ht => cases hu; cases ht; exact hy
theorem nNT : wName ≠ wText := by decide
theorem nRT : wRun ≠ wText := by decide
theorem merge_nil (p : Tr) : merge [] p = [p] := rfl
theorem merge_tx (rows : List Tr) (u w : List Nat) : merge (rows ++ [tx u]) (tx w) = rows ++ [tx (u ++ w)] := by
  unfold merge
  rw [List.getLast?_concat]
  show (if wText = wText ∧ wText = wText then (rows ++ [tx u]).dropLast ++ [tx (u ++ w)] else _) = _
  rw [if_pos ⟨rfl, rfl⟩, List.dropLast_concat]
theorem merge_no {rows : List Tr} {q p : Tr} (hq : IsPc q) (hp : IsPc p) (h : (∀ w, p ≠ tx w) ∨ ∀ w, q ≠ tx w) : merge (rows ++ [q]) p = rows ++ [q] ++ [p] := by
  unfold merge
  rw [List.getLast?_concat]
  rcases hp with ⟨w, rfl⟩ | ⟨w, rfl⟩ | ⟨cs, rfl⟩
  · rcases hq with ⟨u, rfl⟩ | ⟨u, rfl⟩ | ⟨ds, rfl⟩
    · rcases h with h | h
      · exact absurd rfl (h w)
      · exact absurd rfl (h u)
    · show (if wName = wText ∧ wText = wText then _ else _) = _
      rw [if_neg fun z => nNT z.1]
    · rfl
  · rcases hq with ⟨u, rfl⟩ | ⟨u, rfl⟩ | ⟨ds, rfl⟩
    · show (if wText = wText ∧ wName = wText then _ else _) = _
      rw [if_neg fun z => nNT z.2]
    · show (if wName = wText ∧ wName = wText then _ else _) = _
      rw [if_neg fun z => nNT z.2]
    · rfl
  · rcases hq with ⟨u, rfl⟩ | ⟨u, rfl⟩ | ⟨ds, rfl⟩
    · rfl
    · rfl
    · rfl
/-- a piece with a text of at most so many signs -/
def PcLe (k : Nat) (t : Tr) : Prop := IsPc t ∧ ∀ w, t = tx w → w.length ≤ k
theorem tx_inj {u w : List Nat} (h : tx u = tx w) : u = w := by
  unfold tx at h
  injection h with h
  injection h with _ h
  injection h with h _
  injection h
theorem nm_tx {u w : List Nat} : nm u ≠ tx w := fun h => by
  unfold nm tx at h
  injection h with h
  injection h with h _
  injection h with h
  exact nNT h
theorem rn_tx {cs : List Tr} {w : List Nat} : rn cs ≠ tx w := fun h => by
  unfold rn tx at h
  injection h with h
  injection h with h _
  injection h with h
  exact nRT h
/-- a piece as it stands -/
theorem pc_at {H : Hp} {v : V} {t : Tr} (h : TrAt H v t) (hp : IsPc t) : ∃ a k y, v = .ref a ∧ H a = some (.tup [.str (S k), y]) ∧ ((k = wText ∧ ∃ w, t = tx w ∧ y = .str (S w)) ∨ (k ≠ wText ∧ ∀ w, t ≠ tx w)) := by
  rcases hp with ⟨w, rfl⟩ | ⟨w, rfl⟩ | ⟨cs, rfl⟩
  · obtain ⟨a, y, h1, h2, h3⟩ := TrAt.two h
    exact ⟨a, wText, y, h1, h2, .inl ⟨rfl, w, rfl, h3.inv_s⟩⟩
  · obtain ⟨a, y, h1, h2, h3⟩ := TrAt.two h
    exact ⟨a, wName, y, h1, h2, .inr ⟨nNT, fun _ => nm_tx⟩⟩
  · obtain ⟨a, y, h1, h2, h3⟩ := TrAt.two h
    exact ⟨a, wRun, y, h1, h2, .inr ⟨nRT, fun _ => rn_tx⟩⟩
/-- the same piece told anew -/
theorem pc_new {H : Hp} {v : V} {t : Tr} {a b : Addr} {k : List Nat} {y : V} (h : TrAt H v t) (hv : v = .ref a) (ha : H a = some (.tup [.str (S k), y])) (hp : IsPc t) (hb : H b = some (.tup [.str (S k), y])) : TrAt H (.ref b) t := by
  subst hv
  have key : ∀ {k' : List Nat} {t' : Tr}, TrAt H (.ref a) (.n [.s k', t']) → TrAt H (.ref b) (.n [.s k', t']) := fun {k' t'} h => by
    obtain ⟨a', y', e, h2, h3⟩ := TrAt.two h
    cases e
    rw [ha] at h2
    injection h2 with h2
    injection h2 with h2
    injection h2 with h4 h5
    injection h5 with h5 _
    rw [h4, h5] at hb
    exact TrAt.mk2 hb h3
  rcases hp with ⟨w, rfl⟩ | ⟨w, rfl⟩ | ⟨cs, rfl⟩
  · exact key h
  · exact key h
  · exact key h
def spJoined : Sp := fun vs H Q _ => ∃ (a : Addr) (us : List V) (ps : List Tr), vs = [.ref a] ∧ H a = some (.lst us) ∧ TrsAt H us ps ∧ (∀ t ∈ ps, PcLe 1000 t) ∧ ps.length ≤ 1000 ∧ ∀ (p : Addr) H', Same H H' → TrAt H' (.ref p) (.n (joinP ps)) → Q (.ref p) H'
theorem joinP_snoc (ps : List Tr) (p : Tr) : joinP (ps ++ [p]) = merge (joinP ps) p := by
  unfold joinP
  rw [List.foldl_append]
  rfl
theorem snoc_or_nil {α : Type} (l : List α) : l = [] ∨ ∃ r x, l = r ++ [x] := by
  cases h : l.getLast? with
  | none => exact .inl (List.getLast?_eq_none_iff.mp h)
  | some x =>
    obtain ⟨r, e⟩ := List.getLast?_eq_some_iff.mp h
    exact .inr ⟨r, x, e⟩
theorem name_cases (r : List Nat) : nameOf r = (let br := decide (r.head? = some 123); let q := if br then r.tail else r; if 1 ≤ (q.takeWhile low).length ∧ (q.takeWhile low).length ≤ 8 then (if br then (match q.dropWhile low with | 125 :: r' => some (q.takeWhile low, r') | _ => none) else some (q.takeWhile low, q.dropWhile low)) else none) := by
  cases r with
  | nil => rfl
  | cons c r =>
    by_cases h : c = 123
    · subst h; rfl
    · have hb : decide ((c :: r).head? = some 123) = false := decide_eq_false (fun z => h (Option.some.inj z))
      simp only [hb]
      unfold nameOf
      split
      · rename_i e; cases e; exact absurd rfl h
      · rfl
theorem name_parts (r : List Nat) (br : Bool) (hbr : br = decide (r.take 1 = [123])) (q : List Nat) (hq : q = r.drop (if br then 1 else 0)) :
    (((1 ≤ (q.takeWhile low).length ∧ (q.takeWhile low).length ≤ 8) ∧ (br = true → (q.dropWhile low).take 1 = [125])) → nameOf r = some (q.takeWhile low, (q.dropWhile low).drop (if br then 1 else 0))) ∧
    (¬ ((1 ≤ (q.takeWhile low).length ∧ (q.takeWhile low).length ≤ 8) ∧ (br = true → (q.dropWhile low).take 1 = [125])) → nameOf r = none) := by
  have hb2 : decide (r.head? = some 123) = br := by
    rw [hbr]
    cases r with
    | nil => rfl
    | cons c r =>
      show decide (some c = some 123) = decide ([c] = [123])
      by_cases h : c = 123
      · subst h; rfl
      · rw [decide_eq_false (fun z => h (Option.some.inj z)), decide_eq_false (fun z => h (List.head_eq_of_cons_eq z))]
  rw [name_cases]
  simp only [hb2]
  cases br with
  | false =>
    have hq' : q = r := hq
    subst hq'
    constructor
    · rintro ⟨h, _⟩
      simp only [Bool.false_eq_true, if_false, if_pos h]
      rfl
    · intro h
      have h' : ¬ (1 ≤ (q.takeWhile low).length ∧ (q.takeWhile low).length ≤ 8) := fun z => h ⟨z, fun y => by cases y⟩
      simp only [Bool.false_eq_true, if_false, if_neg h']
  | true =>
    have hq' : q = r.tail := by rw [hq]; exact List.drop_one
    rw [← hq']
    constructor
    · rintro ⟨h, h2⟩
      have h3 := h2 rfl
      simp only [if_true, if_pos h]
      cases hd : q.dropWhile low with
      | nil => rw [hd] at h3; cases h3
      | cons c t =>
        rw [hd] at h3
        have : c = 125 := List.head_eq_of_cons_eq h3
        subst this
        rfl
    · intro h
      simp only [if_true]
      by_cases h1 : 1 ≤ (q.takeWhile low).length ∧ (q.takeWhile low).length ≤ 8
      · rw [if_pos h1]
        cases hd : q.dropWhile low with
        | nil => rfl
        | cons c t =>
          by_cases hc : c = 125
          · subst hc
            exact absurd ⟨h1, fun _ => by rw [hd]; rfl⟩ h
          · split
            · rename_i e; cases e; exact absurd rfl hc
            · rfl
      · rw [if_neg h1]
end My
namespace My
open PySem L2 SX C8
section
variable {P : Program} {w : World} {K : PySem.W.Frag} {mg : Str → Option Value} {base : Heap} {C : Addr}
theorem ok_joined {f : Addr} {fd : FuncData} (F : Def K mg "joined" s_joined f fd) (b : Binds K fd ["pieces"] []) (T : Txt mg) : Cal P w K mg base 1 "joined" spJoined [] := by
  refine cal0 F b .nil sc_joined (fun vs H Q E h => ?_) (fun cdv A outer s H vs Q E hr h => ?_)
  · obtain ⟨a, us, ps, rfl, _⟩ := h
    rfl
  obtain ⟨a, us, ps, rfl, ha, hT, hpc, hlen, q⟩ := h
  refine ⟨_, pss_cons (ps_set (i := 1) sc_joined.nd rfl (Or.inl rfl) (pe_lst pa_nil))
    (pss_cons (ps_for PassesOwn.never rfl (pi_list (pv 0)) (pg_tup rfl (pgs_cons (pg_name (i := 2) sc_joined.nd rfl (Or.inl rfl)) (pgs_cons (pg_name (i := 3) sc_joined.nd rfl (Or.inl rfl)) pgs_nil)))
      (pss_one (ps_if (PW.pt (pw_and (pt_cmpR op_eq (pv 2) pe_str (nomark _)) (pw_and (pt_truth (pv 1) (fun _ => rfl)) (pw_and1 (pt_cmpR op_eq (pe_ix ix_seq (pe_ix ix_list (pv 1) (pe_un un_neg pe_int) (fun _ _ => rfl)) pe_int (fun _ _ => rfl)) pe_str (nomark _))))))
        (pss_one (ps_asg (pe_tup (pa_cons pe_str (pa_cons (pe_op op_add_str (pe_ix ix_seq (pe_ix ix_list (pv 1) (pe_un un_neg pe_int) (fun _ _ => rfl)) pe_int (fun _ _ => rfl)) (pv 3)) pa_nil))) (pg_sub (pv 1) (pe_un un_neg pe_int) set_list)))
        (pss_one (ps_expr (pe_bm PySem.F.plainAttrs_list PySem.F.slot_list_append PySem.F.type_list_append mt_append (pv 1) (pa_cons (pe_tup (pa_cons (pv 2) (pa_cons (pv 3) pa_nil))) pa_nil)))))))
    (pss_one (ps_ret (pe_callTy call_tuple_of (by rfl) T.tuple (by decide +kernel) (pa_cons (pv 1) pa_nil))))), ?_⟩
  refine ⟨(by show 0 ≤ sizeLine; decide), fun r0 hr0 => ?_⟩
  have nar : a ≠ r0 := ne_of_none ha hr0
  have hlu := hT.1
  refine ⟨_, rfl, a, rfl, ⟨us, SqL.of (by rw [upd_ne nar]; exact ha)⟩, for_list (K := K) (a := a) (xs := us) (fun i σ H2 => ∃ x y rv, σ = [some (.ref a), some (.ref r0), x, y] ∧ Same H H2 ∧ H2 r0 = some (.lst rv) ∧ TrsAt H2 rv (joinP (ps.take i)) ∧ (∀ t ∈ joinP (ps.take i), PcLe (1000 * (i + 1)) t) ∧ rv.length ≤ i)
    ⟨none, none, [], rfl, same_new hr0 _, upd_same, TrsAt.nil _, by simp [joinP], Nat.le_refl _⟩ (fun _ _ _ _ ⟨_, _, _, _, h, _⟩ => SqL.of (h _ _ ha)) ?_ ?_⟩
  · rintro i v σ H2 hi ⟨x0, y0, rv, rfl, hs, hd, hR, hB, hl2⟩
    have hi1 : i < ps.length := by have := (List.getElem?_eq_some_iff.mp hi).1; omega
    have hpi : ps[i]? = some ps[i] := List.getElem?_eq_getElem hi1
    have hvp := (hT.2 i v _ hi hpi).mono (Same.tups hs)
    have hpp := hpc _ (List.mem_of_getElem? hpi)
    obtain ⟨pa, k, y, rfl, hpa, hk⟩ := pc_at hvp hpp.1
    have etake : joinP (ps.take (i + 1)) = merge (joinP (ps.take i)) ps[i] := by
      rw [List.take_add_one, hpi]
      exact joinP_snoc _ _
    -- the piece is appended
    have app : merge (joinP (ps.take i)) ps[i] = joinP (ps.take i) ++ [ps[i]] → ∀ H3, Same H2 H3 → ∀ t, H3 t = none → ∃ (x' y' : Option V) (rv' : List V), [some (V.ref a), some (.ref r0), some (.str (S k)), some y] = [some (.ref a), some (.ref r0), x', y'] ∧ Same H (upd (upd H3 t (.tup [.str (S k), y])) r0 (.lst (rv ++ [.ref t]))) ∧ (upd (upd H3 t (.tup [.str (S k), y])) r0 (.lst (rv ++ [.ref t]))) r0 = some (.lst rv') ∧
        TrsAt (upd (upd H3 t (.tup [.str (S k), y])) r0 (.lst (rv ++ [.ref t]))) rv' (joinP (ps.take (i + 1))) ∧ (∀ t ∈ joinP (ps.take (i + 1)), PcLe (1000 * (i + 1 + 1)) t) ∧ rv'.length ≤ i + 1 := fun em H3 s3 t ht => by
      have s4 := s3.trans (same_new ht (HO.tup [.str (S k), y]))
      have u5 : Tups (upd H3 t (.tup [.str (S k), y])) (upd (upd H3 t (.tup [.str (S k), y])) r0 (.lst (rv ++ [.ref t]))) := Tups.upd fun xs e => by rw [s4 _ _ hd] at e; cases e
      refine ⟨_, _, _, rfl, same_mut (hs.trans s4) hr0, upd_same, ?_, ?_, by simp; omega⟩
      · rw [etake, em]
        exact ((hR.mono (Same.tups s4)).mono u5).snoc ((pc_new (hvp.mono (Same.tups s4)) rfl (s4 _ _ hpa) hpp.1 upd_same).mono u5)
      · rw [etake, em]
        intro t' ht'
        rcases List.mem_append.mp ht' with h | h
        · exact ⟨(hB t' h).1, fun w e => Nat.le_trans ((hB t' h).2 w e) (by omega)⟩
        · rw [List.mem_singleton.mp h]
          exact ⟨hpp.1, fun w e => Nat.le_trans (hpp.2 w e) (by omega)⟩
    have small : rv.length < sizeLine := Nat.lt_of_le_of_lt (show _ ≤ 2000 by omega) (by decide)
    refine ⟨pa, _, rfl, SqT.of hpa, rfl, .str (S k), [y], rfl, y, [], rfl, rfl, ?_⟩
    refine ⟨_, rfl, rfl, _, rfl, ite_S lit_text (fun ek => ?_) (fun nk => ?_)⟩
    · subst ek
      obtain ⟨w, ew, rfl⟩ : ∃ w, ps[i] = tx w ∧ y = .str (S w) := by
        rcases hk with ⟨_, w, h1, h2⟩ | ⟨h, _⟩
        · exact ⟨w, h1, h2⟩
        · exact absurd rfl h
      rcases snoc_or_nil rv with rfl | ⟨r, lv, rfl⟩
      · refine ⟨_, rfl, false, .inl ⟨_, SqL.of hd, rfl⟩, ?_⟩
        have e0 : joinP (ps.take i) = [] := List.length_eq_zero_iff.mp hR.1.symm
        refine iteF (iteF ⟨_, rfl, .inl ⟨rfl, _, SqL.of hd⟩, _, rfl, _, rfl, (by show 2 ≤ sizeLine; decide), fun t ht => ?_⟩)
        exact ⟨r0, _, _, rfl, rfl, (by rw [upd_ne (ne_of_none hd ht)]; exact hd), small, app (by rw [e0]; rfl) H2 (Same.refl _) t ht⟩
      · have hne : joinP (ps.take i) ≠ [] := fun z => by rw [z] at hR; have := hR.1; simp at this
        obtain ⟨jr, q0, ej⟩ : ∃ jr q0, joinP (ps.take i) = jr ++ [q0] := by
          rcases snoc_or_nil (joinP (ps.take i)) with h | h
          · exact absurd h hne
          · exact h
        have hlj : r.length = jr.length := by have := hR.1; rw [ej] at this; simp at this; omega
        have hq0 : TrAt H2 lv q0 := hR.2 r.length lv q0 (by simp) (by rw [ej, hlj]; simp)
        have hB0 := hB q0 (by rw [ej]; simp)
        obtain ⟨qa, k0, y0, rfl, hqa, hk0⟩ := pc_at hq0 hB0.1
        have hlast : atI (r ++ [V.ref qa]) (-1) = some (.ref qa) := atI_last _ _
        refine ⟨_, rfl, true, .inl ⟨_, SqL.of hd, by simp⟩, iteT ?_⟩
        refine ⟨_, rfl, _, rfl, _, _, _, _, rfl, rfl, SqL.of hd, hlast, .inr (.inl ⟨_, _, _, _, rfl, rfl, SqT.of hqa, rfl, rfl, _, rfl, ite_S lit_text (fun ek0 => ?_) (fun nk0 => ?_)⟩)⟩
        · subst ek0
          obtain ⟨u, eu, rfl⟩ : ∃ u, q0 = tx u ∧ y0 = .str (S u) := by
            rcases hk0 with ⟨_, u, h1, h2⟩ | ⟨h, _⟩
            · exact ⟨u, h1, h2⟩
            · exact absurd rfl h
          have lu := hB0.2 u eu
          have lw := hpp.2 w ew
          refine ⟨_, rfl, _, rfl, _, _, _, _, rfl, rfl, SqL.of hd, hlast, .inr (.inl ⟨_, _, _, _, rfl, rfl, SqT.of hqa, rfl, _, rfl, _, _, rfl, rfl, ?_, (by show 2 ≤ sizeLine; decide), fun t ht => ?_⟩)⟩
          · rw [S_len, S_len]
            exact Nat.le_trans (show _ ≤ 2000000 by omega) (by decide)
          · rw [S_cat, lit_text]
            have s4 := same_new ht (HO.tup [.str (S wText), .str (S (u ++ w))])
            have hix : ixN (r ++ [V.ref qa]).length (-1) = some r.length := by
              unfold ixN
              rw [if_neg (by decide), if_pos (by simp; omega)]
              congr 1
              simp
              omega
            refine ⟨_, rfl, _, rfl, r0, _, _, r.length, rfl, rfl, s4 _ _ hd, hix, ?_⟩
            have u5 : Tups (upd H2 t (.tup [.str (S wText), .str (S (u ++ w))])) (upd (upd H2 t (.tup [.str (S wText), .str (S (u ++ w))])) r0 (.lst ((r ++ [V.ref qa]).set r.length (.ref t)))) := Tups.upd fun xs e => by rw [s4 _ _ hd] at e; cases e
            have eset : (r ++ [V.ref qa]).set r.length (.ref t) = r ++ [.ref t] := by simp
            have emer : joinP (ps.take (i + 1)) = jr ++ [tx (u ++ w)] := by rw [etake, ej, eu, ew, merge_tx]
            refine ⟨_, _, _, rfl, same_mut (hs.trans s4) hr0, upd_same, ?_, ?_, by simp at hl2 ⊢; omega⟩
            · rw [eset, emer]
              rw [eset] at u5
              have hRr : TrsAt H2 r jr := ⟨hlj, fun j v' t' hv' ht' => hR.2 j v' t' (by rw [List.getElem?_append_left (List.getElem?_eq_some_iff.mp hv').1]; exact hv') (by rw [ej, List.getElem?_append_left (List.getElem?_eq_some_iff.mp ht').1]; exact ht')⟩
              exact ((hRr.mono (Same.tups s4)).mono u5).snoc ((TrAt.mk2 upd_same (.s _)).mono u5)
            · rw [emer]
              intro t' ht'
              rcases List.mem_append.mp ht' with h | h
              · have := hB t' (by rw [ej]; exact List.mem_append_left _ h)
                exact ⟨this.1, fun w e => Nat.le_trans (this.2 w e) (by omega)⟩
              · rw [List.mem_singleton.mp h]
                refine ⟨.inl ⟨_, rfl⟩, fun w' e => ?_⟩
                rw [← tx_inj e, List.length_append]
                omega
        · have nq : ∀ w, q0 ≠ tx w := by
            rcases hk0 with ⟨h, _⟩ | ⟨_, h⟩
            · exact absurd h nk0
            · exact h
          refine ⟨_, rfl, .inl ⟨rfl, _, SqL.of hd⟩, _, rfl, _, rfl, (by show 2 ≤ sizeLine; decide), fun t ht => ?_⟩
          exact ⟨r0, _, _, rfl, rfl, (by rw [upd_ne (ne_of_none hd ht)]; exact hd), small, app (by rw [ej]; exact merge_no hB0.1 hpp.1 (.inr nq)) H2 (Same.refl _) t ht⟩
    · have np : ∀ w, ps[i] ≠ tx w := by
        rcases hk with ⟨h, _⟩ | ⟨_, h⟩
        · exact absurd h nk
        · exact h
      refine iteF ⟨_, rfl, .inl ⟨rfl, _, SqL.of hd⟩, _, rfl, _, rfl, (by show 2 ≤ sizeLine; decide), fun t ht => ?_⟩
      refine ⟨r0, _, _, rfl, rfl, (by rw [upd_ne (ne_of_none hd ht)]; exact hd), small, app ?_ H2 (Same.refl _) t ht⟩
      rcases snoc_or_nil (joinP (ps.take i)) with e0 | ⟨jr, q0, ej⟩
      · rw [e0]; rfl
      · rw [ej]
        exact merge_no (hB q0 (by rw [ej]; simp)).1 hpp.1 (.inl np)
  · rintro σ H2 ⟨x0, y0, rv, rfl, hs, hd, hR, hB, hl2⟩
    refine ⟨_, rfl, r0, _, rfl, .inl ⟨SqL.of hd, fun t ht => ?_⟩⟩
    have et : ps.take us.length = ps := by rw [hlu]; exact List.take_length
    rw [et] at hR
    have s4 := same_new ht (HO.tup rv)
    exact q t _ (hs.trans s4) (TrsAt.tup upd_same (hR.mono (Same.tups s4)))
end
end My
namespace My
open PySem L2 SX C8
/-- how a reading goes on: behind it the Reader stands at j, s signs on at least, or an error of the class at CB tells the place -/
def Goes (C CB : Addr) (s : Nat) (Val : Hp → V → List Tr → Prop) (p : Addr) (l : List Nat) (i w : Nat) (H : Hp) (Q : VK) (E : XK) : Out → Prop
  | .ok ts r => ∀ (v : V) (j : Nat) H', But p H H' → RdAt C H' p l j w → l.drop j = r → i + s ≤ j → Val H' v ts → Q v H'
  | .er k => ∀ (d : Addr) H', But p H H' → H' d = some (.xd [("place", .int ((l.length - k : Nat) : Int))]) → E (.ref CB) (some d) H'
/-- the promise of a method that reads, where 12 - m runs at least are around it -/
def spRd (C CB : Addr) (D : Nat → List Nat → Out → Prop) (s : Nat) (Val : Hp → V → List Tr → Prop) (m : Nat) : Sp := fun vs H Q E => ∃ (p : Addr) (l : List Nat) (i w : Nat) (o : Out), vs = [.ref p] ∧ RdAt C H p l i w ∧ 12 ≤ w + m ∧ D w (l.drop i) o ∧ Goes C CB s Val p l i w H Q E o
def ValS : Hp → V → List Tr → Prop := fun _ v ts => ∃ u, ts = [.s u] ∧ v = .str (S u)
def ValP : Hp → V → List Tr → Prop := fun H v ts => ∃ (a : Addr) (vs : List V), v = .ref a ∧ H a = some (.lst vs) ∧ TrsAt H vs ts ∧ (∀ t ∈ ts, PcLe 1000 t) ∧ ts.length ≤ 1000
def Val1 : Hp → V → List Tr → Prop := fun H v ts => ∃ t, ts = [t] ∧ TrAt H v t
def ValPc : Hp → V → List Tr → Prop := fun H v ts => ∃ t, ts = [t] ∧ TrAt H v t ∧ PcLe 1000 t
def ValT : Hp → V → List Tr → Prop := fun H v ts => TrAt H v (.n ts)
def ValL : Hp → V → List Tr → Prop := fun H v ts => ∃ (a : Addr) (vs : List V), v = .ref a ∧ H a = some (.lst vs) ∧ TrsAt H vs ts
def DTurn : Nat → List Nat → Out → Prop := fun _ r o => (∃ d r', r = 92 :: d :: r' ∧ o = .ok [.s [mean d]] r') ∨ (r = [92] ∧ o = .er 1)
def DName : Nat → List Nat → Out → Prop := fun _ r o => ∃ r1, r = 36 :: r1 ∧ ((∃ n r', nameOf r1 = some (n, r') ∧ o = .ok [.s n] r') ∨ (nameOf r1 = none ∧ o = .er (r1.length + 1)))
def DBrc : Nat → List Nat → Out → Prop := fun _ r o => ∃ r1, r = 123 :: r1 ∧ ((∃ e, pend 0 0 r = some e ∧ o = .ok (if e = 1 then [] else [tx (r1.take (e - 1))]) (r1.drop e)) ∨ (pend 0 0 r = none ∧ o = .er (r1.length + 1)))
theorem er_at {l : List Nat} {i k : Nat} (hi : i ≤ l.length) (h : (l.drop i).length = k) : ((l.length - k : Nat) : Int) = (i : Int) := by
  rw [List.length_drop] at h
  omega
theorem drop_tail {l r : List Nat} {i c : Nat} (h : l.drop i = c :: r) : i < l.length ∧ l.drop (i + 1) = r ∧ l[i]? = some c := by
  have hi : i < l.length := by
    have := congrArg List.length h
    rw [List.length_drop, List.length_cons] at this
    omega
  rw [List.drop_eq_getElem_cons hi] at h
  injection h with h1 h2
  exact ⟨hi, h2, by rw [List.getElem?_eq_getElem hi, h1]⟩
theorem lit_dollar : (Str.ofString "$") = S [36] := by decide +kernel
theorem lit_q : (Str.ofString "\"") = S [34] := by decide +kernel
theorem lit_op : (Str.ofString "[") = S [91] := by decide +kernel
theorem starts3 (l : List Nat) (c i : Nat) : Txt.startswith3 (S l) (S [c]) (i : Int) = decide (l[i]? = some c) := by
  unfold Txt.startswith3
  have e : PySem.fromIndex (S l).length (i : Int) = i := by
    unfold PySem.fromIndex
    rw [if_neg (by omega)]
    omega
  rw [e, Bool.eq_iff_iff, Bool.and_eq_true, decide_eq_true_eq, decide_eq_true_eq]
  exact StrLaws.subAt_one (S l) c i
theorem head_dec (l : List Nat) (c i : Nat) : decide (l[i]? = some c) = match l.drop i with | [] => false | d :: _ => decide (d = c) := by
  by_cases h : i < l.length
  · rw [List.drop_eq_getElem_cons h, List.getElem?_eq_getElem h]
    simp
  · rw [List.drop_eq_nil_of_le (by omega), List.getElem?_eq_none (by omega)]
    simp
section
variable {P : Program} {w : World} {K : PySem.W.Frag} {mg : Str → Option Value} {base : Heap} {C CB : Addr}
theorem rd_put {H : Hp} {p : Addr} {l : List Nat} {i w j : Nat} {dx : Addr} {z : Int} (hl : l.length ≤ 1000) (hj : j ≤ l.length) (hz : z = (j : Int)) : RdAt C (upd H p (.ins C dx (putF "at" (.int z) (rf l i w)))) p l j w :=
  ⟨hl, hj, dx, by rw [upd_same, rf_putat l i w j hz]⟩
theorem told_but {H : Hp} {p : Addr} {H1 : Hp} {l : List Nat} {k i : Nat} {E : XK} (hi : i ≤ l.length) (hk : (l.drop i).length = k) (hb : But p H H1)
    (q : ∀ (d : Addr) H', But p H H' → H' d = some (.xd [("place", .int ((l.length - k : Nat) : Int))]) → E (.ref CB) (some d) H') : ∀ (d : Addr) H', Same H1 H' → H1 d = none → H' d = some (.xd [("place", .int (i : Int))]) → E (.ref CB) (some d) H' := fun d H' s n h =>
  q d H' (hb.trans (Same.but s)) (by rw [er_at hi hk]; exact h)
theorem okr_read_turned {f : Addr} {fd : FuncData} (R : RdC K mg C) (me : Meth K C "read_turned" f) (F : C8.Fun K "read_turned" "Reader.read_turned" s_Reader_read_turned f fd) (b : Binds K fd ["self"] []) (T : Txt mg) (x_BadScript : PlaceC P w K mg base "BadScript" CB) (c_meant : Cal P w K mg base 1 "meant" spMean []) (m : Nat) : MetX P w K mg base 3 C "read_turned" (spRd C CB DTurn 1 ValS m) := by
  refine metX R.cl me F b sc_Reader_read_turned (fun vs H Q E h => ?_) (fun cdv A outer s H vs Q E hr h => ?_)
  · obtain ⟨p, l, i, w, o, rfl, _⟩ := h
    rfl
  obtain ⟨p, l, i, w, o, rfl, hR, hm, hD, q⟩ := h
  obtain ⟨hl, hi, dx, hp⟩ := id hR
  refine ⟨_, pss_cons (ps_set (i := 1) sc_Reader_read_turned.nd rfl (Or.inl rfl) (pe_op op_add (pe_fld (pv 0) rfl) pe_int))
    (pss_cons (ps_if (pt_cmpR op_eq (pv 1) (pe_callB call_len (by rfl) T.len (by decide +kernel) (pa_cons (pe_fld (pv 0) rfl) pa_nil)) (nomark _))
      (pss_one (ps_place rfl x_BadScript hr (by first | decide | assumption | omega) (takes_of rfl rfl rfl rfl) rfl (pe_fld (pv 0) rfl)))
      (pss_nil))
    (pss_cons (ps_fld (pv 0) (pe_op op_add (pv 1) pe_int) rfl)
    (pss_one (ps_ret (pe_c c_meant hr (by first | decide | assumption | omega) rfl (pa_cons (pe_ix ix_str (pe_fld (pv 0) rfl) (pv 1) (fun _ _ => rfl)) pa_nil)))))), ?_⟩
  have hz : (S l).length ≤ sizeLine := size_S (by omega)
  refine ⟨_, rfl, p, C, dx, _, _, rfl, hp, R.cl, R.nA, rf_at _ _ _, _, _, rfl, rfl, ?_⟩
  refine ⟨_, rfl, _, rfl, p, C, dx, _, _, rfl, hp, R.cl, R.nS, rf_src _ _ _, _, _, rfl, ⟨hz, rfl⟩, rfl, _, rfl, iteI (fun e => ?_) (fun ne => ?_)⟩
  · rw [S_len] at e
    rcases hD with ⟨d, r', e1, rfl⟩ | ⟨e1, rfl⟩
    · have := congrArg List.length e1
      rw [List.length_drop] at this
      simp at this
      omega
    · refine ⟨_, rfl, p, C, dx, _, _, rfl, hp, R.cl, R.nA, rf_at _ _ _, ?_⟩
      exact place_ok (told_but hi (by rw [e1]; rfl) (But.refl p H) q)
  · rw [S_len] at ne
    rcases hD with ⟨d, r', e1, rfl⟩ | ⟨e1, rfl⟩
    · obtain ⟨h1, h2, h3⟩ := drop_tail e1
      obtain ⟨h4, h5, h6⟩ := drop_tail h2
      have ei : ((i : Int) + 1) = ((i + 1 : Nat) : Int) := by omega
      refine ⟨_, rfl, _, _, rfl, rfl, _, rfl, p, C, dx, _, rfl, hp, R.cl, R.nA, (by show 3 < 1000; decide), ?_⟩
      have hR2 : RdAt C (upd H p (.ins C dx (putF "at" (.int ((i : Int) + 1 + 1)) (rf l i w)))) p l (i + 1 + 1) w := rd_put hl (by omega) (by omega)
      obtain ⟨_, _, dx2, hp2⟩ := id hR2
      refine ⟨_, rfl, p, C, dx2, _, _, rfl, hp2, R.cl, R.nS, rf_src _ _ _, _, rfl, _, _, _, rfl, rfl, hz, ?_, d, rfl, ?_⟩
      · show atI (S l).cps.toList ((i : Int) + 1) = some d
        rw [ei]
        exact at_S h6
      · exact q _ (i + 1 + 1) _ (but_upd (But.refl p H)) hR2 h5 (by omega) ⟨_, rfl, rfl⟩
    · have := congrArg List.length e1
      rw [List.length_drop] at this
      simp at this
      omega
theorem okr_read_braced {f : Addr} {fd : FuncData} (R : RdC K mg C) (me : Meth K C "read_braced" f) (F : C8.Fun K "read_braced" "Reader.read_braced" s_Reader_read_braced f fd) (b : Binds K fd ["self"] []) (T : Txt mg) (x_BadScript : PlaceC P w K mg base "BadScript" CB) (c_pair_end : Cal P w K mg base 1 "pair_end" spPend []) (m : Nat) : MetX P w K mg base 3 C "read_braced" (spRd C CB DBrc 1 ValP m) := by
  refine metX R.cl me F b sc_Reader_read_braced (fun vs H Q E h => ?_) (fun cdv A outer s H vs Q E hr h => ?_)
  · obtain ⟨p, l, i, w, o, rfl, _⟩ := h
    rfl
  obtain ⟨p, l, i, w, o, rfl, hR, hm, hD, q⟩ := h
  obtain ⟨hl, hi, dx, hp⟩ := id hR
  refine ⟨_, pss_cons (ps_set (i := 1) sc_Reader_read_braced.nd rfl (Or.inl rfl) (pe_fld (pv 0) rfl))
    (pss_cons (ps_set (i := 2) sc_Reader_read_braced.nd rfl (Or.inl rfl) (pe_c c_pair_end hr (by first | decide | assumption | omega) rfl (pa_cons (pe_fld (pv 0) rfl) (pa_cons (pv 1) pa_nil))))
    (pss_cons (ps_if (pt_cmpR op_isN (pv 2) pe_non (nomark _))
      (pss_one (ps_place rfl x_BadScript hr (by first | decide | assumption | omega) (takes_of rfl rfl rfl rfl) rfl (pv 1)))
      (pss_nil))
    (pss_cons (ps_fld (pv 0) (pe_op op_add (pv 2) pe_int) rfl)
    (pss_cons (ps_if (pt_cmpR op_eq (pv 2) (pe_op op_add (pv 1) pe_int) (nomark _))
      (pss_one (ps_ret (pe_lst pa_nil)))
      (pss_nil))
    (pss_one (ps_ret (pe_lst (pa_cons (pe_tup (pa_cons pe_str (pa_cons (pe_slice sl_str (pe_fld (pv 0) rfl) (po_some (pe_op op_add (pv 1) pe_int)) (po_some (pv 2))) pa_nil))) pa_nil)))))))), ?_⟩
  have hz : (S l).length ≤ sizeLine := size_S (by omega)
  refine ⟨_, rfl, p, C, dx, _, _, rfl, hp, R.cl, R.nA, rf_at _ _ _, ?_⟩
  refine ⟨_, rfl, p, C, dx, _, _, rfl, hp, R.cl, R.nS, rf_src _ _ _, _, rfl, l, i, rfl, by omega, hi, ?_⟩
  obtain ⟨r1, e1, ⟨e, he, rfl⟩ | ⟨he, rfl⟩⟩ := hD
  · have hlt := pend_lt _ _ _ _ he
    have he1 : 1 ≤ e := by
      rw [e1] at he
      have := (pend_lt r1 (0 + 1) (0 + 1) e he).1
      omega
    rw [List.length_drop] at hlt
    obtain ⟨h1, h2, h3⟩ := drop_tail e1
    rw [pend_i he]
    refine ⟨_, rfl, rfl, _, rfl, iteF ?_⟩
    refine ⟨_, rfl, _, _, rfl, rfl, _, rfl, p, C, dx, _, rfl, hp, R.cl, R.nA, (by show 3 < 1000; decide), ?_⟩
    have hR2 : RdAt C (upd H p (.ins C dx (putF "at" (.int (((i + e : Nat) : Int) + 1)) (rf l i w)))) p l (i + (e + 1)) w := rd_put hl (by omega) (by omega)
    obtain ⟨_, _, dx2, hp2⟩ := id hR2
    have hdr : l.drop (i + (e + 1)) = r1.drop e := by rw [← h2, List.drop_drop]; congr 1; omega
    refine ⟨_, rfl, _, rfl, _, _, rfl, rfl, rfl, _, rfl, iteI (fun ee => ?_) (fun ne => ?_)⟩
    · have e11 : e = 1 := by omega
      subst e11
      refine ⟨(by show 0 ≤ sizeLine; decide), fun a ha => ?_⟩
      have sa := same_new ha (HO.lst [])
      refine q _ _ _ ((but_upd (But.refl p H)).trans (Same.but sa)) ⟨hl, by omega, dx2, sa _ _ hp2⟩ hdr (by omega) ?_
      rw [if_pos rfl]
      exact ⟨a, [], rfl, upd_same, TrsAt.nil _, by simp, by decide⟩
    · have e11 : e ≠ 1 := by omega
      have ei : ((i : Int) + 1) = ((i + 1 : Nat) : Int) := by omega
      refine ⟨_, rfl, p, C, dx2, _, _, rfl, hp2, R.cl, R.nS, rf_src _ _ _, _, rfl, _, _, rfl, rfl, _, rfl, _, rfl, _, rfl, _, rfl, hz, (by show 2 ≤ sizeLine; decide), fun t ht => ⟨(by show 1 ≤ sizeLine; decide), fun a ha => ?_⟩⟩
      rw [ei, slice_nn l (i + 1) (i + e) (by omega) (by omega), h2, lit_text, show i + e - (i + 1) = e - 1 by omega]
      have st := same_new ht (HO.tup [.str (Str.ofString "text"), .str (cutS (S l) (some ((i : Int) + 1)) (some ((i + e : Nat) : Int)))])
      rw [ei, slice_nn l (i + 1) (i + e) (by omega) (by omega), h2, lit_text, show i + e - (i + 1) = e - 1 by omega] at st
      have sa := same_new (H := upd (upd H p (.ins C dx (putF "at" (.int (((i + e : Nat) : Int) + 1)) (rf l i w)))) t (.tup [.str (S wText), .str (S (r1.take (e - 1)))])) (p := a) (by rw [← ha]; rw [ei, slice_nn l (i + 1) (i + e) (by omega) (by omega), h2, lit_text, show i + e - (i + 1) = e - 1 by omega]) (HO.lst [.ref t])
      refine q _ _ _ ((but_upd (But.refl p H)).trans (Same.but (st.trans sa))) ⟨hl, by omega, dx2, sa _ _ (st _ _ hp2)⟩ hdr (by omega) ?_
      rw [if_neg e11]
      refine ⟨a, [.ref t], rfl, upd_same, (TrsAt.nil _).snoc ((TrAt.mk2 upd_same (.s _)).mono (Same.tups sa)), ?_, (by show 1 ≤ 1000; decide)⟩
      intro t' ht'
      rw [List.mem_singleton.mp ht']
      refine ⟨.inl ⟨_, rfl⟩, fun w' ew => ?_⟩
      rw [← tx_inj ew, List.length_take]
      have := congrArg List.length e1
      rw [List.length_drop, List.length_cons] at this
      omega
  · have hpn : pend 0 i (l.drop i) = none := by
      have := pend_shift (l.drop i) 0 0 i
      rw [Nat.zero_add, he] at this
      exact this
    rw [hpn]
    refine ⟨_, rfl, rfl, _, rfl, iteT ⟨_, rfl, ?_⟩⟩
    exact place_ok (told_but hi (by rw [e1]; rfl) (But.refl p H) q)
theorem nameOf_no {r : List Nat} (h : ∀ q, r ≠ 123 :: q) : nameOf r = if 1 ≤ (r.takeWhile low).length ∧ (r.takeWhile low).length ≤ 8 then some (r.takeWhile low, r.dropWhile low) else none := by
  unfold nameOf
  split
  · rename_i q
    exact absurd rfl (h q)
  · rfl
theorem name_low (r : List Nat) : isName (r.takeWhile low) = (decide (1 ≤ (r.takeWhile low).length) && decide ((r.takeWhile low).length ≤ 8)) := by
  unfold isName
  have : (r.takeWhile low).all low = true := by
    induction r with
    | nil => rfl
    | cons c q ih =>
      rw [List.takeWhile_cons]
      cases hc : low c with
      | true => simp [ih, hc]
      | false => rfl
  rw [this, Bool.and_true]
theorem okr_read_name {f : Addr} {fd : FuncData} (R : RdC K mg C) (me : Meth K C "read_name" f) (F : C8.Fun K "read_name" "Reader.read_name" s_Reader_read_name f fd) (b : Binds K fd ["self"] []) (T : Txt mg) (x_BadScript : PlaceC P w K mg base "BadScript" CB) (c_read_letters : Met P w K mg base 2 C "read_letters" (spLetters C) []) (c_is_name : Cal P w K mg base 2 "is_name" spName []) (m : Nat) : MetX P w K mg base 3 C "read_name" (spRd C CB DName 1 ValS m) := by
  refine metX R.cl me F b sc_Reader_read_name (fun vs H Q E h => ?_) (fun cdv A outer s H vs Q E hr h => ?_)
  · obtain ⟨p, l, i, w, o, rfl, _⟩ := h
    rfl
  obtain ⟨p, l, i, w, o, rfl, hR, hm, hD, q⟩ := h
  obtain ⟨hl, hi, dx, hp⟩ := id hR
  refine ⟨_, pss_cons (ps_set (i := 1) sc_Reader_read_name.nd rfl (Or.inl rfl) (pe_fld (pv 0) rfl))
    (pss_cons (ps_fldaug (pv 0) pe_int in_add)
    (pss_cons (ps_set (i := 2) sc_Reader_read_name.nd rfl (Or.inl rfl) (pe_bm PySem.F.plainAttrs_str PySem.F.slot_str_startswith PySem.F.type_str_startswith mt_startswith3 (pe_fld (pv 0) rfl) (pa_cons pe_str (pa_cons (pe_fld (pv 0) rfl) pa_nil))))
    (pss_cut (ps_if (pt_val (pv 2))
      (pss_one (ps_fldaug (pv 0) pe_int in_add))
      (pss_nil))
    (pss_cons (ps_set (i := 3) sc_Reader_read_name.nd rfl (Or.inl rfl) (pe_mt0 c_read_letters hr (by first | decide | assumption | omega) (pv 0)))
    (pss_cons (ps_if (pt_not (pt_val (pe_c c_is_name hr (by first | decide | assumption | omega) rfl (pa_cons (pv 3) pa_nil))))
      (pss_one (ps_place rfl x_BadScript hr (by first | decide | assumption | omega) (takes_of rfl rfl rfl rfl) rfl (pv 1)))
      (pss_nil))
    (pss_cons (ps_if (pt_val (pv 2))
      (pss_cons (ps_if (pt_not (pt_val (pe_bm PySem.F.plainAttrs_str PySem.F.slot_str_startswith PySem.F.type_str_startswith mt_startswith3 (pe_fld (pv 0) rfl) (pa_cons pe_str (pa_cons (pe_fld (pv 0) rfl) pa_nil)))))
        (pss_one (ps_place rfl x_BadScript hr (by first | decide | assumption | omega) (takes_of rfl rfl rfl rfl) rfl (pv 1)))
        (pss_nil))
      (pss_one (ps_fldaug (pv 0) pe_int in_add)))
      (pss_nil))
    (pss_one (ps_ret (pv 3))))))))), ?_⟩
  have hz : (S l).length ≤ sizeLine := size_S (by omega)
  obtain ⟨r1, e1, hD⟩ := hD
  obtain ⟨h1, h2, h3⟩ := drop_tail e1
  have er : (l.drop i).length = r1.length + 1 := by rw [e1]; rfl
  refine ⟨_, rfl, p, C, dx, _, _, rfl, hp, R.cl, R.nA, rf_at _ _ _, ?_⟩
  refine ⟨_, rfl, p, C, dx, _, _, rfl, hp, R.cl, R.nA, rf_at _ _ _, _, _, rfl, rfl, dx, _, hp, (by show 3 < 1000; decide), ?_⟩
  have hR2 : RdAt C (upd H p (.ins C dx (putF "at" (.int ((i : Int) + 1)) (rf l i w)))) p l (i + 1) w := rd_step hl (by omega)
  obtain ⟨_, _, dx2, hp2⟩ := id hR2
  have bb := but_upd (b := p) (o := HO.ins C dx (putF "at" (.int ((i : Int) + 1)) (rf l i w))) (But.refl p H)
  refine ⟨_, rfl, p, C, dx2, _, _, rfl, hp2, R.cl, R.nS, rf_src _ _ _, rfl, _, rfl, p, C, dx2, _, _, rfl, hp2, R.cl, R.nA, rf_at _ _ _, _, _, _, rfl, rfl, ?_⟩
  rw [lit_ob, starts3]
  -- what is told in the end
  have last : ∀ (j : Nat) H3 (br : Bool), But p H H3 → RdAt C H3 p l j w → i + 1 ≤ j → l.drop j = (if br = true then r1.tail else r1).dropWhile low → (br = true → ∃ q, r1 = 123 :: q) → (br = false → ∀ q, r1 ≠ 123 :: q) →
      tSeq (tIfS (tNot (tB (tCall spName [] C8.E0 (tCons (tVar 3) tNil)))) (fun _ σ H => tMkO CB (spPlace CB) [] (tCons (tVar 1) tNil) σ H fun cls d H' => E cls d H') tNext)
        (tSeq (tIfS (tB (tVar 2)) (tSeq (tIfS (tNot (tB (tBM K "str" (fun x xs H Q => ∃ (a b : Str) (i : Int), x = .str a ∧ xs = [.str b, .int i] ∧ Q (.bl (Txt.startswith3 a b i)) H) (tFld K (tVar 0) "source") (tCons (tC (.str (Str.ofString "}"))) (tCons (tFld K (tVar 0) "at") tNil))))) (fun _ σ H => tMkO CB (spPlace CB) [] (tCons (tVar 1) tNil) σ H fun cls d H' => E cls d H') tNext) (sFldAug K (tVar 0) (tC (.int 1)) rAdd "at")) tNext)
          (tRet (tVar 3))) { nx := fun _ H' => Q .non H', rt := Q } [some (.ref p), some (.int (i : Int)), some (.bl br), some (.str (S ((if br = true then r1.tail else r1).takeWhile low)))] H3 := by
    intro j H3 br b3 R3 hij hdj hb1 hb0
    obtain ⟨_, hj, dx3, hp3⟩ := id R3
    have hlen : ((if br = true then r1.tail else r1).takeWhile low).length ≤ 1000 := by
      have a1 := (List.takeWhile_sublist (l := (if br = true then r1.tail else r1)) low).length_le
      have a2 : (if br = true then r1.tail else r1).length ≤ r1.length := by cases br <;> simp
      have a3 := congrArg List.length h2
      rw [List.length_drop] at a3
      omega
    refine ⟨_, rfl, _, rfl, hlen, fun H4 s4 => ⟨_, rfl, ?_⟩⟩
    have b4 := b3.trans (Same.but s4)
    have hp4 := s4 _ _ hp3
    have R4 : RdAt C H4 p l j w := ⟨hl, hj, dx3, hp4⟩
    rw [name_low]
    by_cases hn : 1 ≤ ((if br = true then r1.tail else r1).takeWhile low).length ∧ ((if br = true then r1.tail else r1).takeWhile low).length ≤ 8
    · have hn' : (decide (1 ≤ ((if br = true then r1.tail else r1).takeWhile low).length) && decide (((if br = true then r1.tail else r1).takeWhile low).length ≤ 8)) = true := by
        rw [decide_eq_true hn.1, decide_eq_true hn.2]; rfl
      rw [hn']
      refine iteF ⟨_, rfl, br, rfl, ?_⟩
      cases br with
      | true =>
        obtain ⟨r, rfl⟩ := hb1 rfl
        have hno : nameOf (123 :: r) = (match r.dropWhile low with | 125 :: r' => some (r.takeWhile low, r') | _ => none) := by
          show (if _ then _ else _) = _
          rw [if_pos (show 1 ≤ (r.takeWhile low).length ∧ (r.takeWhile low).length ≤ 8 from hn)] <;> rfl
        have hdj' : l.drop j = r.dropWhile low := hdj
        refine iteT ⟨_, rfl, p, C, dx3, _, _, rfl, hp4, R.cl, R.nS, rf_src _ _ _, rfl, _, rfl, p, C, dx3, _, _, rfl, hp4, R.cl, R.nA, rf_at _ _ _, _, _, _, rfl, rfl, _, rfl, ?_⟩
        rw [lit_cb, starts3, head_dec, hdj']
        cases hd : r.dropWhile low with
        | nil =>
          rw [hd] at hno
          refine iteT ⟨_, rfl, ?_⟩
          rcases hD with ⟨n, r', e, rfl⟩ | ⟨e, rfl⟩
          · rw [hno] at e; cases e
          · exact place_ok (told_but hi er b4 q)
        | cons c t =>
          by_cases hc : c = 125
          · subst hc
            rw [hd] at hno
            refine iteF ⟨_, rfl, p, C, dx3, _, _, rfl, hp4, R.cl, R.nA, rf_at _ _ _, _, _, rfl, rfl, dx3, _, hp4, (by show 3 < 1000; decide), ?_⟩
            rw [hd] at hdj'
            obtain ⟨g1, g2, g3⟩ := drop_tail hdj'
            refine ⟨_, rfl, ?_⟩
            rcases hD with ⟨n, r', e, rfl⟩ | ⟨e, rfl⟩
            · rw [hno] at e
              cases e
              exact q _ (j + 1) _ (but_upd b4) (rd_step hl (by omega)) g2 (by omega) ⟨_, rfl, rfl⟩
            · rw [hno] at e; cases e
          · have hno' : nameOf (123 :: r) = none := by
              rw [hno, hd]
              split
              · rename_i h; cases h; exact absurd rfl hc
              · rfl
            have hf : decide (c = 125) = false := decide_eq_false hc
            refine (?_ : if (!decide (c = 125)) = true then _ else _)
            rw [hf]
            refine iteT ⟨_, rfl, ?_⟩
            rcases hD with ⟨n, r', e, rfl⟩ | ⟨e, rfl⟩
            · rw [hno'] at e; cases e
            · exact place_ok (told_but hi er b4 q)
      | false =>
        refine iteF ⟨_, rfl, ?_⟩
        have hno := nameOf_no (hb0 rfl)
        rw [if_pos (show 1 ≤ (r1.takeWhile low).length ∧ (r1.takeWhile low).length ≤ 8 from hn)] at hno
        rcases hD with ⟨n, r', e, rfl⟩ | ⟨e, rfl⟩
        · rw [hno] at e
          cases e
          exact q _ j _ b4 R4 hdj (by omega) ⟨_, rfl, rfl⟩
        · rw [hno] at e; cases e
    · have hn' : (decide (1 ≤ ((if br = true then r1.tail else r1).takeWhile low).length) && decide (((if br = true then r1.tail else r1).takeWhile low).length ≤ 8)) = false := by
        cases z : (decide (1 ≤ ((if br = true then r1.tail else r1).takeWhile low).length) && decide (((if br = true then r1.tail else r1).takeWhile low).length ≤ 8)) with
        | false => rfl
        | true =>
          rw [Bool.and_eq_true, decide_eq_true_eq, decide_eq_true_eq] at z
          exact absurd z hn
      rw [hn']
      refine iteT ⟨_, rfl, ?_⟩
      have hno : nameOf r1 = none := by
        cases br with
        | true =>
          obtain ⟨r, rfl⟩ := hb1 rfl
          show (if _ then _ else _) = _
          rw [if_neg (show ¬ (1 ≤ (r.takeWhile low).length ∧ (r.takeWhile low).length ≤ 8) from hn)]
        | false =>
          rw [nameOf_no (hb0 rfl), if_neg (show ¬ (1 ≤ (r1.takeWhile low).length ∧ (r1.takeWhile low).length ≤ 8) from hn)]
      rcases hD with ⟨n, r', e, rfl⟩ | ⟨e, rfl⟩
      · rw [hno] at e; cases e
      · exact place_ok (told_but hi er b4 q)
  rw [head_dec, h2]
  refine ⟨fun σ H2 => ∃ (j : Nat) (br : Bool), σ = [some (.ref p), some (.int (i : Int)), some (.bl br), none] ∧ But p H H2 ∧ RdAt C H2 p l j w ∧ i + 1 ≤ j ∧ l.drop j = (if br = true then r1.tail else r1) ∧ (br = true → ∃ q, r1 = 123 :: q) ∧ (br = false → ∀ q, r1 ≠ 123 :: q), ?_, ?_⟩
  · cases hr1 : r1 with
    | nil =>
      refine ⟨_, rfl, false, rfl, iteF ⟨i + 1, false, rfl, bb, hR2, Nat.le_refl _, ?_, fun z => (by cases z), fun _ q z => (by cases z)⟩⟩
      rw [h2, hr1]; rfl
    | cons c t =>
      rw [hr1] at h2
      by_cases hc : c = 123
      · subst hc
        obtain ⟨g1, g2, g3⟩ := drop_tail h2
        refine ⟨_, rfl, true, rfl, iteT ⟨_, rfl, p, C, dx2, _, _, rfl, hp2, R.cl, R.nA, rf_at _ _ _, _, _, rfl, rfl, dx2, _, hp2, (by show 3 < 1000; decide), ?_⟩⟩
        exact ⟨i + 1 + 1, true, rfl, but_upd bb, rd_step hl (by omega), by omega, g2, fun _ => ⟨t, rfl⟩, fun z => (by cases z)⟩
      · have hf : decide (c = 123) = false := decide_eq_false hc
        refine ⟨_, rfl, decide (c = 123), rfl, ?_⟩
        rw [hf]
        refine iteF ⟨i + 1, false, by show [some (V.ref p), some (.int (i : Int)), some (.bl (decide (c = 123))), none] = _; rw [hf], bb, hR2, Nat.le_refl _, by rw [h2]; rfl, fun z => (by cases z), fun _ q z => ?_⟩
        injection z with z _
        exact hc z
  · rintro σ H2 ⟨j, br, rfl, b2, R2, hij, hdj, hb1, hb0⟩
    obtain ⟨_, hj, dx3, hp3⟩ := id R2
    refine ⟨_, rfl, p, dx3, _, rfl, hp3, rf_no _ _ _ (by decide +kernel) (by decide +kernel) (by decide +kernel), p, l, j, w, rfl, R2, fun j2 H3 b3 R3 hj2 => ?_⟩
    rw [hdj] at hj2 ⊢
    have hij2 : i + 1 ≤ j2 := by
      have a1 := congrArg List.length hj2
      have a2 : ((if br = true then r1.tail else r1).dropWhile low).length ≤ (if br = true then r1.tail else r1).length := (List.dropWhile_sublist low).length_le
      have a3 := congrArg List.length hdj
      have a4 := R3.2.1
      rw [List.length_drop] at a1 a3
      omega
    exact last j2 H3 br (b2.trans b3) R3 hij2 hj2 hb1 hb0
end
end My
namespace My
open PySem L2 SX C8
def Out.app (acc : List Tr) : Out → Out
  | .ok ts r => .ok (acc ++ ts) r
  | .er k => .er k
theorem Out.app_cons (acc : List Tr) (t : Tr) (o : Out) : (o.cons t).app acc = o.app (acc ++ [t]) := by
  cases o with
  | ok ts r => show Out.ok (acc ++ t :: ts) r = .ok (acc ++ [t] ++ ts) r; simp
  | er k => rfl
theorem Out.app_nil (o : Out) : o.app [] = o := by cases o <;> rfl
def DRun : Nat → List Nat → Out → Prop := fun w r o => ∃ r1, r = 91 :: r1 ∧ ((w < 12 ∧ ∃ cs r2, DScr (w + 1) r1 (.ok cs (93 :: r2)) ∧ o = .ok cs r2) ∨ (w < 12 ∧ ∃ cs, DScr (w + 1) r1 (.ok cs []) ∧ o = .er (r1.length + 1)) ∨ (w < 12 ∧ ∃ k, DScr (w + 1) r1 (.er k) ∧ o = .er k) ∨ (w = 12 ∧ o = .er (r1.length + 1)))
def DQuoH : Nat → List Nat → Out → Prop := fun w r o => ∃ r1, r = 34 :: r1 ∧ DQuo w (r1.length + 1) r1 o
def DBarH : Nat → List Nat → Out → Prop := fun w r o => bW w r = false ∧ DBar w r o
def DWrdH : Nat → List Nat → Out → Prop := fun w r o => bW w r = false ∧ DWrd w r o
def spScr (C CB : Addr) : Nat → Sp
  | 0 => fun _ _ _ _ => False
  | m + 1 => spRd C CB DScr 0 ValL m
theorem lit_text0 : V.str (Str.ofString "text") = .str (S wText) := by rw [lit_text]
section
variable {P : Program} {w : World} {K : PySem.W.Frag} {mg : Str → Option Value} {base : Heap} {C CB : Addr}
theorem rd_same {H H' : Hp} {p : Addr} {l : List Nat} {i w : Nat} (h : RdAt C H p l i w) (s : Same H H') : RdAt C H' p l i w := by
  obtain ⟨hl, hi, dx, hp⟩ := h
  exact ⟨hl, hi, dx, s _ _ hp⟩
theorem rd_upd {H : Hp} {p a : Addr} {o : HO} {l : List Nat} {i w : Nat} (h : RdAt C H p l i w) (n : p ≠ a) : RdAt C (upd H a o) p l i w := by
  obtain ⟨hl, hi, dx, hp⟩ := h
  exact ⟨hl, hi, dx, by rw [upd_ne n]; exact hp⟩
theorem okr_read_run {f : Addr} {fd : FuncData} (R : RdC K mg C) (me : Meth K C "read_run" f) (F : C8.Fun K "read_run" "Reader.read_run" s_Reader_read_run f fd) (b : Binds K fd ["self"] []) (T : Txt mg) (x_BadScript : PlaceC P w K mg base "BadScript" CB) (c_ends_text : Met P w K mg base 1 C "ends_text" (spEnds C fun _ r => r.isEmpty) []) {n : Nat} (c_read_script : MetX P w K mg base (4 + 6 * n) C "read_script" (spScr C CB n)) : MetX P w K mg base (5 + 6 * n) C "read_run" (spRd C CB DRun 1 ValT n) := by
  rw [show 5 + 6 * n = (4 + 6 * n) + 1 by omega]
  refine metX R.cl me F b sc_Reader_read_run (fun vs H Q E h => ?_) (fun cdv A outer s H vs Q E hr h => ?_)
  · obtain ⟨p, l, i, w, o, rfl, _⟩ := h
    rfl
  obtain ⟨p, l, i, w, o, rfl, hR, hm, hD, q⟩ := h
  obtain ⟨hl, hi, dx, hp⟩ := id hR
  refine ⟨_, pss_cons (ps_set (i := 1) sc_Reader_read_run.nd rfl (Or.inl rfl) (pe_fld (pv 0) rfl))
    (pss_cons (ps_if (pt_cmpR op_eq (pe_fld (pv 0) rfl) (pe_gc rfl T.g_MOST_RUNS) (nomark _))
      (pss_one (ps_place rfl x_BadScript hr (by first | decide | assumption | omega) (takes_of rfl rfl rfl rfl) rfl (pv 1)))
      (pss_nil))
    (pss_cons (ps_fldaug (pv 0) pe_int in_add)
    (pss_cons (ps_fldaug (pv 0) pe_int in_add)
    (pss_cons (ps_set (i := 2) sc_Reader_read_run.nd rfl (Or.inl rfl) (pe_mx0 (E := E) c_read_script hr (by first | decide | assumption | omega) (passes_call (takes_of rfl rfl rfl rfl) (fun _ _ _ _ h => h)) (pv 0)))
    (pss_cons (ps_if (pt_val (pe_mt0 c_ends_text hr (by first | decide | assumption | omega) (pv 0)))
      (pss_one (ps_place rfl x_BadScript hr (by first | decide | assumption | omega) (takes_of rfl rfl rfl rfl) rfl (pv 1)))
      (pss_nil))
    (pss_cons (ps_fldaug (pv 0) pe_int in_add)
    (pss_cons (ps_fldaug (pv 0) pe_int in_sub)
    (pss_one (ps_ret (pe_callTy call_tuple_of (by rfl) T.tuple (by decide +kernel) (pa_cons (pv 2) pa_nil))))))))))), ?_⟩
  obtain ⟨r1, e1, hD⟩ := hD
  obtain ⟨h1, h2, h3⟩ := drop_tail e1
  have er : (l.drop i).length = r1.length + 1 := by rw [e1]; rfl
  refine ⟨_, rfl, p, C, dx, _, _, rfl, hp, R.cl, R.nA, rf_at _ _ _, ?_⟩
  refine ⟨_, rfl, p, C, dx, _, _, rfl, hp, R.cl, R.nW, rf_wi _ _ _, rfl, _, rfl, iteI (fun e12 => ?_) (fun ne => ?_)⟩
  · have e12' : w = 12 := by omega
    refine ⟨_, rfl, ?_⟩
    rcases hD with ⟨z, _⟩ | ⟨z, _⟩ | ⟨z, _⟩ | ⟨_, rfl⟩
    · omega
    · omega
    · omega
    · exact place_ok (told_but hi er (But.refl p H) q)
  · have ne' : w ≠ 12 := by omega
    have hw : w < 12 := by
      rcases hD with ⟨z, _⟩ | ⟨z, _⟩ | ⟨z, _⟩ | ⟨z, _⟩
      · exact z
      · exact z
      · exact z
      · exact absurd z ne'
    obtain ⟨m, rfl⟩ : ∃ m, n = m + 1 := ⟨n - 1, by omega⟩
    refine ⟨_, rfl, p, C, dx, _, _, rfl, hp, R.cl, R.nA, rf_at _ _ _, _, _, rfl, rfl, dx, _, hp, (by show 3 < 1000; decide), ?_⟩
    rw [rf_putat l i w (i + 1) (show ((i : Int) + 1) = ((i + 1 : Nat) : Int) by omega)]
    refine ⟨_, rfl, p, C, dx, _, _, rfl, upd_same, R.cl, R.nW, rf_wi _ _ _, _, _, rfl, rfl, dx, _, upd_same, (by show 3 < 1000; decide), ?_⟩
    rw [rf_putwi l (i + 1) w (w + 1) (show ((w : Int) + 1) = ((w + 1 : Nat) : Int) by omega)]
    have b2 : But p H (upd (upd H p (.ins C dx (rf l (i + 1) w))) p (.ins C dx (rf l (i + 1) (w + 1)))) := but_upd (but_upd (But.refl p H))
    have R2 : RdAt C (upd (upd H p (.ins C dx (rf l (i + 1) w))) p (.ins C dx (rf l (i + 1) (w + 1)))) p l (i + 1) (w + 1) := ⟨hl, by omega, dx, upd_same⟩
    generalize upd (upd H p (.ins C dx (rf l (i + 1) w))) p (.ins C dx (rf l (i + 1) (w + 1))) = H2 at b2 R2 ⊢
    obtain ⟨_, _, dx2, hp2⟩ := id R2
    -- the script read, then the closing
    obtain ⟨o', d, hok, her⟩ : ∃ o', DScr (w + 1) r1 o' ∧ (∀ cs r, o' = .ok cs r → (r = [] ∧ o = .er (r1.length + 1)) ∨ ∃ r2, r = 93 :: r2 ∧ o = .ok cs r2) ∧ ∀ k, o' = .er k → o = .er k := by
      rcases hD with ⟨_, cs, r2, d, rfl⟩ | ⟨_, cs, d, rfl⟩ | ⟨_, k, d, rfl⟩ | ⟨z, _⟩
      · exact ⟨_, d, fun cs' r e => (by cases e; exact .inr ⟨r2, rfl, rfl⟩), fun k e => (by cases e)⟩
      · exact ⟨_, d, fun cs' r e => (by cases e; exact .inl ⟨rfl, rfl⟩), fun k e => (by cases e)⟩
      · exact ⟨_, d, fun cs' r e => (by cases e), fun k e => (by cases e; rfl)⟩
      · exact absurd z ne'
    refine ⟨_, rfl, p, dx2, _, rfl, hp2, rf_no _ _ _ (by decide +kernel) (by decide +kernel) (by decide +kernel), p, l, i + 1, w + 1, o', rfl, R2, by omega, by rw [h2]; exact d, ?_⟩
    cases o' with
    | er k =>
      have e := her k rfl
      subst e
      exact fun d' H' b' h' => q d' H' (b2.trans b') h'
    | ok cs r =>
      rintro v j H3 b3 R3 hj hij ⟨a, us, rfl, ha, hT⟩
      obtain ⟨_, hj3, dx3, hp3⟩ := id R3
      refine ⟨_, rfl, p, dx3, _, rfl, hp3, rf_no _ _ _ (by decide +kernel) (by decide +kernel) (by decide +kernel), p, l, j, w + 1, rfl, R3, _, rfl, ?_⟩
      rw [hj]
      rcases hok cs r rfl with ⟨rfl, rfl⟩ | ⟨r2, rfl, rfl⟩
      · refine iteT ⟨_, rfl, ?_⟩
        exact place_ok (told_but hi er (b2.trans b3) q)
      · obtain ⟨g1, g2, g3⟩ := drop_tail hj
        refine iteF ⟨_, rfl, p, C, dx3, _, _, rfl, hp3, R.cl, R.nA, rf_at _ _ _, _, _, rfl, rfl, dx3, _, hp3, (by show 3 < 1000; decide), ?_⟩
        rw [rf_putat l j (w + 1) (j + 1) (show ((j : Int) + 1) = ((j + 1 : Nat) : Int) by omega)]
        refine ⟨_, rfl, p, C, dx3, _, _, rfl, upd_same, R.cl, R.nW, rf_wi _ _ _, _, _, rfl, rfl, dx3, _, upd_same, (by show 3 < 1000; decide), ?_⟩
        rw [rf_putwi l (j + 1) (w + 1) w (show (((w + 1 : Nat) : Int) - 1) = ((w : Nat) : Int) by omega)]
        have nap : a ≠ p := ne_of ha hp3 (by intro z; cases z)
        refine ⟨_, rfl, a, us, rfl, .inl ⟨SqL.of (by rw [upd_ne nap, upd_ne nap]; exact ha), fun t ht => ?_⟩⟩
        have st := same_new ht (HO.tup us)
        have bb : But p H (upd (upd H3 p (.ins C dx3 (rf l (j + 1) (w + 1)))) p (.ins C dx3 (rf l (j + 1) w))) := but_upd (but_upd (b2.trans b3))
        have tt : Tups H3 (upd (upd H3 p (.ins C dx3 (rf l (j + 1) (w + 1)))) p (.ins C dx3 (rf l (j + 1) w))) := (Tups.upd R3.notup).trans (Tups.upd fun xs e => by rw [upd_same] at e; cases e)
        exact q (.ref t) (j + 1) _ (bb.trans (Same.but st)) ⟨hl, by omega, dx3, st _ _ upd_same⟩ g2 (by omega) (TrsAt.tup upd_same ((hT.mono tt).mono (Same.tups st)))
theorem okr_read_piece {f : Addr} {fd : FuncData} (R : RdC K mg C) (me : Meth K C "read_piece" f) (F : C8.Fun K "read_piece" "Reader.read_piece" s_Reader_read_piece f fd) (b : Binds K fd ["self"] []) (T : Txt mg) {n : Nat} (c_read_turned : MetX P w K mg base 3 C "read_turned" (spRd C CB DTurn 1 ValS n)) (c_read_name : MetX P w K mg base 3 C "read_name" (spRd C CB DName 1 ValS n)) (c_read_run : MetX P w K mg base (5 + 6 * n) C "read_run" (spRd C CB DRun 1 ValT n)) : MetX P w K mg base (6 + 6 * n) C "read_piece" (spRd C CB DPc 1 ValPc n) := by
  rw [show 6 + 6 * n = (5 + 6 * n) + 1 by omega]
  refine metX R.cl me F b sc_Reader_read_piece (fun vs H Q E h => ?_) (fun cdv A outer s H vs Q E hr h => ?_)
  · obtain ⟨p, l, i, w, o, rfl, _⟩ := h
    rfl
  obtain ⟨p, l, i, w, o, rfl, hR, hm, hD, q⟩ := h
  obtain ⟨hl, hi, dx, hp⟩ := id hR
  refine ⟨_, pss_cons (ps_set (i := 1) sc_Reader_read_piece.nd rfl (Or.inl rfl) (pe_ix ix_str (pe_fld (pv 0) rfl) (pe_fld (pv 0) rfl) (fun _ _ => rfl)))
    (pss_cons (ps_if (pt_cmpR op_eq (pv 1) (pe_gc rfl T.g_TURN) (nomark _))
      (pss_one (ps_ret (pe_tup (pa_cons pe_str (pa_cons (pe_mx0 (E := E) c_read_turned hr (by first | decide | assumption | omega) (passes_call (takes_of rfl rfl rfl rfl) (fun _ _ _ _ h => h)) (pv 0)) pa_nil)))))
      (pss_nil))
    (pss_cons (ps_if (pt_cmpR op_eq (pv 1) pe_str (nomark _))
      (pss_one (ps_ret (pe_tup (pa_cons pe_str (pa_cons (pe_mx0 (E := E) c_read_name hr (by first | decide | assumption | omega) (passes_call (takes_of rfl rfl rfl rfl) (fun _ _ _ _ h => h)) (pv 0)) pa_nil)))))
      (pss_nil))
    (pss_cons (ps_if (pt_cmpR op_eq (pv 1) pe_str (nomark _))
      (pss_one (ps_ret (pe_tup (pa_cons pe_str (pa_cons (pe_mx0 (E := E) c_read_run hr (by first | decide | assumption | omega) (passes_call (takes_of rfl rfl rfl rfl) (fun _ _ _ _ h => h)) (pv 0)) pa_nil)))))
      (pss_nil))
    (pss_cons (ps_fldaug (pv 0) pe_int in_add)
    (pss_one (ps_ret (pe_tup (pa_cons pe_str (pa_cons (pv 1) pa_nil))))))))), ?_⟩
  have hz : (S l).length ≤ sizeLine := size_S (by omega)
  obtain ⟨c, r, e1⟩ : ∃ c r, l.drop i = c :: r := by
    generalize l.drop i = L at hD
    cases hD <;> exact ⟨_, _, rfl⟩
  obtain ⟨h1, h2, h3⟩ := drop_tail e1
  rw [e1] at hD
  have lk : ∀ {m : Str}, ¬ m = "source" → ¬ m = "at" → ¬ m = "within" → (rf l i w).lookup m = none := fun a b c => rf_no _ _ _ a b c
  refine ⟨_, rfl, p, C, dx, _, _, rfl, hp, R.cl, R.nS, rf_src _ _ _, _, rfl, p, C, dx, _, _, rfl, hp, R.cl, R.nA, rf_at _ _ _, _, _, _, rfl, rfl, hz, at_S h3, ?_⟩
  -- a tuple of a kind and of what is told
  have mk : ∀ (k : List Nat) (v : V) (t : Tr) (j : Nat) (r' : List Nat) H', TrAt H' v t → PcLe 1000 (.n [.s k, t]) → But p H H' → RdAt C H' p l j w → l.drop j = r' → i + 1 ≤ j → o = .ok [.n [.s k, t]] r' → ∀ u, H' u = none → Q (.ref u) (upd H' u (.tup [.str (S k), v])) := fun k v t j r' H' hv hp' b' R' hj hij eo u hu => by
    subst eo
    have su := same_new hu (HO.tup [.str (S k), v])
    exact q (.ref u) j _ (b'.trans (Same.but su)) (rd_same R' su) hj hij ⟨_, rfl, TrAt.mk2 upd_same (hv.mono (Same.tups su)), hp'⟩
  refine ⟨_, rfl, rfl, _, rfl, ite_S lit_bs (fun e92 => ?_) (fun n92 => ?_)⟩
  · have e92' : c = 92 := List.head_eq_of_cons_eq e92
    subst e92'
    refine ⟨_, rfl, p, dx, _, rfl, hp, lk (by decide +kernel) (by decide +kernel) (by decide +kernel), p, l, i, w, ?_⟩
    cases hD with
    | @turn _ d r' =>
      refine ⟨.ok [.s [mean d]] r', rfl, hR, hm, .inl ⟨d, r', e1, rfl⟩, fun v j H' b' R' hj hij ⟨u, eu, ev⟩ => ?_⟩
      cases eu
      subst ev
      rw [lit_text]
      exact ⟨(by show 2 ≤ sizeLine; decide), mk wText _ _ j _ H' (.s _) ⟨.inl ⟨_, rfl⟩, fun w' e => by rw [← tx_inj e]; show 1 ≤ 1000; decide⟩ b' R' hj hij rfl⟩
    | turnE => exact ⟨.er 1, rfl, hR, hm, .inr ⟨e1, rfl⟩, fun d H' b' h' => q d H' b' h'⟩
    | sign g1 g2 g3 => exact absurd rfl g1
  · have n92' : c ≠ 92 := fun z => n92 (by rw [z])
    refine ⟨_, rfl, rfl, _, rfl, ite_S lit_dollar (fun e36 => ?_) (fun n36 => ?_)⟩
    · have e36' : c = 36 := List.head_eq_of_cons_eq e36
      subst e36'
      refine ⟨_, rfl, p, dx, _, rfl, hp, lk (by decide +kernel) (by decide +kernel) (by decide +kernel), p, l, i, w, ?_⟩
      cases hD with
      | @name _ _ nn r' h =>
        refine ⟨.ok [.s nn] r', rfl, hR, hm, ⟨r, e1, .inl ⟨nn, r', h, rfl⟩⟩, fun v j H' b' R' hj hij ⟨u, eu, ev⟩ => ?_⟩
        cases eu
        subst ev
        rw [lit_name]
        exact ⟨(by show 2 ≤ sizeLine; decide), mk wName _ _ j _ H' (.s _) ⟨.inr (.inl ⟨_, rfl⟩), fun w' e => absurd e nm_tx⟩ b' R' hj hij rfl⟩
      | nameE h => exact ⟨_, rfl, hR, hm, ⟨r, e1, .inr ⟨h, rfl⟩⟩, fun d H' b' h' => q d H' b' h'⟩
      | sign g1 g2 g3 => exact absurd rfl g2
    · have n36' : c ≠ 36 := fun z => n36 (by rw [z])
      refine ⟨_, rfl, rfl, _, rfl, ite_S lit_op (fun e91 => ?_) (fun n91 => ?_)⟩
      · have e91' : c = 91 := List.head_eq_of_cons_eq e91
        subst e91'
        refine ⟨_, rfl, p, dx, _, rfl, hp, lk (by decide +kernel) (by decide +kernel) (by decide +kernel), p, l, i, w, ?_⟩
        cases hD with
        | @run _ _ r' cs hw d =>
          refine ⟨.ok cs r', rfl, hR, hm, ⟨r, e1, .inl ⟨hw, cs, r', d, rfl⟩⟩, fun v j H' b' R' hj hij hv => ?_⟩
          rw [lit_run]
          exact ⟨(by show 2 ≤ sizeLine; decide), mk wRun v (.n cs) j _ H' hv ⟨.inr (.inr ⟨_, rfl⟩), fun w' e => absurd e rn_tx⟩ b' R' hj hij rfl⟩
        | runB hw d => exact ⟨_, rfl, hR, hm, ⟨r, e1, .inr (.inl ⟨hw, _, d, rfl⟩)⟩, fun d H' b' h' => q d H' b' h'⟩
        | runE hw d => exact ⟨_, rfl, hR, hm, ⟨r, e1, .inr (.inr (.inl ⟨hw, _, d, rfl⟩))⟩, fun d H' b' h' => q d H' b' h'⟩
        | runM hw => exact ⟨_, rfl, hR, hm, ⟨r, e1, .inr (.inr (.inr ⟨hw, rfl⟩))⟩, fun d H' b' h' => q d H' b' h'⟩
        | sign g1 g2 g3 => exact absurd rfl g3
      · have n91' : c ≠ 91 := fun z => n91 (by rw [z])
        refine ⟨_, rfl, p, C, dx, _, _, rfl, hp, R.cl, R.nA, rf_at _ _ _, _, _, rfl, rfl, dx, _, hp, (by show 3 < 1000; decide), ?_⟩
        have R2 : RdAt C (upd H p (.ins C dx (putF "at" (.int ((i : Int) + 1)) (rf l i w)))) p l (i + 1) w := rd_step hl (by omega)
        have eo : o = .ok [tx [c]] r := by
          cases hD with
          | turn => exact absurd rfl n92'
          | turnE => exact absurd rfl n92'
          | name _ => exact absurd rfl n36'
          | nameE _ => exact absurd rfl n36'
          | run _ _ => exact absurd rfl n91'
          | runB _ _ => exact absurd rfl n91'
          | runE _ _ => exact absurd rfl n91'
          | runM _ => exact absurd rfl n91'
          | sign _ _ _ => rfl
        refine ⟨_, rfl, ?_⟩
        rw [lit_text]
        exact ⟨(by show 2 ≤ sizeLine; decide), mk wText _ _ (i + 1) r _ (.s [c]) ⟨.inl ⟨_, rfl⟩, fun w' e => by rw [← tx_inj e]; show 1 ≤ 1000; decide⟩ (but_upd (But.refl p H)) R2 h2 (by omega) eo⟩
end
end My
namespace My
open PySem L2 SX C8
section
variable {P : Program} {w : World} {K : PySem.W.Frag} {mg : Str → Option Value} {base : Heap} {C CB : Addr}
/-- the list that is being made, the Reader and what is left -/
theorem acc_put {H H2 H3 : Hp} {p a : Addr} {us : List V} {v : V} (hb : But p H H2) (b3 : But p H2 H3) (ha : H a = none) : But p H (upd H3 a (.lst (us ++ [v]))) := but_mut (hb.trans b3) ha
theorem okr_read_quoted {f : Addr} {fd : FuncData} (R : RdC K mg C) (me : Meth K C "read_quoted" f) (F : C8.Fun K "read_quoted" "Reader.read_quoted" s_Reader_read_quoted f fd) (b : Binds K fd ["self"] []) (T : Txt mg) (x_BadScript : PlaceC P w K mg base "BadScript" CB) (c_ends_text : Met P w K mg base 1 C "ends_text" (spEnds C fun _ r => r.isEmpty) []) {n : Nat} (c_read_piece : MetX P w K mg base (6 + 6 * n) C "read_piece" (spRd C CB DPc 1 ValPc n)) : MetX P w K mg base (7 + 6 * n) C "read_quoted" (spRd C CB DQuoH 1 ValP n) := by
  rw [show 7 + 6 * n = (6 + 6 * n) + 1 by omega]
  refine metX R.cl me F b sc_Reader_read_quoted (fun vs H Q E h => ?_) (fun cdv A outer s H vs Q E hr h => ?_)
  · obtain ⟨p, l, i, w, o, rfl, _⟩ := h
    rfl
  obtain ⟨p, l, i, w, o, rfl, hR, hm, hD, q⟩ := h
  obtain ⟨hl, hi, dx, hp⟩ := id hR
  refine ⟨_, pss_cons (ps_set (i := 1) sc_Reader_read_quoted.nd rfl (Or.inl rfl) (pe_fld (pv 0) rfl))
    (pss_cons (ps_fldaug (pv 0) pe_int in_add)
    (pss_cons (ps_set (i := 2) sc_Reader_read_quoted.nd rfl (Or.inl rfl) (pe_lst pa_nil))
    (pss_cons (ps_while (passes_of rfl) (pt_not (pt_val (pe_mt0 c_ends_text hr (by first | decide | assumption | omega) (pv 0))))
      (pss_cons (ps_if (pt_cmpR op_eq (pe_ix ix_str (pe_fld (pv 0) rfl) (pe_fld (pv 0) rfl) (fun _ _ => rfl)) pe_str (nomark _))
        (pss_cons (ps_fldaug (pv 0) pe_int in_add)
        (pss_one (ps_ret (pv 2))))
        (pss_nil))
      (pss_one (ps_expr (pe_bm PySem.F.plainAttrs_list PySem.F.slot_list_append PySem.F.type_list_append mt_append (pv 2) (pa_cons (pe_mx0 (E := E) c_read_piece hr (by first | decide | assumption | omega) (passes_call (takes_of rfl rfl rfl rfl) (fun _ _ _ _ h => h)) (pv 0)) pa_nil))))))
    (pss_one (ps_place rfl x_BadScript hr (by first | decide | assumption | omega) (takes_of rfl rfl rfl rfl) rfl (pv 1)))))), ?_⟩
  have hz : (S l).length ≤ sizeLine := size_S (by omega)
  obtain ⟨r1, e1, hD⟩ := hD
  obtain ⟨h1, h2, h3⟩ := drop_tail e1
  have er : (l.drop i).length = r1.length + 1 := by rw [e1]; rfl
  refine ⟨_, rfl, p, C, dx, _, _, rfl, hp, R.cl, R.nA, rf_at _ _ _, ?_⟩
  refine ⟨_, rfl, p, C, dx, _, _, rfl, hp, R.cl, R.nA, rf_at _ _ _, _, _, rfl, rfl, dx, _, hp, (by show 3 < 1000; decide), ?_⟩
  rw [rf_putat l i w (i + 1) (show ((i : Int) + 1) = ((i + 1 : Nat) : Int) by omega)]
  refine ⟨(by show 0 ≤ sizeLine; decide), fun a ha1 => ?_⟩
  have npa : p ≠ a := ne_of_none (show (upd H p (.ins C dx (rf l (i + 1) w))) p = some _ from upd_same) ha1
  have ha : H a = none := by rw [upd_ne npa.symm] at ha1; exact ha1
  have sa := same_new ha1 (HO.lst [])
  have R1 : RdAt C (upd H p (.ins C dx (rf l (i + 1) w))) p l (i + 1) w := ⟨hl, by omega, dx, upd_same⟩
  let W : Nat → L2.St → Hp → Prop := fun m σ H2 => ∃ (k : Nat) (us : List V) (acc : List Tr) (o' : Out), σ = [some (.ref p), some (.int (i : Int)), some (.ref a)] ∧ But p H H2 ∧ RdAt C H2 p l k w ∧ H2 a = some (.lst us) ∧ TrsAt H2 us acc ∧ (∀ t ∈ acc, PcLe 1000 t) ∧ acc.length + i + 1 ≤ k ∧ DQuo w (r1.length + 1) (l.drop k) o' ∧ o = o'.app acc ∧ m = l.length - k
  refine ⟨W, ⟨_, i + 1, [], [], o, rfl, (but_upd (But.refl p H)).trans (Same.but sa), rd_same R1 sa, upd_same, TrsAt.nil _, by simp, by simp, by rw [h2]; exact hD, (Out.app_nil o).symm, rfl⟩, ?_⟩
  rintro m σ H2 ⟨k, us, acc, o', rfl, hb, R2, hd, hT, hP, hk, d, eo, rfl⟩
  obtain ⟨_, hkl, dx2, hp2⟩ := id R2
  refine ⟨_, rfl, p, dx2, _, rfl, hp2, rf_no _ _ _ (by decide +kernel) (by decide +kernel) (by decide +kernel), p, l, k, w, rfl, R2, _, rfl, ?_⟩
  rcases drop_cases hkl with e0 | ⟨hlt, e0⟩
  · have ne : (!(l.drop k).isEmpty) = false := by rw [e0]; rfl
    refine (?_ : if (!(l.drop k).isEmpty) = true then _ else _)
    rw [ne]
    refine iteF ⟨_, rfl, ?_⟩
    rw [e0] at d
    cases d with
    | lacks =>
      rw [eo] at q
      exact place_ok (told_but hi er hb q)
  · have ne : (!(l.drop k).isEmpty) = true := by rw [e0]; rfl
    refine (?_ : if (!(l.drop k).isEmpty) = true then _ else _)
    rw [ne]
    refine iteT ⟨fun σ' H' => ∃ m', m' < l.length - k ∧ W m' σ' H', fun _ _ h => h, ?_⟩
    refine ⟨_, rfl, p, C, dx2, _, _, rfl, hp2, R.cl, R.nS, rf_src _ _ _, _, rfl, p, C, dx2, _, _, rfl, hp2, R.cl, R.nA, rf_at _ _ _, _, _, _, rfl, rfl, hz, at_S (List.getElem?_eq_getElem hlt), rfl, _, rfl, ite_S lit_q (fun e34 => ?_) (fun n34 => ?_)⟩
    · have e34' : l[k] = 34 := List.head_eq_of_cons_eq e34
      refine ⟨_, rfl, p, C, dx2, _, _, rfl, hp2, R.cl, R.nA, rf_at _ _ _, _, _, rfl, rfl, dx2, _, hp2, (by show 3 < 1000; decide), ?_⟩
      rw [e0] at d
      refine ⟨_, rfl, ?_⟩
      have eo2 : o = .ok acc (l.drop (k + 1)) := by
        generalize l[k] = c at d e34'
        subst e34'
        cases d with
        | stop => rw [eo]; show Out.ok (acc ++ []) _ = _; rw [List.append_nil]
        | piece h _ _ => exact absurd rfl h
        | pieceE h _ => exact absurd rfl h
      rw [eo2] at q
      have nap : a ≠ p := npa.symm
      refine q _ (k + 1) _ (but_upd hb) (rd_step hl (by omega)) rfl (by omega) ⟨a, us, rfl, by rw [upd_ne nap]; exact hd, hT.mono (Tups.upd R2.notup), hP, by omega⟩
    · have n34' : l[k] ≠ 34 := fun z => n34 (by rw [z])
      rw [e0] at d
      have c : ∃ o1, DPc w (l.drop k) o1 ∧ ((∃ t r' o2, o1 = .ok [t] r' ∧ DQuo w (r1.length + 1) r' o2 ∧ o' = o2.cons t) ∨ ∃ j, o1 = .er j ∧ o' = .er j) := by
        rw [e0]
        generalize l[k] = c at d n34'
        cases d with
        | stop => exact absurd rfl n34'
        | piece h d1 d2 => exact ⟨_, d1, .inl ⟨_, _, _, rfl, d2, rfl⟩⟩
        | pieceE h d1 => exact ⟨_, d1, .inr ⟨_, rfl, rfl⟩⟩
      obtain ⟨o1, d1, c⟩ := c
      refine ⟨_, rfl, .inl ⟨rfl, _, SqL.of hd⟩, _, rfl, p, dx2, _, rfl, hp2, rf_no _ _ _ (by decide +kernel) (by decide +kernel) (by decide +kernel), p, l, k, w, o1, rfl, R2, hm, d1, ?_⟩
      rcases c with ⟨t, r', o2, rfl, d2, rfl⟩ | ⟨j, rfl, rfl⟩
      · rintro v j H3 b3 R3 hj hij ⟨t', et, hv, hpc⟩
        cases et
        have hd3 := b3 _ _ hd npa.symm
        have u3 : Tups H2 H3 := But.tups b3 R2.notup
        have u4 : Tups H3 (upd H3 a (.lst (us ++ [v]))) := Tups.upd fun xs e => by rw [hd3] at e; cases e
        have hj2 := R3.2.1
        refine ⟨a, us, v, rfl, rfl, hd3, ?_, l.length - j, by omega, j, us ++ [v], acc ++ [t], o2, rfl, but_mut (hb.trans b3) ha, rd_upd R3 npa, upd_same, ((hT.mono u3).mono u4).snoc (hv.mono u4), ?_, by simp; omega, by rw [hj]; exact d2, by rw [eo, Out.app_cons], rfl⟩
        · rw [hT.1]
          exact Nat.lt_of_le_of_lt (show _ ≤ 2000 by omega) (by decide)
        · intro t' ht'
          rcases List.mem_append.mp ht' with h | h
          · exact hP t' h
          · rw [List.mem_singleton.mp h]; exact hpc
      · rw [eo] at q
        exact fun d' H' b' h' => q d' H' (hb.trans b') h'
theorem okr_read_bare {f : Addr} {fd : FuncData} (R : RdC K mg C) (me : Meth K C "read_bare" f) (F : C8.Fun K "read_bare" "Reader.read_bare" s_Reader_read_bare f fd) (b : Binds K fd ["self"] []) (T : Txt mg) (c_ends_word : Met P w K mg base 4 C "ends_word" (spEnds C bW) []) {n : Nat} (c_read_piece : MetX P w K mg base (6 + 6 * n) C "read_piece" (spRd C CB DPc 1 ValPc n)) : MetX P w K mg base (7 + 6 * n) C "read_bare" (spRd C CB DBarH 1 ValP n) := by
  rw [show 7 + 6 * n = (6 + 6 * n) + 1 by omega]
  refine metX R.cl me F b sc_Reader_read_bare (fun vs H Q E h => ?_) (fun cdv A outer s H vs Q E hr h => ?_)
  · obtain ⟨p, l, i, w, o, rfl, _⟩ := h
    rfl
  obtain ⟨p, l, i, w, o, rfl, hR, hm, hD, q⟩ := h
  obtain ⟨hl, hi, dx, hp⟩ := id hR
  refine ⟨_, pss_cons (ps_set (i := 1) sc_Reader_read_bare.nd rfl (Or.inl rfl) (pe_lst pa_nil))
    (pss_cons (ps_while (passes_of rfl) (pt_not (pt_val (pe_mt0 c_ends_word hr (by first | decide | assumption | omega) (pv 0))))
      (pss_one (ps_expr (pe_bm PySem.F.plainAttrs_list PySem.F.slot_list_append PySem.F.type_list_append mt_append (pv 1) (pa_cons (pe_mx0 (E := E) c_read_piece hr (by first | decide | assumption | omega) (passes_call (takes_of rfl rfl rfl rfl) (fun _ _ _ _ h => h)) (pv 0)) pa_nil)))))
    (pss_one (ps_ret (pv 1)))), ?_⟩
  obtain ⟨nw, hD⟩ := hD
  refine ⟨(by show 0 ≤ sizeLine; decide), fun a ha => ?_⟩
  have npa : p ≠ a := ne_of_none hp ha
  have sa := same_new ha (HO.lst [])
  let W : Nat → L2.St → Hp → Prop := fun m σ H2 => ∃ (k : Nat) (us : List V) (acc : List Tr) (o' : Out), σ = [some (.ref p), some (.ref a)] ∧ But p H H2 ∧ RdAt C H2 p l k w ∧ H2 a = some (.lst us) ∧ TrsAt H2 us acc ∧ (∀ t ∈ acc, PcLe 1000 t) ∧ acc.length + i ≤ k ∧ DBar w (l.drop k) o' ∧ o = o'.app acc ∧ m = l.length - k
  refine ⟨W, ⟨_, i, [], [], o, rfl, Same.but sa, rd_same hR sa, upd_same, TrsAt.nil _, by simp, by simp, hD, (Out.app_nil o).symm, rfl⟩, ?_⟩
  rintro m σ H2 ⟨k, us, acc, o', rfl, hb, R2, hd, hT, hP, hk, d, eo, rfl⟩
  obtain ⟨_, hkl, dx2, hp2⟩ := id R2
  refine ⟨_, rfl, p, dx2, _, rfl, hp2, rf_no _ _ _ (by decide +kernel) (by decide +kernel) (by decide +kernel), p, l, k, w, rfl, R2, _, rfl, ?_⟩
  refine (?_ : if (!(bW w (l.drop k))) = true then _ else _)
  cases hw : bW w (l.drop k) with
  | true =>
    refine iteF ⟨_, rfl, ?_⟩
    have eo2 : o = .ok acc (l.drop k) := by
      generalize l.drop k = L at d hw
      cases d with
      | stop _ => rw [eo]; show Out.ok (acc ++ []) _ = _; rw [List.append_nil]
      | piece h _ _ => rw [hw] at h; cases h
      | pieceE h _ => rw [hw] at h; cases h
    rw [eo2] at q
    have hik : i ≠ k := fun z => by rw [z, hw] at nw; cases nw
    exact q _ k _ hb R2 rfl (by omega) ⟨a, us, rfl, hd, hT, hP, by omega⟩
  | false =>
    refine iteT ⟨fun σ' H' => ∃ m', m' < l.length - k ∧ W m' σ' H', fun _ _ h => h, ?_⟩
    have c : ∃ o1, DPc w (l.drop k) o1 ∧ ((∃ t r' o2, o1 = .ok [t] r' ∧ DBar w r' o2 ∧ o' = o2.cons t) ∨ ∃ j, o1 = .er j ∧ o' = .er j) := by
      generalize l.drop k = L at d hw
      cases d with
      | stop h => rw [hw] at h; cases h
      | piece h d1 d2 => exact ⟨_, d1, .inl ⟨_, _, _, rfl, d2, rfl⟩⟩
      | pieceE h d1 => exact ⟨_, d1, .inr ⟨_, rfl, rfl⟩⟩
    obtain ⟨o1, d1, c⟩ := c
    refine ⟨_, rfl, .inl ⟨rfl, _, SqL.of hd⟩, _, rfl, p, dx2, _, rfl, hp2, rf_no _ _ _ (by decide +kernel) (by decide +kernel) (by decide +kernel), p, l, k, w, o1, rfl, R2, hm, d1, ?_⟩
    rcases c with ⟨t, r', o2, rfl, d2, rfl⟩ | ⟨j, rfl, rfl⟩
    · rintro v j H3 b3 R3 hj hij ⟨t', et, hv, hpc⟩
      cases et
      have hd3 := b3 _ _ hd npa.symm
      have u3 : Tups H2 H3 := But.tups b3 R2.notup
      have u4 : Tups H3 (upd H3 a (.lst (us ++ [v]))) := Tups.upd fun xs e => by rw [hd3] at e; cases e
      have hj2 := R3.2.1
      refine ⟨a, us, v, rfl, rfl, hd3, ?_, l.length - j, by omega, j, us ++ [v], acc ++ [t], o2, rfl, but_mut (hb.trans b3) ha, rd_upd R3 npa, upd_same, ((hT.mono u3).mono u4).snoc (hv.mono u4), ?_, by simp; omega, by rw [hj]; exact d2, by rw [eo, Out.app_cons], rfl⟩
      · rw [hT.1]
        exact Nat.lt_of_le_of_lt (show _ ≤ 2000 by omega) (by decide)
      · intro t' ht'
        rcases List.mem_append.mp ht' with h | h
        · exact hP t' h
        · rw [List.mem_singleton.mp h]; exact hpc
    · rw [eo] at q
      exact fun d' H' b' h' => q d' H' (hb.trans b') h'
theorem okr_read_word {f : Addr} {fd : FuncData} (R : RdC K mg C) (me : Meth K C "read_word" f) (F : C8.Fun K "read_word" "Reader.read_word" s_Reader_read_word f fd) (b : Binds K fd ["self"] []) (T : Txt mg) (x_BadScript : PlaceC P w K mg base "BadScript" CB) (c_ends_word : Met P w K mg base 4 C "ends_word" (spEnds C bW) []) (c_joined : Cal P w K mg base 1 "joined" spJoined []) {n : Nat}
    (c_read_braced : MetX P w K mg base 3 C "read_braced" (spRd C CB DBrc 1 ValP n)) (c_read_quoted : MetX P w K mg base (7 + 6 * n) C "read_quoted" (spRd C CB DQuoH 1 ValP n)) (c_read_bare : MetX P w K mg base (7 + 6 * n) C "read_bare" (spRd C CB DBarH 1 ValP n)) : MetX P w K mg base (8 + 6 * n) C "read_word" (spRd C CB DWrdH 1 Val1 n) := by
  rw [show 8 + 6 * n = (7 + 6 * n) + 1 by omega]
  refine metX R.cl me F b sc_Reader_read_word (fun vs H Q E h => ?_) (fun cdv A outer s H vs Q E hr h => ?_)
  · obtain ⟨p, l, i, w, o, rfl, _⟩ := h
    rfl
  obtain ⟨p, l, i, w, o, rfl, hR, hm, hD, q⟩ := h
  obtain ⟨hl, hi, dx, hp⟩ := id hR
  refine ⟨_, pss_cut (ps_if (pt_cmpR op_eq (pe_ix ix_str (pe_fld (pv 0) rfl) (pe_fld (pv 0) rfl) (fun _ _ => rfl)) pe_str (nomark _))
      (pss_one (ps_set (i := 1) sc_Reader_read_word.nd rfl (Or.inl rfl) (pe_mx0 (E := E) c_read_braced hr (by first | decide | assumption | omega) (passes_call (takes_of rfl rfl rfl rfl) (fun _ _ _ _ h => h)) (pv 0))))
      (pss_one (ps_if (pt_cmpR op_eq (pe_ix ix_str (pe_fld (pv 0) rfl) (pe_fld (pv 0) rfl) (fun _ _ => rfl)) pe_str (nomark _))
        (pss_one (ps_set (i := 1) sc_Reader_read_word.nd rfl (Or.inl rfl) (pe_mx0 (E := E) c_read_quoted hr (by first | decide | assumption | omega) (passes_call (takes_of rfl rfl rfl rfl) (fun _ _ _ _ h => h)) (pv 0))))
        (pss_one (ps_set (i := 1) sc_Reader_read_word.nd rfl (Or.inl rfl) (pe_mx0 (E := E) c_read_bare hr (by first | decide | assumption | omega) (passes_call (takes_of rfl rfl rfl rfl) (fun _ _ _ _ h => h)) (pv 0)))))))
    (pss_cons (ps_if (pt_not (pt_val (pe_mt0 c_ends_word hr (by first | decide | assumption | omega) (pv 0))))
      (pss_one (ps_place rfl x_BadScript hr (by first | decide | assumption | omega) (takes_of rfl rfl rfl rfl) rfl (pe_fld (pv 0) rfl)))
      (pss_nil))
    (pss_one (ps_ret (pe_c c_joined hr (by first | decide | assumption | omega) rfl (pa_cons (pv 1) pa_nil))))), ?_⟩
  have hz : (S l).length ≤ sizeLine := size_S (by omega)
  obtain ⟨nw, hD⟩ := hD
  obtain ⟨c, r, e1⟩ : ∃ c r, l.drop i = c :: r := by
    generalize l.drop i = L at hD
    cases hD <;> exact ⟨_, _, rfl⟩
  obtain ⟨h1, h2, h3⟩ := drop_tail e1
  -- the pieces, and what comes behind them
  let Mid : L2.St → Hp → Prop := fun σ H2 => ∃ (a : Addr) (us : List V) (ps : List Tr) (j : Nat), σ = [some (.ref p), some (.ref a)] ∧ But p H H2 ∧ RdAt C H2 p l j w ∧ i + 1 ≤ j ∧ H2 a = some (.lst us) ∧ TrsAt H2 us ps ∧ (∀ t ∈ ps, PcLe 1000 t) ∧ ps.length ≤ 1000 ∧
    ((bW w (l.drop j) = true ∧ o = .ok [.n (joinP ps)] (l.drop j)) ∨ (bW w (l.drop j) = false ∧ o = .er (l.drop j).length))
  have mid : ∀ ps r' , ((bW w r' = true ∧ o = .ok [.n (joinP ps)] r') ∨ (bW w r' = false ∧ o = .er r'.length)) → ∀ (v : V) (j : Nat) H', But p H H' → RdAt C H' p l j w → l.drop j = r' → i + 1 ≤ j → ValP H' v ps → Mid [some (.ref p), some v] H' := by
    rintro ps r' hc v j H' b' R' rfl hij ⟨a, us, rfl, ha, hT, hP, hn⟩
    exact ⟨a, us, ps, j, rfl, b', R', hij, ha, hT, hP, hn, hc⟩
  refine ⟨Mid, ?_, ?_⟩
  · refine ⟨_, rfl, p, C, dx, _, _, rfl, hp, R.cl, R.nS, rf_src _ _ _, _, rfl, p, C, dx, _, _, rfl, hp, R.cl, R.nA, rf_at _ _ _, _, _, _, rfl, rfl, hz, at_S h3, rfl, _, rfl, ite_S lit_ob (fun e123 => ?_) (fun n123 => ?_)⟩
    · have e123' : c = 123 := List.head_eq_of_cons_eq e123
      subst e123'
      refine ⟨_, rfl, p, dx, _, rfl, hp, rf_no _ _ _ (by decide +kernel) (by decide +kernel) (by decide +kernel), p, l, i, w, ?_⟩
      rw [e1] at hD
      cases hD with
      | @braced _ e _ h he =>
        refine ⟨_, rfl, hR, hm, ⟨r, e1, .inl ⟨e, by rw [e1]; exact h, rfl⟩⟩, mid _ _ (.inl ⟨he, ?_⟩)⟩
        by_cases h11 : e = 1
        · rw [if_pos h11]; rfl
        · rw [if_neg h11]; rfl
      | bracedE h => exact ⟨_, rfl, hR, hm, ⟨r, e1, .inr ⟨by rw [e1]; exact h, rfl⟩⟩, fun d H' b' h' => q d H' b' h'⟩
      | @bracedB _ e _ h he => exact ⟨_, rfl, hR, hm, ⟨r, e1, .inl ⟨e, by rw [e1]; exact h, rfl⟩⟩, mid _ _ (.inr ⟨he, rfl⟩)⟩
      | bare g1 _ _ _ => exact absurd rfl g1
      | bareE g1 _ _ => exact absurd rfl g1
    · have n123' : c ≠ 123 := fun z => n123 (by rw [z])
      refine ⟨_, rfl, p, C, dx, _, _, rfl, hp, R.cl, R.nS, rf_src _ _ _, _, rfl, p, C, dx, _, _, rfl, hp, R.cl, R.nA, rf_at _ _ _, _, _, _, rfl, rfl, hz, at_S h3, rfl, _, rfl, ite_S lit_q (fun e34 => ?_) (fun n34 => ?_)⟩
      · have e34' : c = 34 := List.head_eq_of_cons_eq e34
        subst e34'
        refine ⟨_, rfl, p, dx, _, rfl, hp, rf_no _ _ _ (by decide +kernel) (by decide +kernel) (by decide +kernel), p, l, i, w, ?_⟩
        rw [e1] at hD
        cases hD with
        | quoted d he => exact ⟨_, rfl, hR, hm, ⟨r, e1, d⟩, mid _ _ (.inl ⟨he, rfl⟩)⟩
        | quotedB d he => exact ⟨_, rfl, hR, hm, ⟨r, e1, d⟩, mid _ _ (.inr ⟨he, rfl⟩)⟩
        | quotedE d => exact ⟨_, rfl, hR, hm, ⟨r, e1, d⟩, fun d H' b' h' => q d H' b' h'⟩
        | bare _ g2 _ _ => exact absurd rfl g2
        | bareE _ g2 _ => exact absurd rfl g2
      · have n34' : c ≠ 34 := fun z => n34 (by rw [z])
        refine ⟨_, rfl, p, dx, _, rfl, hp, rf_no _ _ _ (by decide +kernel) (by decide +kernel) (by decide +kernel), p, l, i, w, ?_⟩
        have hD' := hD
        rw [e1] at hD'
        cases hD' with
        | braced _ _ => exact absurd rfl n123'
        | bracedE _ => exact absurd rfl n123'
        | bracedB _ _ => exact absurd rfl n123'
        | quoted _ _ => exact absurd rfl n34'
        | quotedB _ _ => exact absurd rfl n34'
        | quotedE _ => exact absurd rfl n34'
        | bare _ _ d he => exact ⟨.ok _ _, rfl, hR, hm, ⟨nw, by rw [e1]; exact d⟩, mid _ _ (.inl ⟨he, rfl⟩)⟩
        | bareE _ _ d => exact ⟨.er _, rfl, hR, hm, ⟨nw, by rw [e1]; exact d⟩, fun d H' b' h' => q d H' b' h'⟩
  · rintro σ H2 ⟨a, us, ps, j, rfl, hb, R2, hij, ha, hT, hP, hn, hc⟩
    obtain ⟨_, hj, dx2, hp2⟩ := id R2
    refine ⟨_, rfl, p, dx2, _, rfl, hp2, rf_no _ _ _ (by decide +kernel) (by decide +kernel) (by decide +kernel), p, l, j, w, rfl, R2, _, rfl, ?_⟩
    refine (?_ : if (!(bW w (l.drop j))) = true then _ else _)
    rcases hc with ⟨hw, rfl⟩ | ⟨hw, rfl⟩
    · rw [hw]
      refine iteF ⟨_, rfl, a, us, ps, rfl, ha, hT, hP, hn, fun p3 H3 s3 hv => ?_⟩
      exact q (.ref p3) j _ (hb.trans (Same.but s3)) (rd_same R2 s3) rfl hij ⟨_, rfl, hv⟩
    · rw [hw]
      refine iteT ⟨_, rfl, p, C, dx2, _, _, rfl, hp2, R.cl, R.nA, rf_at _ _ _, ?_⟩
      exact place_ok (told_but hj rfl hb q)
end
end My
namespace My
open PySem L2 SX C8
section
variable {P : Program} {w : World} {K : PySem.W.Frag} {mg : Str → Option Value} {base : Heap} {C CB : Addr}
theorem okr_read_command {f : Addr} {fd : FuncData} (R : RdC K mg C) (me : Meth K C "read_command" f) (F : C8.Fun K "read_command" "Reader.read_command" s_Reader_read_command f fd) (b : Binds K fd ["self"] []) (T : Txt mg) (c_ends_command : Met P w K mg base 3 C "ends_command" (spEnds C bC) []) (c_ends_word : Met P w K mg base 4 C "ends_word" (spEnds C bW) []) {n : Nat} (c_read_word : MetX P w K mg base (8 + 6 * n) C "read_word" (spRd C CB DWrdH 1 Val1 n)) : MetX P w K mg base (9 + 6 * n) C "read_command" (spRd C CB (fun w r o => bC w r = false ∧ DCmd w r o) 1 ValT n) := by
  rw [show 9 + 6 * n = (8 + 6 * n) + 1 by omega]
  refine metX R.cl me F b sc_Reader_read_command (fun vs H Q E h => ?_) (fun cdv A outer s H vs Q E hr h => ?_)
  · obtain ⟨p, l, i, w, o, rfl, _⟩ := h
    rfl
  obtain ⟨p, l, i, w, o, rfl, hR, hm, ⟨nc, hD⟩, q⟩ := h
  obtain ⟨hl, hi, dx, hp⟩ := id hR
  refine ⟨_, pss_cons (ps_set (i := 1) sc_Reader_read_command.nd rfl (Or.inl rfl) (pe_lst pa_nil))
    (pss_cons (ps_while (passes_of rfl) (pt_not (pt_val (pe_mt0 c_ends_command hr (by first | decide | assumption | omega) (pv 0))))
      (pss_one (ps_if (pt_val (pe_mt0 c_ends_word hr (by first | decide | assumption | omega) (pv 0)))
        (pss_one (ps_fldaug (pv 0) pe_int in_add))
        (pss_one (ps_expr (pe_bm PySem.F.plainAttrs_list PySem.F.slot_list_append PySem.F.type_list_append mt_append (pv 1) (pa_cons (pe_mx0 (E := E) c_read_word hr (by first | decide | assumption | omega) (passes_call (takes_of rfl rfl rfl rfl) (fun _ _ _ _ h => h)) (pv 0)) pa_nil)))))))
    (pss_one (ps_ret (pe_callTy call_tuple_of (by rfl) T.tuple (by decide +kernel) (pa_cons (pv 1) pa_nil))))), ?_⟩
  refine ⟨(by show 0 ≤ sizeLine; decide), fun a ha => ?_⟩
  have npa : p ≠ a := ne_of_none hp ha
  have sa := same_new ha (HO.lst [])
  let W : Nat → L2.St → Hp → Prop := fun m σ H2 => ∃ (k : Nat) (us : List V) (acc : List Tr) (o' : Out), σ = [some (.ref p), some (.ref a)] ∧ But p H H2 ∧ RdAt C H2 p l k w ∧ H2 a = some (.lst us) ∧ TrsAt H2 us acc ∧ acc.length + i ≤ k ∧ DCmd w (l.drop k) o' ∧ o = o'.app acc ∧ m = l.length - k
  refine ⟨W, ⟨_, i, [], [], o, rfl, Same.but sa, rd_same hR sa, upd_same, TrsAt.nil _, by simp, hD, (Out.app_nil o).symm, rfl⟩, ?_⟩
  rintro m σ H2 ⟨k, us, acc, o', rfl, hb, R2, hd, hT, hk, d, eo, rfl⟩
  obtain ⟨_, hkl, dx2, hp2⟩ := id R2
  refine ⟨_, rfl, p, dx2, _, rfl, hp2, rf_no _ _ _ (by decide +kernel) (by decide +kernel) (by decide +kernel), p, l, k, w, rfl, R2, _, rfl, ?_⟩
  refine (?_ : if (!(bC w (l.drop k))) = true then _ else _)
  cases hc : bC w (l.drop k) with
  | true =>
    have hwc : bW w (l.drop k) = true := by
      cases e : l.drop k with
      | nil => rfl
      | cons c r => rw [e] at hc; show (bC w (c :: r) || _) = true; rw [hc]; rfl
    have eo2 : o = .ok acc (l.drop k) := by
      generalize l.drop k = L at d hc hwc
      cases d with
      | stop _ => rw [eo]; show Out.ok (acc ++ []) _ = _; rw [List.append_nil]
      | skip h _ _ => rw [hc] at h; cases h
      | word h _ _ => rw [hwc] at h; cases h
      | wordE h _ => rw [hwc] at h; cases h
    rw [eo2] at q
    have hik : i ≠ k := fun z => by rw [z, hc] at nc; cases nc
    refine iteF ⟨_, rfl, a, us, rfl, .inl ⟨SqL.of hd, fun t ht => ?_⟩⟩
    have st := same_new ht (HO.tup us)
    exact q (.ref t) k _ (hb.trans (Same.but st)) (rd_same R2 st) rfl (by omega) (TrsAt.tup upd_same (hT.mono (Same.tups st)))
  | false =>
    refine iteT ⟨fun σ' H' => ∃ m', m' < l.length - k ∧ W m' σ' H', fun _ _ h => h, ?_⟩
    refine ⟨_, rfl, p, dx2, _, rfl, hp2, rf_no _ _ _ (by decide +kernel) (by decide +kernel) (by decide +kernel), p, l, k, w, rfl, R2, _, rfl, ?_⟩
    have hlt : k < l.length := by
      rcases drop_cases hkl with e | ⟨h, _⟩
      · rw [e] at hc; cases hc
      · exact h
    cases hw : bW w (l.drop k) with
    | true =>
      refine iteT ⟨_, rfl, p, C, dx2, _, _, rfl, hp2, R.cl, R.nA, rf_at _ _ _, _, _, rfl, rfl, dx2, _, hp2, (by show 3 < 1000; decide), ?_⟩
      have nap : a ≠ p := npa.symm
      have d2 : DCmd w (l.drop (k + 1)) o' := by
        have e0 := List.drop_eq_getElem_cons hlt
        rw [e0] at d hc hw
        cases d with
        | stop h => rw [hc] at h; cases h
        | skip _ _ d => exact d
        | word h _ _ => rw [hw] at h; cases h
        | wordE h _ => rw [hw] at h; cases h
      exact ⟨l.length - (k + 1), by omega, k + 1, us, acc, o', rfl, but_upd hb, rd_step hl (by omega), by rw [upd_ne nap]; exact hd, hT.mono (Tups.upd R2.notup), by omega, d2, eo, rfl⟩
    | false =>
      have c : ∃ o1, DWrd w (l.drop k) o1 ∧ ((∃ t r' o2, o1 = .ok [t] r' ∧ DCmd w r' o2 ∧ o' = o2.cons t) ∨ ∃ j, o1 = .er j ∧ o' = .er j) := by
        generalize l.drop k = L at d hc hw
        cases d with
        | stop h => rw [hc] at h; cases h
        | skip _ h _ => rw [hw] at h; cases h
        | word h d1 d2 => exact ⟨_, d1, .inl ⟨_, _, _, rfl, d2, rfl⟩⟩
        | wordE h d1 => exact ⟨_, d1, .inr ⟨_, rfl, rfl⟩⟩
      obtain ⟨o1, d1, c⟩ := c
      refine iteF ⟨_, rfl, .inl ⟨rfl, _, SqL.of hd⟩, _, rfl, p, dx2, _, rfl, hp2, rf_no _ _ _ (by decide +kernel) (by decide +kernel) (by decide +kernel), p, l, k, w, o1, rfl, R2, hm, ⟨hw, d1⟩, ?_⟩
      rcases c with ⟨t, r', o2, rfl, d2, rfl⟩ | ⟨j, rfl, rfl⟩
      · rintro v j H3 b3 R3 hj hij ⟨t', et, hv⟩
        cases et
        have hd3 := b3 _ _ hd npa.symm
        have u3 : Tups H2 H3 := But.tups b3 R2.notup
        have u4 : Tups H3 (upd H3 a (.lst (us ++ [v]))) := Tups.upd fun xs e => by rw [hd3] at e; cases e
        have hj2 := R3.2.1
        refine ⟨a, us, v, rfl, rfl, hd3, ?_, l.length - j, by omega, j, us ++ [v], acc ++ [t], o2, rfl, but_mut (hb.trans b3) ha, rd_upd R3 npa, upd_same, ((hT.mono u3).mono u4).snoc (hv.mono u4), by simp; omega, by rw [hj]; exact d2, by rw [eo, Out.app_cons], rfl⟩
        rw [hT.1]
        exact Nat.lt_of_le_of_lt (show _ ≤ 2000 by omega) (by decide)
      · rw [eo] at q
        exact fun d' H' b' h' => q d' H' (hb.trans b') h'
theorem dropRem_le (l : List Nat) : (dropRem l).length ≤ l.length := by
  induction l with
  | nil => exact Nat.le_refl _
  | cons c r ih =>
    unfold dropRem
    split
    · exact Nat.le_refl _
    · simp; omega
theorem okr_read_script {f : Addr} {fd : FuncData} (R : RdC K mg C) (me : Meth K C "read_script" f) (F : C8.Fun K "read_script" "Reader.read_script" s_Reader_read_script f fd) (b : Binds K fd ["self"] []) (T : Txt mg) (c_ends_script : Met P w K mg base 2 C "ends_script" (spEnds C bS) []) (c_ends_word : Met P w K mg base 4 C "ends_word" (spEnds C bW) []) (c_pass_remark : Met P w K mg base 2 C "pass_remark" (spMove C dropRem) []) {n : Nat} (c_read_command : MetX P w K mg base (9 + 6 * n) C "read_command" (spRd C CB (fun w r o => bC w r = false ∧ DCmd w r o) 1 ValT n)) : MetX P w K mg base (4 + 6 * (n + 1)) C "read_script" (spScr C CB (n + 1)) := by
  rw [show 4 + 6 * (n + 1) = (9 + 6 * n) + 1 by omega]
  refine metX R.cl me F b sc_Reader_read_script (fun vs H Q E h => ?_) (fun cdv A outer s H vs Q E hr h => ?_)
  · obtain ⟨p, l, i, w, o, rfl, _⟩ := h
    rfl
  obtain ⟨p, l, i, w, o, rfl, hR, hm, hD, q⟩ := h
  obtain ⟨hl, hi, dx, hp⟩ := id hR
  refine ⟨_, pss_cons (ps_set (i := 1) sc_Reader_read_script.nd rfl (Or.inl rfl) (pe_lst pa_nil))
    (pss_cons (ps_while (passes_of rfl) (pt_not (pt_val (pe_mt0 c_ends_script hr (by first | decide | assumption | omega) (pv 0))))
      (pss_one (ps_if (pt_val (pe_mt0 c_ends_word hr (by first | decide | assumption | omega) (pv 0)))
        (pss_one (ps_fldaug (pv 0) pe_int in_add))
        (pss_one (ps_if (pt_cmpR op_eq (pe_ix ix_str (pe_fld (pv 0) rfl) (pe_fld (pv 0) rfl) (fun _ _ => rfl)) pe_str (nomark _))
          (pss_one (ps_expr (pe_mt0 c_pass_remark hr (by first | decide | assumption | omega) (pv 0))))
          (pss_one (ps_expr (pe_bm PySem.F.plainAttrs_list PySem.F.slot_list_append PySem.F.type_list_append mt_append (pv 1) (pa_cons (pe_mx0 (E := E) c_read_command hr (by first | decide | assumption | omega) (passes_call (takes_of rfl rfl rfl rfl) (fun _ _ _ _ h => h)) (pv 0)) pa_nil)))))))))
    (pss_one (ps_ret (pv 1)))), ?_⟩
  have hz : (S l).length ≤ sizeLine := size_S (by omega)
  refine ⟨(by show 0 ≤ sizeLine; decide), fun a ha => ?_⟩
  have npa : p ≠ a := ne_of_none hp ha
  have nap : a ≠ p := npa.symm
  have sa := same_new ha (HO.lst [])
  let W : Nat → L2.St → Hp → Prop := fun m σ H2 => ∃ (k : Nat) (us : List V) (acc : List Tr) (o' : Out), σ = [some (.ref p), some (.ref a)] ∧ But p H H2 ∧ RdAt C H2 p l k w ∧ H2 a = some (.lst us) ∧ TrsAt H2 us acc ∧ acc.length + i ≤ k ∧ DScr w (l.drop k) o' ∧ o = o'.app acc ∧ m = 2 * (l.length - k) + (if (l.drop k).head? = some 35 then 1 else 0)
  refine ⟨W, ⟨_, i, [], [], o, rfl, Same.but sa, rd_same hR sa, upd_same, TrsAt.nil _, by simp, hD, (Out.app_nil o).symm, rfl⟩, ?_⟩
  rintro m σ H2 ⟨k, us, acc, o', rfl, hb, R2, hd, hT, hk, d, eo, rfl⟩
  obtain ⟨_, hkl, dx2, hp2⟩ := id R2
  refine ⟨_, rfl, p, dx2, _, rfl, hp2, rf_no _ _ _ (by decide +kernel) (by decide +kernel) (by decide +kernel), p, l, k, w, rfl, R2, _, rfl, ?_⟩
  refine (?_ : if (!(bS w (l.drop k))) = true then _ else _)
  have up : ∀ r, bS w r = true → bW w r = true := fun r h => by
    cases r with
    | nil => rfl
    | cons c r =>
      show ((bS w (c :: r) || _) || _) = true
      rw [h]; rfl
  cases hs : bS w (l.drop k) with
  | true =>
    have hw := up _ hs
    have eo2 : o = .ok acc (l.drop k) := by
      generalize l.drop k = L at d hs hw
      cases d with
      | stop _ => rw [eo]; show Out.ok (acc ++ []) _ = _; rw [List.append_nil]
      | skip h _ _ => rw [hs] at h; cases h
      | remark h _ => rw [hw] at h; cases h
      | cmd h _ _ _ => rw [hw] at h; cases h
      | cmdE h _ _ => rw [hw] at h; cases h
    rw [eo2] at q
    exact iteF ⟨_, rfl, q _ k _ hb R2 rfl (by omega) ⟨a, us, rfl, hd, hT⟩⟩
  | false =>
    have hlt : k < l.length := by
      rcases drop_cases hkl with e | ⟨h, _⟩
      · rw [e] at hs; cases hs
      · exact h
    have e0 := List.drop_eq_getElem_cons hlt
    refine iteT ⟨fun σ' H' => ∃ m', m' < 2 * (l.length - k) + (if (l.drop k).head? = some 35 then 1 else 0) ∧ W m' σ' H', fun _ _ h => h, ?_⟩
    refine ⟨_, rfl, p, dx2, _, rfl, hp2, rf_no _ _ _ (by decide +kernel) (by decide +kernel) (by decide +kernel), p, l, k, w, rfl, R2, _, rfl, ?_⟩
    have meas : ∀ j, k < j → 2 * (l.length - j) + (if (l.drop j).head? = some 35 then 1 else 0) < 2 * (l.length - k) + (if (l.drop k).head? = some 35 then 1 else 0) := fun j hj => by
      split <;> split <;> omega
    cases hw : bW w (l.drop k) with
    | true =>
      refine iteT ⟨_, rfl, p, C, dx2, _, _, rfl, hp2, R.cl, R.nA, rf_at _ _ _, _, _, rfl, rfl, dx2, _, hp2, (by show 3 < 1000; decide), ?_⟩
      have d2 : DScr w (l.drop (k + 1)) o' := by
        rw [e0] at d hs hw
        generalize l[k] = c at d hs hw
        cases d with
        | stop h => rw [hs] at h; cases h
        | skip _ _ d => exact d
        | remark h _ => rw [hw] at h; cases h
        | cmd h _ _ _ => rw [hw] at h; cases h
        | cmdE h _ _ => rw [hw] at h; cases h
      exact ⟨_, meas (k + 1) (by omega), k + 1, us, acc, o', rfl, but_upd hb, rd_step hl (by omega), by rw [upd_ne nap]; exact hd, hT.mono (Tups.upd R2.notup), by omega, d2, eo, rfl⟩
    | false =>
      refine iteF ⟨_, rfl, p, C, dx2, _, _, rfl, hp2, R.cl, R.nS, rf_src _ _ _, _, rfl, p, C, dx2, _, _, rfl, hp2, R.cl, R.nA, rf_at _ _ _, _, _, _, rfl, rfl, hz, at_S (List.getElem?_eq_getElem hlt), rfl, _, rfl, ite_S lit_hash (fun e35 => ?_) (fun n35 => ?_)⟩
      · have e35' : l[k] = 35 := List.head_eq_of_cons_eq e35
        refine ⟨_, rfl, p, dx2, _, rfl, hp2, rf_no _ _ _ (by decide +kernel) (by decide +kernel) (by decide +kernel), p, l, k, w, rfl, R2, fun j H3 b3 R3 hj => ?_⟩
        have hd3 := b3 _ _ hd nap
        have d2 : DScr w (dropRem (l.drop k)) o' := by
          rw [e0] at d hs hw ⊢
          rw [e35'] at d hs hw ⊢
          cases d with
          | stop h => rw [hs] at h; cases h
          | skip _ h _ => rw [hw] at h; cases h
          | remark _ d =>
            show DScr w (dropRem (35 :: l.drop (k + 1))) o'
            rw [dropRem, if_neg (by decide)]
            exact d
          | cmd _ h _ _ => exact absurd rfl h
          | cmdE _ h _ => exact absurd rfl h
        have hkj : k < j := by
          have h1 := congrArg List.length hj
          rw [e0, e35', dropRem, if_neg (by decide), List.length_drop] at h1
          have h2 := dropRem_le (l.drop (k + 1))
          rw [List.length_drop] at h2
          have := R3.2.1
          omega
        exact ⟨_, meas j hkj, j, us, acc, o', rfl, hb.trans b3, R3, hd3, hT.mono (But.tups b3 R2.notup), by omega, by rw [hj]; exact d2, eo, rfl⟩
      · have n35' : l[k] ≠ 35 := fun z => n35 (by rw [z])
        have c : ∃ o1, DCmd w (l.drop k) o1 ∧ ((∃ ts r' o2, o1 = .ok ts r' ∧ DScr w r' o2 ∧ o' = o2.cons (.n ts)) ∨ ∃ j, o1 = .er j ∧ o' = .er j) := by
          rw [e0] at d hs hw ⊢
          generalize l[k] = c at d hs hw n35' ⊢
          cases d with
          | stop h => rw [hs] at h; cases h
          | skip _ h _ => rw [hw] at h; cases h
          | remark h _ => exact absurd rfl n35'
          | cmd h _ d1 d2 => exact ⟨_, d1, .inl ⟨_, _, _, rfl, d2, rfl⟩⟩
          | cmdE h _ d1 => exact ⟨_, d1, .inr ⟨_, rfl, rfl⟩⟩
        obtain ⟨o1, d1, c⟩ := c
        have hcc : bC w (l.drop k) = false := by
          cases z : bC w (l.drop k) with
          | false => rfl
          | true =>
            rw [e0] at z hw
            have : bW w (l[k] :: l.drop (k + 1)) = true := by
              show (bC w (l[k] :: l.drop (k + 1)) || _) = true
              rw [z]; rfl
            rw [this] at hw
            cases hw
        refine ⟨_, rfl, .inl ⟨rfl, _, SqL.of hd⟩, _, rfl, p, dx2, _, rfl, hp2, rf_no _ _ _ (by decide +kernel) (by decide +kernel) (by decide +kernel), p, l, k, w, o1, rfl, R2, hm, ⟨hcc, d1⟩, ?_⟩
        rcases c with ⟨ts, r', o2, rfl, d2, rfl⟩ | ⟨j, rfl, rfl⟩
        · rintro v j H3 b3 R3 hj hij hv
          have hd3 := b3 _ _ hd nap
          have u3 : Tups H2 H3 := But.tups b3 R2.notup
          have u4 : Tups H3 (upd H3 a (.lst (us ++ [v]))) := Tups.upd fun xs e => by rw [hd3] at e; cases e
          have hj2 := R3.2.1
          refine ⟨a, us, v, rfl, rfl, hd3, ?_, _, meas j (by omega), j, us ++ [v], acc ++ [.n ts], o2, rfl, but_mut (hb.trans b3) ha, rd_upd R3 npa, upd_same, ((hT.mono u3).mono u4).snoc (TrAt.mono u4 (show TrAt H3 v (.n ts) from hv)), by simp; omega, by rw [hj]; exact d2, by rw [eo, Out.app_cons], rfl⟩
          rw [hT.1]
          exact Nat.lt_of_le_of_lt (show _ ≤ 2000 by omega) (by decide)
        · rw [eo] at q
          exact fun d' H' b' h' => q d' H' (hb.trans b') h'
/-- a Reader made -/
def spRdInit (C : Addr) : Sp := fun vs H Q _ => ∃ (p dx : Addr) (l : List Nat), vs = [.ref p, .str (S l)] ∧ H p = some (.ins C dx []) ∧ Q .non (upd (upd (upd H p (.ins C dx [("source", .str (S l))])) p (.ins C dx [("source", .str (S l)), ("at", .int 0)])) p (.ins C dx (rf l 0 0)))
theorem ok_rd_init {f : Addr} {fd : FuncData} (R : RdC K mg C) (F : C8.Fun K "__init__" "Reader.__init__" s_Reader___init__ f fd) (b : Binds K fd ["self", "source"] []) (M : Mk K C f) : Mak P w K mg base 1 "Reader" C (spRdInit C) [] := by
  refine mak0 M R.mgC F b .nil sc_Reader___init__ (fun vs H Q E h => ?_) (fun cdv A outer s H vs Q E hr h => ?_)
  · obtain ⟨p, dx, l, rfl, _⟩ := h
    rfl
  obtain ⟨p, dx, l, rfl, hp, q⟩ := h
  refine ⟨_, pss_cons (ps_fld (pv 0) (pv 1) rfl)
    (pss_cons (ps_fld (pv 0) pe_int rfl)
    (pss_one (ps_fld (pv 0) pe_int rfl))), ?_⟩
  refine ⟨_, rfl, _, rfl, p, C, dx, [], rfl, hp, R.cl, R.nS, (by show 0 < 1000; decide), ?_⟩
  refine ⟨_, rfl, p, C, dx, _, rfl, upd_same, R.cl, R.nA, (by show 1 < 1000; decide), ?_⟩
  refine ⟨_, rfl, p, C, dx, _, rfl, upd_same, R.cl, R.nW, ?_, ?_⟩
  · show (putF "at" (.int 0) [("source", V.str (S l))]).length < 1000
    rw [putF_cons, if_neg nSA]
    show 2 < 1000
    decide
  · have e1 : putF "at" (.int 0) [("source", V.str (S l))] = ([("source", .str (S l)), ("at", .int 0)] : List (Str × V)) := by
      rw [putF_cons, if_neg nSA]; rfl
    have e2 : putF "within" (.int 0) [("source", V.str (S l)), ("at", .int 0)] = rf l 0 0 := by
      rw [putF_cons, if_neg nSW, putF_cons, if_neg nAW]; rfl
    show Q .non (upd (upd (upd H p (.ins C dx [("source", .str (S l))])) p (.ins C dx (putF "at" (.int 0) [("source", V.str (S l))]))) p (.ins C dx (putF "within" (.int 0) (putF "at" (.int 0) [("source", V.str (S l))]))))
    rw [e1, e2]
    exact q
def spParsed (CB : Addr) : Sp := fun vs H Q E => ∃ (l : List Nat) (o : Out), vs = [.str (S l)] ∧ l.length ≤ 1000 ∧ DScr 0 l o ∧
  (match o with
   | .ok ts _ => ∀ (v : V) H', Same H H' → ValL H' v ts → Q v H'
   | .er k => ∀ (d : Addr) H', Same H H' → H' d = some (.xd [("place", .int ((l.length - k : Nat) : Int))]) → E (.ref CB) (some d) H')
theorem ok_parsed {f : Addr} {fd : FuncData} (F : Def K mg "parsed" s_parsed f fd) (b : Binds K fd ["text"] []) (T : Txt mg) (R : RdC K mg C) (c_refuse_long : Cal P w K mg base 1 "refuse_long" spRefuse []) (c_Reader : Mak P w K mg base 1 "Reader" C (spRdInit C) []) (c_read_script : MetX P w K mg base 82 C "read_script" (spScr C CB 13)) : CalX P w K mg base 83 "parsed" (spParsed CB) := by
  refine calX F b sc_parsed (fun vs H Q E h => ?_) (fun cdv A outer s H vs Q E hr h => ?_)
  · obtain ⟨l, o, rfl, _⟩ := h
    rfl
  obtain ⟨l, o, rfl, hl, hD, q⟩ := h
  refine ⟨_, pss_cons (ps_expr (pe_c c_refuse_long hr (by first | decide | assumption | omega) rfl (pa_cons (pv 0) pa_nil)))
    (pss_cons (ps_set (i := 1) sc_parsed.nd rfl (Or.inl rfl) (pe_mk c_Reader hr (by first | decide | assumption | omega) rfl (pa_cons (pv 0) pa_nil)))
    (pss_one (ps_ret (pe_mx0 (E := E) c_read_script hr (by first | decide | assumption | omega) (passes_call (takes_of rfl rfl rfl rfl) (fun _ _ _ _ h => h)) (pv 1))))), ?_⟩
  refine ⟨_, rfl, l, rfl, hl, _, rfl, fun p dx hp hdx npd => ⟨p, dx, l, rfl, upd_same, rfl, ?_⟩⟩
  have s1 : Same H (upd (upd (upd (upd (upd H dx (.own p)) p (.ins C dx [])) p (.ins C dx [("source", .str (S l))])) p (.ins C dx [("source", .str (S l)), ("at", .int 0)])) p (.ins C dx (rf l 0 0))) := fun b o hb => by
    have n1 : b ≠ p := ne_of_none hb hp
    have n2 : b ≠ dx := ne_of_none hb hdx
    rw [upd_ne n1, upd_ne n1, upd_ne n1, upd_ne n1, upd_ne n2]
    exact hb
  have R1 : RdAt C (upd (upd (upd (upd (upd H dx (.own p)) p (.ins C dx [])) p (.ins C dx [("source", .str (S l))])) p (.ins C dx [("source", .str (S l)), ("at", .int 0)])) p (.ins C dx (rf l 0 0))) p l 0 0 := ⟨hl, Nat.zero_le _, dx, upd_same⟩
  generalize upd (upd (upd (upd (upd H dx (.own p)) p (.ins C dx [])) p (.ins C dx [("source", .str (S l))])) p (.ins C dx [("source", .str (S l)), ("at", .int 0)])) p (.ins C dx (rf l 0 0)) = H1 at s1 R1 ⊢
  obtain ⟨_, _, dx1, hp1⟩ := id R1
  have sb : ∀ {H'}, But p H1 H' → Same H H' := fun {H'} b' c o hc => b' c o (s1 c o hc) (ne_of_none hc hp)
  refine ⟨_, rfl, p, dx1, _, rfl, hp1, rf_no _ _ _ (by decide +kernel) (by decide +kernel) (by decide +kernel), p, l, 0, 0, o, rfl, R1, (by show 12 ≤ 0 + 12; decide), hD, ?_⟩
  cases o with
  | ok ts r => exact fun v j H' b' _ _ _ hv => q v H' (sb b') hv
  | er k => exact fun d H' b' h' => q d H' (sb b') h'
end
end My
namespace My
open PySem L2 SX C8
/-- a method of the class at C, without a promise yet -/
def Mf (K : PySem.W.Frag) (C : Addr) (m qual : Str) (st : Stmt) : Prop := ∃ (f : Addr) (fd : FuncData), Meth K C m f ∧ C8.Fun K m qual st f fd ∧ Binds K fd ["self"] []
structure RdM (K : PySem.W.Frag) (C : Addr) : Prop where
  ends_text : Mf K C "ends_text" "Reader.ends_text" s_Reader_ends_text
  ends_script : Mf K C "ends_script" "Reader.ends_script" s_Reader_ends_script
  ends_command : Mf K C "ends_command" "Reader.ends_command" s_Reader_ends_command
  ends_word : Mf K C "ends_word" "Reader.ends_word" s_Reader_ends_word
  read_script : Mf K C "read_script" "Reader.read_script" s_Reader_read_script
  pass_remark : Mf K C "pass_remark" "Reader.pass_remark" s_Reader_pass_remark
  read_command : Mf K C "read_command" "Reader.read_command" s_Reader_read_command
  read_word : Mf K C "read_word" "Reader.read_word" s_Reader_read_word
  read_braced : Mf K C "read_braced" "Reader.read_braced" s_Reader_read_braced
  read_quoted : Mf K C "read_quoted" "Reader.read_quoted" s_Reader_read_quoted
  read_bare : Mf K C "read_bare" "Reader.read_bare" s_Reader_read_bare
  read_piece : Mf K C "read_piece" "Reader.read_piece" s_Reader_read_piece
  read_turned : Mf K C "read_turned" "Reader.read_turned" s_Reader_read_turned
  read_name : Mf K C "read_name" "Reader.read_name" s_Reader_read_name
  read_letters : Mf K C "read_letters" "Reader.read_letters" s_Reader_read_letters
  read_run : Mf K C "read_run" "Reader.read_run" s_Reader_read_run
section
variable {P : Program} {w : World} {K : PySem.W.Frag} {mg : Str → Option Value} {base : Heap} {C CB : Addr}
theorem ok_place_init {f : Addr} {fd : FuncData} (O : OexC K CB) (no : PySem.W.findIn K (.ref CB) "place" = some none) (F : C8.Fun K "__init__" "BadScript.__init__" s_BadScript___init__ f fd) : FnOk P w K mg base C8.CX0 1 f fd ["self", "place"] (spPlace CB) := by
  refine fn0 F sc_BadScript___init__ (fun vs H Q E h => ?_) (fun cdv A outer s H vs Q E hr h => ?_)
  · obtain ⟨a, y, rfl, _⟩ := h
    rfl
  obtain ⟨a, y, rfl, ha, q⟩ := h
  refine ⟨_, pss_one (ps_ost (pv 0) (pv 1)), ?_⟩
  exact ⟨_, rfl, _, rfl, a, CB, rfl, O, no, .inl ⟨ha, fun dx h1 h2 => q dx h1 h2⟩⟩
theorem ok_reader (R : RdC K mg C) (M : RdM K C) (T : Txt mg) (xB : PlaceC P w K mg base "BadScript" CB) (c_pair_end : Cal P w K mg base 1 "pair_end" spPend []) (c_meant : Cal P w K mg base 1 "meant" spMean []) (c_is_letter : Cal P w K mg base 1 "is_letter" spLetter []) (c_is_name : Cal P w K mg base 2 "is_name" spName []) (c_joined : Cal P w K mg base 1 "joined" spJoined []) :
    ∀ n, MetX P w K mg base (4 + 6 * n) C "read_script" (spScr C CB n)
  | 0 => by
    obtain ⟨f, fd, me, F, b⟩ := M.read_script
    exact ⟨f, fd, ["self"], R.cl, me, ⟨fun _ _ _ _ h => h.elim, fun _ _ _ _ _ _ _ _ _ _ _ _ _ h => h.elim⟩, b⟩
  | n + 1 => by
    have c_read_script := ok_reader R M T xB c_pair_end c_meant c_is_letter c_is_name c_joined n
    obtain ⟨_, _, me1, F1, b1⟩ := M.ends_text
    have c_ends_text := ok_ends_text (P := P) (w := w) (base := base) R me1 F1 b1 T
    obtain ⟨_, _, me2, F2, b2⟩ := M.ends_script
    have c_ends_script := ok_ends_script (P := P) (w := w) (base := base) R me2 F2 b2 T c_ends_text
    obtain ⟨_, _, me3, F3, b3⟩ := M.ends_command
    have c_ends_command := ok_ends_command (P := P) (w := w) (base := base) R me3 F3 b3 T c_ends_script
    obtain ⟨_, _, me4, F4, b4⟩ := M.ends_word
    have c_ends_word := ok_ends_word (P := P) (w := w) (base := base) R me4 F4 b4 T c_ends_command
    obtain ⟨_, _, me5, F5, b5⟩ := M.pass_remark
    have c_pass_remark := ok_pass_remark (P := P) (w := w) (base := base) R me5 F5 b5 T c_ends_text
    obtain ⟨_, _, me6, F6, b6⟩ := M.read_letters
    have c_read_letters := okr_read_letters (P := P) (w := w) (base := base) R me6 F6 b6 T c_ends_text c_is_letter
    obtain ⟨_, _, me7, F7, b7⟩ := M.read_turned
    have c_read_turned := okr_read_turned (P := P) (w := w) (base := base) R me7 F7 b7 T xB c_meant n
    obtain ⟨_, _, me8, F8, b8⟩ := M.read_braced
    have c_read_braced := okr_read_braced (P := P) (w := w) (base := base) R me8 F8 b8 T xB c_pair_end n
    obtain ⟨_, _, me9, F9, b9⟩ := M.read_name
    have c_read_name := okr_read_name (P := P) (w := w) (base := base) R me9 F9 b9 T xB c_read_letters c_is_name n
    obtain ⟨_, _, me10, F10, b10⟩ := M.read_run
    have c_read_run := okr_read_run (P := P) (w := w) (base := base) R me10 F10 b10 T xB c_ends_text c_read_script
    obtain ⟨_, _, me11, F11, b11⟩ := M.read_piece
    have c_read_piece := okr_read_piece (P := P) (w := w) (base := base) R me11 F11 b11 T c_read_turned c_read_name c_read_run
    obtain ⟨_, _, me12, F12, b12⟩ := M.read_quoted
    have c_read_quoted := okr_read_quoted (P := P) (w := w) (base := base) R me12 F12 b12 T xB c_ends_text c_read_piece
    obtain ⟨_, _, me13, F13, b13⟩ := M.read_bare
    have c_read_bare := okr_read_bare (P := P) (w := w) (base := base) R me13 F13 b13 T c_ends_word c_read_piece
    obtain ⟨_, _, me14, F14, b14⟩ := M.read_word
    have c_read_word := okr_read_word (P := P) (w := w) (base := base) R me14 F14 b14 T xB c_ends_word c_joined c_read_braced c_read_quoted c_read_bare
    obtain ⟨_, _, me15, F15, b15⟩ := M.read_command
    have c_read_command := okr_read_command (P := P) (w := w) (base := base) R me15 F15 b15 T c_ends_command c_ends_word c_read_word
    obtain ⟨_, _, me16, F16, b16⟩ := M.read_script
    exact okr_read_script (P := P) (w := w) (base := base) R me16 F16 b16 T c_ends_script c_ends_word c_pass_remark c_read_command
end
end My
namespace My
open PySem L2 SX
/-! ### every text has an outcome -/
def OkLe (n : Nat) : Out → Prop
  | .ok _ r => r.length ≤ n
  | .er _ => True
def OkPc (n : Nat) : Out → Prop
  | .ok ts r => (∃ t, ts = [t]) ∧ r.length < n
  | .er _ => True
theorem OkLe.cons {n : Nat} {t : Tr} {o : Out} (h : OkLe n o) : OkLe n (o.cons t) := by
  cases o <;> exact h
theorem OkLe.mono {n m : Nat} {o : Out} (h : OkLe n o) (hl : n ≤ m) : OkLe m o := by
  cases o with
  | ok ts r => exact Nat.le_trans h hl
  | er k => trivial
theorem dropWhile_len (l : List Nat) : (l.dropWhile low).length ≤ l.length := (List.dropWhile_sublist low (l := l)).length_le
theorem nameOf_len {r n r1 : List Nat} (h : nameOf r = some (n, r1)) : r1.length ≤ r.length := by
  unfold nameOf at h
  split at h
  · rename_i r0
    split at h
    · split at h
      · rename_i r2 e
        cases h
        have := dropWhile_len r0
        rw [e] at this
        simp at this ⊢
        omega
      · cases h
    · cases h
  · split at h
    · cases h
      exact dropWhile_len r
    · cases h
theorem dropRem_le9 (l : List Nat) : (dropRem l).length ≤ l.length := by
  induction l with
  | nil => exact Nat.le_refl _
  | cons c r ih =>
    unfold dropRem
    split
    · exact Nat.le_refl _
    · simp; omega
theorem scr_end9 : ∀ {w : Nat} {r : List Nat} {o : Out}, DScr w r o → ∀ cs r1, o = .ok cs r1 → bS w r1 = true
  | _, _, _, .stop h, cs, r1, e => by cases e; exact h
  | _, _, _, .skip _ _ d, cs, r1, e => scr_end9 d cs r1 e
  | _, _, _, .remark _ d, cs, r1, e => scr_end9 d cs r1 e
  | _, _, _, .cmd (o := .ok cs2 r2) _ _ _ d, cs, r1, e => by
    cases e
    exact scr_end9 d cs2 r2 rfl
  | _, _, _, .cmd (o := .er k) _ _ _ d, cs, r1, e => by cases e
  | _, _, _, .cmdE _ _ _, cs, r1, e => by cases e
theorem bar_end9 : ∀ {w : Nat} {r : List Nat} {o : Out}, DBar w r o → ∀ cs r1, o = .ok cs r1 → bW w r1 = true
  | _, _, _, .stop h, cs, r1, e => by cases e; exact h
  | _, _, _, .piece (o := .ok a b) _ _ d, cs, r1, e => by
    cases e
    exact bar_end9 d a b rfl
  | _, _, _, .piece (o := .er k) _ _ d, cs, r1, e => by cases e
  | _, _, _, .pieceE _ _, cs, r1, e => by cases e
structure Tot (n : Nat) : Prop where
  s : ∀ (l : List Nat) (w : Nat), l.length ≤ n → w ≤ 12 → ∃ o, DScr w l o ∧ OkLe l.length o
  c : ∀ (l : List Nat) (w : Nat), l.length ≤ n → w ≤ 12 → ∃ o, DCmd w l o ∧ OkLe l.length o
  q : ∀ (l : List Nat) (w q : Nat), l.length ≤ n → w ≤ 12 → ∃ o, DQuo w q l o ∧ OkLe l.length o
  b : ∀ (l : List Nat) (w : Nat), l.length ≤ n → w ≤ 12 → ∃ o, DBar w l o ∧ OkLe l.length o
theorem pc_tot {n : Nat} (T : Tot n) (c : Nat) (r : List Nat) (w : Nat) (h : r.length ≤ n) (hw : w ≤ 12) : ∃ o, DPc w (c :: r) o ∧ OkPc (r.length + 1) o := by
  by_cases h1 : c = 92
  · subst h1
    cases r with
    | nil => exact ⟨_, .turnE, trivial⟩
    | cons d r => exact ⟨_, .turn, ⟨_, rfl⟩, by simp; omega⟩
  · by_cases h2 : c = 36
    · subst h2
      cases e : nameOf r with
      | none => exact ⟨_, .nameE e, trivial⟩
      | some p =>
        obtain ⟨nm, r1⟩ := p
        have := nameOf_len e
        exact ⟨_, .name e, ⟨_, rfl⟩, by omega⟩
    · by_cases h3 : c = 91
      · subst h3
        by_cases hw2 : w = 12
        · exact ⟨_, .runM hw2, trivial⟩
        · obtain ⟨o, d, hle⟩ := T.s r (w + 1) h (by omega)
          cases o with
          | er k => exact ⟨_, .runE (by omega) d, trivial⟩
          | ok cs r1 =>
            cases r1 with
            | nil => exact ⟨_, .runB (by omega) d, trivial⟩
            | cons x r2 =>
              have hx : x = 93 := by
                have hb := scr_end9 d _ _ rfl
                have : (decide (0 < w + 1) && decide (x = 93)) = true := hb
                simp at this
                exact this
              subst hx
              have hle' : (93 :: r2).length ≤ r.length := hle
              exact ⟨_, .run (by omega) d, ⟨_, rfl⟩, by simp at hle'; omega⟩
      · exact ⟨_, .sign h1 h2 h3, ⟨_, rfl⟩, by omega⟩
theorem tot : ∀ n, Tot n
  | 0 => by
    have nil : ∀ l : List Nat, l.length ≤ 0 → l = [] := fun l h => List.eq_nil_of_length_eq_zero (by omega)
    exact ⟨fun l w h _ => by rw [nil l h]; exact ⟨_, .stop rfl, Nat.le_refl _⟩, fun l w h _ => by rw [nil l h]; exact ⟨_, .stop rfl, Nat.le_refl _⟩, fun l w q h _ => by rw [nil l h]; exact ⟨_, .lacks, trivial⟩, fun l w h _ => by rw [nil l h]; exact ⟨_, .stop rfl, Nat.le_refl _⟩⟩
  | n + 1 => by
    have T := tot n
    have small : ∀ (l : List Nat), l.length ≤ n + 1 → l.length ≤ n ∨ ∃ c r, l = c :: r ∧ r.length = n := fun l h => by
      by_cases h1 : l.length ≤ n
      · exact .inl h1
      · cases l with
        | nil => exact .inl (Nat.zero_le _)
        | cons c r => exact .inr ⟨c, r, rfl, by simp at h h1; omega⟩
    have hb : ∀ (l : List Nat) (w : Nat), l.length ≤ n + 1 → w ≤ 12 → ∃ o, DBar w l o ∧ OkLe l.length o := fun l w h hw => by
      rcases small l h with h1 | ⟨c, r, rfl, hr⟩
      · exact T.b l w h1 hw
      · cases hbw : bW w (c :: r) with
        | true => exact ⟨_, .stop hbw, Nat.le_refl _⟩
        | false =>
          obtain ⟨o, d, hp⟩ := pc_tot T c r w (by omega) hw
          cases o with
          | er k => exact ⟨_, .pieceE hbw d, trivial⟩
          | ok ts r1 =>
            obtain ⟨⟨t, rfl⟩, hl⟩ := hp
            obtain ⟨o2, d2, h2⟩ := T.b r1 w (by omega) hw
            exact ⟨_, .piece hbw d d2, (h2.mono (by simp; omega)).cons⟩
    have hq : ∀ (l : List Nat) (w q : Nat), l.length ≤ n + 1 → w ≤ 12 → ∃ o, DQuo w q l o ∧ OkLe l.length o := fun l w q h hw => by
      rcases small l h with h1 | ⟨c, r, rfl, hr⟩
      · exact T.q l w q h1 hw
      · by_cases hc : c = 34
        · subst hc
          exact ⟨_, .stop, by show r.length ≤ _; simp⟩
        · obtain ⟨o, d, hp⟩ := pc_tot T c r w (by omega) hw
          cases o with
          | er k => exact ⟨_, .pieceE hc d, trivial⟩
          | ok ts r1 =>
            obtain ⟨⟨t, rfl⟩, hl⟩ := hp
            obtain ⟨o2, d2, h2⟩ := T.q r1 w q (by omega) hw
            exact ⟨_, .piece hc d d2, (h2.mono (by simp; omega)).cons⟩
    have hwd : ∀ (c : Nat) (r : List Nat) (w : Nat), r.length = n → w ≤ 12 → bW w (c :: r) = false → ∃ o, DWrd w (c :: r) o ∧ OkPc (r.length + 1) o := fun c r w hr hw hbw => by
      by_cases h1 : c = 123
      · subst h1
        cases e : pend 0 0 (123 :: r) with
        | none => exact ⟨_, .bracedE e, trivial⟩
        | some k =>
          cases hb2 : bW w (r.drop k) with
          | true => exact ⟨_, .braced e hb2, ⟨_, rfl⟩, by rw [List.length_drop]; omega⟩
          | false => exact ⟨_, .bracedB e hb2, trivial⟩
      · by_cases h2 : c = 34
        · subst h2
          obtain ⟨o, d, hle⟩ := T.q r w (r.length + 1) (by omega) hw
          cases o with
          | er k => exact ⟨_, .quotedE d, trivial⟩
          | ok ps r1 =>
            have hle' : r1.length ≤ r.length := hle
            cases hb2 : bW w r1 with
            | true => exact ⟨_, .quoted d hb2, ⟨_, rfl⟩, by omega⟩
            | false => exact ⟨_, .quotedB d hb2, trivial⟩
        · obtain ⟨o, d, hp⟩ := pc_tot T c r w (by omega) hw
          cases o with
          | er k => exact ⟨_, .bareE h1 h2 (.pieceE hbw d), trivial⟩
          | ok ts r1 =>
            obtain ⟨⟨t, rfl⟩, hl⟩ := hp
            obtain ⟨o2, d2, hl2⟩ := T.b r1 w (by omega) hw
            cases o2 with
            | er k => exact ⟨_, .bareE h1 h2 (.piece (o := .er k) hbw d d2), trivial⟩
            | ok ps r2 =>
              have hl2' : r2.length ≤ r1.length := hl2
              have he : bW w r2 = true := by
                exact bar_end9 d2 _ _ rfl
              exact ⟨_, .bare h1 h2 (.piece hbw d d2) he, ⟨_, rfl⟩, by omega⟩
    have one : ∀ (c : Nat) (r : List Nat) (w : Nat), r.length = n → w ≤ 12 → bW w (c :: r) = false → ∃ o, DCmd w (c :: r) o ∧ OkLe r.length o := fun c r w hr hw hbw => by
      obtain ⟨o, d, hp⟩ := hwd c r w hr hw hbw
      cases o with
      | er k => exact ⟨_, .wordE hbw d, trivial⟩
      | ok ts r1 =>
        obtain ⟨⟨t, rfl⟩, hl⟩ := hp
        obtain ⟨o2, d2, h2⟩ := T.c r1 w (by omega) hw
        exact ⟨_, .word hbw d d2, (h2.mono (by omega)).cons⟩
    have hc : ∀ (l : List Nat) (w : Nat), l.length ≤ n + 1 → w ≤ 12 → ∃ o, DCmd w l o ∧ OkLe l.length o := fun l w h hw => by
      rcases small l h with h1 | ⟨c, r, rfl, hr⟩
      · exact T.c l w h1 hw
      · cases hbc : bC w (c :: r) with
        | true => exact ⟨_, .stop hbc, Nat.le_refl _⟩
        | false =>
          cases hbw : bW w (c :: r) with
          | true =>
            obtain ⟨o, d, h2⟩ := T.c r w (by omega) hw
            exact ⟨_, .skip hbc hbw d, h2.mono (by simp)⟩
          | false =>
            obtain ⟨o, d, h2⟩ := one c r w hr hw hbw
            exact ⟨o, d, h2.mono (by simp)⟩
    have hs : ∀ (l : List Nat) (w : Nat), l.length ≤ n + 1 → w ≤ 12 → ∃ o, DScr w l o ∧ OkLe l.length o := fun l w h hw => by
      rcases small l h with h1 | ⟨c, r, rfl, hr⟩
      · exact T.s l w h1 hw
      · cases hbs : bS w (c :: r) with
        | true => exact ⟨_, .stop hbs, Nat.le_refl _⟩
        | false =>
          cases hbw : bW w (c :: r) with
          | true =>
            obtain ⟨o, d, h2⟩ := T.s r w (by omega) hw
            exact ⟨_, .skip hbs hbw d, h2.mono (by simp)⟩
          | false =>
            by_cases h35 : c = 35
            · subst h35
              have hd := dropRem_le9 r
              obtain ⟨o, d, h2⟩ := T.s (dropRem r) w (by omega) hw
              exact ⟨_, .remark hbw d, h2.mono (by simp; omega)⟩
            · obtain ⟨o, d, h2⟩ := one c r w hr hw hbw
              cases o with
              | er k => exact ⟨_, .cmdE hbw h35 d, trivial⟩
              | ok ts r2 =>
                have h2' : r2.length ≤ r.length := h2
                obtain ⟨o2, d2, h3⟩ := T.s r2 w (by omega) hw
                exact ⟨_, .cmd hbw h35 d d2, (h3.mono (by simp; omega)).cons⟩
    exact ⟨hs, hc, hq, hb⟩
theorem scr_tot (l : List Nat) : ∃ o, DScr 0 l o := by
  obtain ⟨o, d, _⟩ := (tot l.length).s l 0 (Nat.le_refl _) (by decide)
  exact ⟨o, d⟩
end My
namespace My
open PySem L2 SX C8
theorem cut63 {xs : List V} (h : xs.length ≤ 63) : cutV xs none (some 63) = xs := by
  unfold cutV
  have e : HT.sIx xs.length xs.length (some 63) = xs.length := by
    have := HT.sIx_nat xs.length xs.length 63
    rw [Nat.min_eq_right h] at this
    exact this
  rw [e, HT.sIx_none]
  simp
section
variable {P : Program} {w : World} {K : PySem.W.Frag} {mg : Str → Option Value} {base : Heap}
theorem ok__law_bag {f : Addr} {fd : FuncData} (F : Def K mg "_law_bag" s__law_bag f fd) (b : Binds K fd ["_law_script"] []) (T : Txt mg) : Cal P w K mg base 1 "_law_bag" (spBag K) [] := by
  refine cal0 F b .nil sc__law_bag (fun vs H Q E h => ?_) (fun cdv A outer s H vs Q E hr h => ?_)
  · obtain ⟨a, ns, rfl, _⟩ := h
    rfl
  obtain ⟨a, ns, rfl, hS, hl, q⟩ := h
  refine ⟨_, pss_cons (ps_set (i := 1) sc__law_bag.nd rfl (Or.inl rfl) pe_int)
    (pss_cons (ps_for PassesOwn.never rfl (pi_list (pe_slice sl_list (pv 0) po_none (po_some pe_int))) (pg_name (i := 2) sc__law_bag.nd rfl (Or.inl rfl))
      (pss_one (ps_set (i := 1) sc__law_bag.nd rfl (Or.inl rfl) (pe_op op_mod (pe_op op_add (pe_op op_add (pe_op op_mul (pv 1) pe_int) (pe_op op_mod (pv 2) pe_int)) pe_int) pe_int))))
    (pss_one (ps_ret (pe_lst (pa_cons (pe_callTy call_list_of (by rfl) T.list (by decide +kernel) (pa_cons (pe_slice sl_list (pv 0) po_none (po_some pe_int)) pa_nil)) (pa_cons pe_int (pa_cons pe_int (pa_cons (pv 1) pa_nil)))))))), ?_⟩
  have hl' : (ns.map V.int).length ≤ 63 := by rw [List.length_map]; exact hl
  refine ⟨_, rfl, _, rfl, a, _, rfl, hS, fun p hp => ?_⟩
  rw [cut63 hl']
  have s1 := same_new hp (HO.lst (ns.map V.int))
  refine ⟨p, rfl, ⟨_, SqL.of upd_same⟩, for_list (K := K) (a := p) (xs := ns.map V.int) (fun i σ H2 => ∃ (z : Int) (v : Option V), σ = [some (.ref a), some (.int z), v] ∧ Same H H2 ∧ H2 p = some (.lst (ns.map V.int)) ∧ 0 ≤ z ∧ z < 2147483647)
      ⟨8968, none, rfl, s1, upd_same, by decide, by decide⟩ (fun i σ H2 _ ⟨_, _, _, _, h, _⟩ => SqL.of h) ?_ ?_⟩
  · rintro i y σ H2 hi ⟨z, v, rfl, s2, h2, hz0, hz1⟩
    obtain ⟨n, rfl⟩ : ∃ n, y = V.int n := by
      rw [List.getElem?_map] at hi
      cases e : ns[i]? with
      | none => rw [e] at hi; cases hi
      | some n => rw [e] at hi; exact ⟨n, (Option.some.inj hi).symm⟩
    refine ⟨_, rfl, _, _, rfl, rfl, .inl ⟨by omega, by omega⟩, _, rfl, _, _, rfl, rfl, (by show (0 : Int) < 2147483629; decide), _, _, rfl, rfl, _, _, rfl, rfl, _, _, rfl, rfl, (by show (0 : Int) < 2147483647; decide), ?_⟩
    exact ⟨_, _, rfl, s2, h2, Int.emod_nonneg _ (by decide), Int.emod_lt_of_pos _ (by decide)⟩
  · rintro σ H2 ⟨z, v, rfl, s2, h2, hz0, hz1⟩
    refine ⟨_, rfl, _, rfl, a, _, rfl, Same.seq s2 hS, fun p2 hp2 => ?_⟩
    rw [cut63 hl']
    have s3 := s2.trans (same_new hp2 (HO.lst (ns.map V.int)))
    refine ⟨p2, _, rfl, .inl (SqL.of upd_same), fun l hl2 => ⟨_, rfl, (by show 4 ≤ sizeLine; decide), fun b2 hb2 => ?_⟩⟩
    have s4 := s3.trans (same_new hl2 (HO.lst (ns.map V.int)))
    have s5 := s4.trans (same_new hb2 (HO.lst [.ref l, .int 0, .int 0, .int z]))
    have nlb : l ≠ b2 := ne_of_none (show (upd (upd H2 p2 (.lst (ns.map V.int))) l (.lst (ns.map V.int))) l = some (.lst (ns.map V.int)) from upd_same) hb2
    exact q b2 l _ s5 (Same.free s4 hb2) ⟨ns, 0, 0, z, upd_same, by rw [upd_ne nlb]; exact upd_same, nlb, hl, Nat.zero_le _, Int.le_refl _, hz0, hz1⟩
end
end My
namespace My
open PySem L2 SX C8
section
variable {P : Program} {w : World} {K : PySem.W.Frag} {mg : Str → Option Value} {base : Heap}
theorem ok__law_pull {f : Addr} {fd : FuncData} (F : Def K mg "_law_pull" s__law_pull f fd) (b : Binds K fd ["_law_bag_here", "_law_amount"] []) (T : Txt mg) : Cal P w K mg base 1 "_law_pull" spPull [] := by
  refine cal0 F b .nil sc__law_pull (fun vs H Q E h => ?_) (fun cdv A outer s H vs Q E hr h => ?_)
  · obtain ⟨a, l, n, rfl, _⟩ := h
    rfl
  obtain ⟨b, l, n, rfl, B, hn0, hn1, q⟩ := h
  obtain ⟨ns, i, cur, salt, hb, hl, nlb, hlen, hi, hc, hs0, hs1⟩ := B.ex
  refine ⟨_, pss_cut (ps_if (PW.pt (pw_and (pt_cmpR op_eq (pe_ix ix_list (pv 0) pe_int (fun _ _ => rfl)) pe_int (nomark _)) (pw_and1 (pt_cmpR op_lt (pe_ix ix_list (pv 0) pe_int (fun _ _ => rfl)) (pe_callB call_len (by rfl) T.len (by decide +kernel) (pa_cons (pe_ix ix_list (pv 0) pe_int (fun _ _ => rfl)) pa_nil)) (nomark _)))))
      (pss_cons (ps_set (i := 2) sc__law_pull.nd rfl (Or.inl rfl) (pe_ix ix_seq (pe_ix ix_list (pv 0) pe_int (fun _ _ => rfl)) (pe_ix ix_list (pv 0) pe_int (fun _ _ => rfl)) (fun _ _ => rfl)))
      (pss_cons (ps_asg (pe_op op_add (pe_ix ix_list (pv 0) pe_int (fun _ _ => rfl)) pe_int) (pg_sub (pv 0) pe_int set_list))
      (pss_one (ps_if (pt_cmpR op_ge (pv 2) (pe_op op_pow pe_int pe_int) (nomark _))
        (pss_one (ps_asg (pv 2) (pg_sub (pv 0) pe_int set_list)))
        (pss_one (ps_asg (pe_op op_mod (pe_op op_add (pe_op op_add (pe_op op_mul (pe_ix ix_list (pv 0) pe_int (fun _ _ => rfl)) pe_int) (pe_op op_mul (pe_op op_mod (pv 2) pe_int) pe_int)) pe_int) pe_int) (pg_sub (pv 0) pe_int set_list)))))))
      (pss_nil))
    (pss_cons (ps_if (pt_cmpR op_gt (pe_ix ix_list (pv 0) pe_int (fun _ _ => rfl)) pe_int (nomark _))
      (pss_cons (ps_set (i := 3) sc__law_pull.nd rfl (Or.inl rfl) (pe_op op_mod (pe_ix ix_list (pv 0) pe_int (fun _ _ => rfl)) (pv 1)))
      (pss_cons (ps_asg (pe_op op_fdiv (pe_ix ix_list (pv 0) pe_int (fun _ _ => rfl)) (pv 1)) (pg_sub (pv 0) pe_int set_list))
      (pss_one (ps_ret (pv 3)))))
      (pss_nil))
    (pss_cons (ps_set (i := 4) sc__law_pull.nd rfl (Or.inl rfl) (pe_ix ix_list (pv 0) pe_int (fun _ _ => rfl)))
    (pss_cons (ps_asg (pe_op op_mod (pe_op op_add (pe_op op_add (pe_op op_mul (pv 4) pe_int) (pe_op op_mul (pe_op op_fdiv (pv 4) pe_int) pe_int)) pe_int) pe_int) (pg_sub (pv 0) pe_int set_list))
    (pss_one (ps_ret (pe_op op_mod (pe_op op_add (pe_op op_fdiv (pe_ix ix_list (pv 0) pe_int (fun _ _ => rfl)) pe_int) (pe_op op_mul (pe_op op_mod (pe_ix ix_list (pv 0) pe_int (fun _ _ => rfl)) pe_int) pe_int)) (pv 1))))))), ?_⟩
  have put : ∀ {H2 : Hp} {o : HO}, H2 l = some (.lst (ns.map V.int)) → (upd H2 b o) l = some (.lst (ns.map V.int)) := fun {H2 o} h => by rw [upd_ne nlb]; exact h
  have e18 : (10 : Int) ^ (18 : Int).toNat = 1000000000000000000 := by decide
  refine ⟨fun σ H2 => ∃ (v : Option V) (i : Nat) (cur salt : Int), σ = [some (.ref b), some (.int n), v, none, none] ∧ But b H H2 ∧ H2 b = some (.lst [.ref l, .int (i : Int), .int cur, .int salt]) ∧ H2 l = some (.lst (ns.map V.int)) ∧ i ≤ ns.length ∧ 0 ≤ cur ∧ 0 ≤ salt ∧ salt < 2147483647, ?_, ?_⟩
  · have same : ∃ (v : Option V) (i : Nat) (cur salt : Int), L2.start N__law_pull [V.ref b, V.int n] = [some (.ref b), some (.int n), v, none, none] ∧ But b H H ∧ H b = some (.lst [.ref l, .int (i : Int), .int cur, .int salt]) ∧ H l = some (.lst (ns.map V.int)) ∧ i ≤ ns.length ∧ 0 ≤ cur ∧ 0 ≤ salt ∧ salt < 2147483647 :=
      ⟨none, i, cur, salt, rfl, But.refl b H, hb, hl, hi, hc, hs0, hs1⟩
    refine ⟨_, rfl, _, _, _, _, rfl, rfl, SqL.of hb, rfl, rfl, _, rfl, iteI (fun e => ?_) (fun _ => iteF same)⟩
    refine ⟨_, rfl, _, _, _, _, rfl, rfl, SqL.of hb, rfl, _, rfl, _, _, _, _, rfl, rfl, SqL.of hb, rfl, _, _, rfl, .inl ⟨_, SqL.of hl, rfl⟩, _, _, rfl, rfl, _, rfl, iteD (fun e2 => ?_) (fun n2 => same)⟩
    have hlt : i < ns.length := by rw [List.length_map] at e2; omega
    have ha : atI (ns.map V.int) (i : Int) = some (.int ns[i]) := atI_nat (by rw [List.getElem?_map, List.getElem?_eq_getElem hlt] <;> rfl)
    refine ⟨_, rfl, _, _, _, _, rfl, rfl, SqL.of hb, rfl, _, rfl, _, _, _, _, rfl, rfl, SqL.of hb, rfl, .inl ⟨_, _, _, _, rfl, rfl, SqL.of hl, ha, ?_⟩⟩
    refine ⟨_, rfl, _, _, _, _, rfl, rfl, SqL.of hb, rfl, _, _, rfl, rfl, _, rfl, _, _, _, _, rfl, rfl, hb, rfl, ?_⟩
    have ei : ((i : Int) + 1) = ((i + 1 : Nat) : Int) := by omega
    refine ⟨_, rfl, _, _, rfl, rfl, ⟨by decide, by decide, by decide⟩, _, _, rfl, rfl, _, rfl, iteD (fun e3 => ?_) (fun n3 => ?_)⟩
    · rw [e18] at e3
      refine ⟨_, rfl, _, rfl, _, _, _, _, rfl, rfl, upd_same, rfl, ?_⟩
      refine ⟨_, i + 1, ns[i], salt, rfl, but_upd (but_upd (But.refl b H)), ?_, put (put hl), by omega, by omega, hs0, hs1⟩
      rw [upd_same, ← ei]
      rfl
    · have m0 : 0 ≤ ns[i] % 2147483629 := Int.emod_nonneg _ (by decide)
      have m1 : ns[i] % 2147483629 < 2147483629 := Int.emod_lt_of_pos _ (by decide)
      refine ⟨_, rfl, _, _, _, _, rfl, rfl, SqL.of upd_same, rfl, _, _, rfl, rfl, .inl ⟨by omega, by omega⟩, _, rfl, _, _, rfl, rfl, (by show (0 : Int) < 2147483629; decide), _, _, rfl, rfl, .inl ⟨by omega, by omega⟩, _, _, rfl, rfl, _, _, rfl, rfl, _, _, rfl, rfl, (by show (0 : Int) < 2147483647; decide), _, rfl, _, _, _, _, rfl, rfl, upd_same, rfl, ?_⟩
      refine ⟨_, i + 1, cur, (salt * 69621 + ns[i] % 2147483629 * 48271 + 5) % 2147483647, rfl, but_upd (but_upd (But.refl b H)), ?_, put (put hl), by omega, hc, Int.emod_nonneg (b := 2147483647) _ (by decide), Int.emod_lt_of_pos (b := 2147483647) _ (by decide)⟩
      rw [upd_same, ← ei]
      rfl
  · rintro σ H2 ⟨v, i2, cur2, salt2, rfl, s2, hb2, hl2, hi2, hc2, h20, h21⟩
    refine ⟨_, rfl, _, _, _, _, rfl, rfl, SqL.of hb2, rfl, _, _, rfl, rfl, _, rfl, iteD (fun e => ?_) (fun _ => ?_)⟩
    · have hq : 0 ≤ cur2 / n := Int.ediv_nonneg hc2 (by omega)
      refine ⟨_, rfl, _, _, _, _, rfl, rfl, SqL.of hb2, rfl, _, rfl, _, _, rfl, rfl, hn0, ?_⟩
      refine ⟨_, rfl, _, _, _, _, rfl, rfl, SqL.of hb2, rfl, _, rfl, _, _, rfl, rfl, ⟨hn0, hn1⟩, _, rfl, _, _, _, _, rfl, rfl, hb2, rfl, _, rfl, ?_⟩
      have m0 : 0 ≤ cur2 % n := Int.emod_nonneg _ (by omega)
      have m1 : cur2 % n < n := Int.emod_lt_of_pos _ hn0
      have em : ((cur2 % n).toNat : Int) = cur2 % n := by omega
      have := q (cur2 % n).toNat (upd H2 b (.lst [.ref l, .int (i2 : Int), .int (cur2 / n), .int salt2])) (by omega) (but_upd s2) ⟨ns, i2, cur2 / n, salt2, upd_same, put hl2, nlb, hlen, hi2, hq, h20, h21⟩
      rw [em] at this
      exact this
    · refine ⟨_, rfl, _, _, _, _, rfl, rfl, SqL.of hb2, rfl, ?_⟩
      have d0 : 0 ≤ salt2 / 127773 := Int.ediv_nonneg h20 (by decide)
      have d1 : salt2 / 127773 ≤ salt2 := Int.ediv_le_self _ h20
      refine ⟨_, rfl, _, _, rfl, rfl, .inl ⟨by omega, by omega⟩, _, rfl, _, _, rfl, rfl, ⟨by decide, by decide⟩, _, _, rfl, rfl, .inl ⟨by omega, by omega⟩, _, _, rfl, rfl, _, _, rfl, rfl, _, _, rfl, rfl, (by show (0 : Int) < 2147483647; decide), _, rfl, _, _, _, _, rfl, rfl, hb2, rfl, ?_⟩
      have z0 : 0 ≤ (salt2 * 39373 + salt2 / 127773 * 31 + 1013904223) % 2147483647 := Int.emod_nonneg _ (by decide)
      have z1 : (salt2 * 39373 + salt2 / 127773 * 31 + 1013904223) % 2147483647 < 2147483647 := Int.emod_lt_of_pos _ (by decide)
      have g0 : 0 ≤ (salt2 * 39373 + salt2 / 127773 * 31 + 1013904223) % 2147483647 % 8191 := Int.emod_nonneg _ (by decide)
      have g1 : (salt2 * 39373 + salt2 / 127773 * 31 + 1013904223) % 2147483647 % 8191 < 8191 := Int.emod_lt_of_pos _ (by decide)
      have goal : ∀ r : Int, 0 ≤ r → r < n → Q (.int r) (upd H2 b (.lst [.ref l, .int (i2 : Int), .int cur2, .int ((salt2 * 39373 + salt2 / 127773 * 31 + 1013904223) % 2147483647)])) := fun r r0 r1 => by
        have er : ((r.toNat : Nat) : Int) = r := Int.toNat_of_nonneg r0
        have := q r.toNat (upd H2 b (.lst [.ref l, .int (i2 : Int), .int cur2, .int ((salt2 * 39373 + salt2 / 127773 * 31 + 1013904223) % 2147483647)])) (by rw [er]; exact r1) (but_upd s2) ⟨ns, i2, cur2, _, upd_same, put hl2, nlb, hlen, hi2, hc2, z0, z1⟩
        rw [er] at this
        exact this
      refine ⟨_, rfl, _, _, _, _, rfl, rfl, SqL.of upd_same, rfl, _, _, rfl, rfl, ⟨by decide, by decide⟩, _, rfl, _, _, _, _, rfl, rfl, SqL.of upd_same, rfl, _, _, rfl, rfl, (by show (0 : Int) < 8191; decide), _, _, rfl, rfl, .inl ⟨Int.lt_of_lt_of_le (by decide) g0, Int.lt_trans g1 (by decide)⟩, _, _, rfl, rfl, _, rfl, _, _, rfl, rfl, hn0, ?_⟩
      exact goal _ (Int.emod_nonneg _ (by omega)) (Int.emod_lt_of_pos _ hn0)
end
end My
namespace My
open PySem L2 SX C8
section
variable {P : Program} {w : World} {K : PySem.W.Frag} {mg : Str → Option Value} {base : Heap}
theorem ok__law_of {f : Addr} {fd : FuncData} (F : Def K mg "_law_of" s__law_of f fd) (b : Binds K fd ["_law_bag_here", "_law_things"] []) (T : Txt mg) (c__law_pull : Cal P w K mg base 1 "_law_pull" spPull []) : Cal P w K mg base 2 "_law_of" (spOf K) [] := by
  refine cal0 F b .nil sc__law_of (fun vs H Q E h => ?_) (fun cdv A outer s H vs Q E hr h => ?_)
  · obtain ⟨a, l, n, rfl, _⟩ := h
    rfl
  obtain ⟨b, l, x, rfl, B, q⟩ := h
  refine ⟨_, pss_one (ps_ret (pe_ix ix_seq (pv 1) (pe_c c__law_pull hr (by first | decide | assumption | omega) rfl (pa_cons (pv 0) (pa_cons (pe_callB call_len (by rfl) T.len (by decide +kernel) (pa_cons (pv 1) pa_nil)) pa_nil))) (fun _ _ => rfl))), ?_⟩
  rcases q with ⟨a, xs, rfl, nlb, hl, h0, h1, q⟩ | ⟨z, rfl, h0, h1, q⟩
  · refine ⟨_, rfl, _, rfl, _, rfl, _, _, rfl, .inl ⟨xs, hl, rfl⟩, b, l, _, rfl, B, by omega, by omega, fun r H' hr' s' B' => ?_⟩
    have hlt : r < xs.length := by omega
    have ha : atI xs (r : Int) = some xs[r] := atI_nat (List.getElem?_eq_getElem hlt)
    exact .inl ⟨_, _, _, _, rfl, rfl, But.seq s' nlb hl, ha, q _ H' (List.getElem_mem hlt) s' B'⟩
  · have hz : (S z).length ≤ sizeLine := size_S (by omega)
    refine ⟨_, rfl, _, rfl, _, rfl, _, _, rfl, ⟨hz, rfl⟩, b, l, _, rfl, B, by rw [S_len]; omega, by rw [S_len]; omega, fun r H' hr' s' B' => ?_⟩
    rw [S_len] at hr'
    have hlt : r < z.length := by omega
    have ha : atI (S z).cps.toList (r : Int) = some z[r] := atI_nat (List.getElem?_eq_getElem hlt)
    exact .inr (.inr ⟨_, _, _, rfl, rfl, hz, ha, q _ H' (List.getElem_mem hlt) s' B'⟩)
end
end My
namespace My
open PySem L2 SX C8
theorem abc_lits : ∀ v ∈ ([V.str (Str.ofString "ab"), .str (Str.ofString " a{}"), .str (Str.ofString "\\\n n"), .str (Str.ofString "{}"), .str (Str.ofString "x\"$[];#"), .str (Str.ofString "Az09_-+!~"), .str (Str.ofString "abc \n\\{}\"$[];#")] : List V),
    ∃ z : List Nat, v = .str (S z) ∧ 0 < z.length ∧ z.length ≤ 1000 ∧ ∀ c ∈ z, c ∈ abc := by
  have e1 : (Str.ofString "ab") = S [97, 98] := by decide +kernel
  have e2 : (Str.ofString " a{}") = S [32, 97, 123, 125] := by decide +kernel
  have e3 : (Str.ofString "\\\n n") = S [92, 10, 32, 110] := by decide +kernel
  have e4 : (Str.ofString "{}") = S [123, 125] := by decide +kernel
  have e5 : (Str.ofString "x\"$[];#") = S [120, 34, 36, 91, 93, 59, 35] := by decide +kernel
  have e6 : (Str.ofString "Az09_-+!~") = S [65, 122, 48, 57, 95, 45, 43, 33, 126] := by decide +kernel
  have e7 : (Str.ofString "abc \n\\{}\"$[];#") = S [97, 98, 99, 32, 10, 92, 123, 125, 34, 36, 91, 93, 59, 35] := by decide +kernel
  rw [e1, e2, e3, e4, e5, e6, e7]
  intro v hv
  simp only [List.mem_cons, List.not_mem_nil, or_false] at hv
  rcases hv with rfl | rfl | rfl | rfl | rfl | rfl | rfl
  all_goals exact ⟨_, rfl, by decide, by decide, by decide⟩
section
variable {P : Program} {w : World} {K : PySem.W.Frag} {mg : Str → Option Value} {base : Heap}
theorem ok__law_text {f : Addr} {fd : FuncData} (F : Def K mg "_law_text" s__law_text f fd) (b : Binds K fd ["_law_bag_here", "_law_top"] []) (T : Txt mg) (c__law_pull : Cal P w K mg base 1 "_law_pull" spPull []) (c__law_of : Cal P w K mg base 2 "_law_of" (spOf K) []) : Cal P w K mg base 3 "_law_text" spText [] := by
  refine cal0 F b .nil sc__law_text (fun vs H Q E h => ?_) (fun cdv A outer s H vs Q E hr h => ?_)
  · obtain ⟨a, l, n, rfl, _⟩ := h
    rfl
  obtain ⟨b, l, n, rfl, B, hn, q⟩ := h
  refine ⟨_, pss_cons (ps_set (i := 2) sc__law_text.nd rfl (Or.inr rfl) (pe_c c__law_of hr (by first | decide | assumption | omega) rfl (pa_cons (pv 0) (pa_cons (pe_lst (pa_cons pe_str (pa_cons pe_str (pa_cons pe_str (pa_cons pe_str (pa_cons pe_str (pa_cons pe_str (pa_cons pe_str pa_nil)))))))) pa_nil))))
    (pss_one (ps_ret (pe_join pe_str (pe_lc (own := [("_law_k", 3)]) (g := gName 3) (by rfl) sc__law_text.nd (pi_range1 rfl T.range (pa_cons (pe_c c__law_pull hr (by first | decide | assumption | omega) rfl (pa_cons (pv 0) (pa_cons (pe_op op_add (pv 1) pe_int) pa_nil))) pa_nil)) (blkOk_by (own := [("_law_k", 3)]) (N := N__law_text) (sc := fnScope s__law_text) (by decide +kernel)) (fun _ _ _ _ _ => pg_name (i := 3) sc__law_text.nd rfl (Or.inl rfl)) (fun _ _ _ _ _ => pts_nil) (fun _ _ _ _ _ => (pe_c c__law_of hr (by first | decide | assumption | omega) rfl (pa_cons (pv 0) (pa_cons (pv 2) pa_nil)))))))), ?_⟩
  refine ⟨_, rfl, (by show 7 ≤ sizeLine; decide), fun p hp => ?_⟩
  have npb : p ≠ b := (B.nb hp).symm
  have s1 := same_new hp (HO.lst [.str (Str.ofString "ab"), .str (Str.ofString " a{}"), .str (Str.ofString "\\\n n"), .str (Str.ofString "{}"), .str (Str.ofString "x\"$[];#"), .str (Str.ofString "Az09_-+!~"), .str (Str.ofString "abc \n\\{}\"$[];#")])
  refine ⟨b, l, _, rfl, B.mono s1, .inl ⟨p, _, rfl, npb, SqL.of upd_same, by show 0 < 7; decide, by show 7 ≤ 1000; decide, fun v H1 hv b1 B1 => ?_⟩⟩
  obtain ⟨z, rfl, z0, z1, z2⟩ := abc_lits v hv
  refine ⟨⟨_, rfl⟩, _, rfl, _, rfl, _, _, rfl, rfl, b, l, _, rfl, B1, by omega, by omega, fun m H2 hm b2 B2 => ⟨_, rfl, by omega, by omega, fun D hD => ?_⟩⟩
  have nbD := B2.nb hD
  have nlD := B2.nl hD
  refine lc_range (lo := 0) (n := (m : Int).toNat) (fun i H3 => But b H2 H3 ∧ BagAt H3 b l ∧ ∃ cs : List Nat, cs.length = i ∧ (∀ c ∈ cs, c ∈ abc) ∧ H3 D = some (.lst ((cs.map fun c => S [c]).map V.str))) ⟨Same.but (same_new hD _), B2.mono (same_new hD _), [], rfl, by simp, upd_same⟩ ?_ ?_
  · rintro i H3 hi ⟨b3, B3, cs, hc1, hc2, hd⟩
    refine ⟨rfl, _, rfl, _, rfl, b, l, _, rfl, B3, .inr ⟨z, rfl, z0, z1, fun c H4 hc b4 B4 => ?_⟩⟩
    have hd4 := b4 _ _ hd nbD.symm
    refine ⟨_, hd4, ?_, ?_, ?_, cs ++ [c], by simp [hc1], ?_, ?_⟩
    · rw [List.length_map, List.length_map, hc1]
      exact Nat.lt_of_lt_of_le (show i < 2000 by omega) (by decide)
    · exact but_mut (b3.trans b4) hD
    · exact B4.upd nbD nlD
    · intro c' hc'
      rcases List.mem_append.mp hc' with h | h
      · exact hc2 c' h
      · rw [List.mem_singleton.mp h]; exact z2 c hc
    · rw [upd_same]
      simp
  · rintro H3 ⟨b3, B3, cs, hc1, hc2, hd⟩
    have em : (cs.map fun c => S [c]) = (cs.map fun c => [c]).map S := by rw [List.map_map] <;> rfl
    have ef : (cs.map fun c => [c]).flatten = cs := by
      clear hc1 hc2 hd em
      induction cs with
      | nil => rfl
      | cons c r ih => simp only [List.map_cons, List.flatten_cons, ih]; rfl
    refine ⟨_, D, cs.map fun c => S [c], rfl, rfl, .inl (SqL.of hd), ?_, ?_⟩
    · rw [lit_e]
      have e0 : (S ([] : List Nat)).length = 0 := rfl
      have e1 : ((cs.map fun c => S [c]).map (·.length)).sum = cs.length := by
        clear hc1 hc2 hd em ef
        induction cs with
        | nil => rfl
        | cons c r ih => simp only [List.map_cons, List.sum_cons, ih, List.length_cons]; rw [S_len]; simp; omega
      rw [e0, Nat.mul_zero, e1, hc1]
      omega
    · rw [em, join0 lit_e, ef]
      exact q cs H3 (by omega) hc2 (((Same.but s1).trans b1).trans (b2.trans b3)) B3
end
end My
namespace My
open PySem L2 SX C8
section
variable {P : Program} {w : World} {K : PySem.W.Frag} {mg : Str → Option Value} {base : Heap}
theorem ok__law_pairs {f : Addr} {fd : FuncData} (F : Def K mg "_law_pairs" s__law_pairs f fd) (b : Binds K fd ["_law_text_here"] []) (T : Txt mg) : Cal P w K mg base 1 "_law_pairs" spLpairs [] := by
  refine cal0 F b .nil sc__law_pairs (fun vs H Q E h => ?_) (fun cdv A outer s H vs Q E hr h => ?_)
  · obtain ⟨l, rfl, _⟩ := h
    rfl
  obtain ⟨l, rfl, hl, q⟩ := h
  refine ⟨_, pss_cons (ps_setLc (i := 1) (own := [("_law_at", 2)]) (g := gName 2) (by rfl) sc__law_pairs.nd rfl rfl (sw_true rfl rfl rfl (by decide +kernel)) (pi_range1 rfl T.range (pa_cons (pe_op op_add (pe_callB call_len (by rfl) T.len (by decide +kernel) (pa_cons (pv 0) pa_nil)) pe_int) pa_nil)) (blkOk_by (own := [("_law_at", 2)]) (N := N__law_pairs) (sc := fnScope s__law_pairs) (by decide +kernel)) (fun _ _ _ _ _ => pg_name (i := 2) sc__law_pairs.nd rfl (Or.inl rfl)) (fun _ _ _ _ _ => pts_nil) (fun _ _ _ _ _ => (pe_op op_sub (pe_m1 PySem.F.slot_str_count PySem.F.type_str_count mt_count (pe_slice sl_str (pv 0) po_none (po_some (pv 2))) pe_str) (pe_m1 PySem.F.slot_str_count PySem.F.type_str_count mt_count (pe_slice sl_str (pv 0) po_none (po_some (pv 2))) pe_str))))
    (pss_one (ps_ret (pe_and (pe_cmpR op_eq (pe_callB (cr_min rfl) (by rfl) T.min (by decide +kernel) (pa_cons (pv 1) pa_nil)) pe_int (nomark _)) (pe_one (pe_cmpR op_eq (pe_ix ix_list (pv 1) (pe_un un_neg pe_int) (fun _ _ => rfl)) pe_int (nomark _)))))), ?_⟩
  have hz : (S l).length ≤ sizeLine := size_S (by omega)
  have hn : (((S l).length : Int) + 1).toNat = l.length + 1 := by rw [S_len]; omega
  refine ⟨_, rfl, _, _, rfl, ⟨hz, rfl⟩, _, _, rfl, rfl, _, rfl, by rw [S_len]; omega, by rw [S_len]; omega, fun D hD => ?_⟩
  rw [hn]
  refine lc_range (lo := 0) (n := l.length + 1) (fun i H2 => Same H H2 ∧ H2 D = some (.lst (((List.range i).map fun j => dep (l.take j)).map V.int))) ⟨same_new hD _, upd_same⟩ ?_ ?_
  · rintro i H2 hi ⟨hs, hd⟩
    have e0 : (0 : Int) + (i : Int) = (i : Int) := Int.zero_add _
    rw [e0]
    refine ⟨rfl, _, rfl, _, rfl, _, rfl, _, rfl, hz, ⟨_, rfl⟩, _, _, rfl, rfl, _, rfl, _, rfl, _, rfl, _, rfl, hz, ⟨_, rfl⟩, _, _, rfl, rfl, _, _, rfl, rfl, _, hd, ?_, same_mut hs hD, ?_⟩
    · rw [List.length_map, List.length_map, List.length_range]
      exact Nat.lt_of_le_of_lt (show _ ≤ 50000 by omega) (by decide)
    · rw [upd_same, slice_0n l i (by omega), lit_ob, lit_cb, cnt_is, cnt_is, List.range_succ]
      simp
      rfl
  · rintro H2 ⟨hs, hd⟩
    refine ⟨_, rfl, D, _, rfl, SqL.of hd, by simp, fun m hm hle => ?_⟩
    have hmin : m = 0 ↔ ∀ i, i ≤ l.length → 0 ≤ dep (l.take i) := by
      constructor
      · intro e i hi
        have := hle (dep (l.take i)) (List.mem_map.mpr ⟨i, List.mem_range.mpr (by omega), rfl⟩)
        omega
      · intro h
        obtain ⟨i, hi, e⟩ := List.mem_map.mp hm
        have h1 := h i (by have := List.mem_range.mp hi; omega)
        have h2 := hle 0 (List.mem_map.mpr ⟨0, List.mem_range.mpr (by omega), by simp [dep_nil]⟩)
        omega
    have hp := pairs_iff l
    refine ⟨rfl, _, rfl, iteI (fun e => ?_) (fun n => ?_)⟩
    · have hlast : atI (((List.range (l.length + 1)).map fun j => dep (l.take j)).map V.int) (-1) = some (V.int (dep l)) := by
        rw [List.range_succ, List.map_append, List.map_append]
        have := atI_last (((List.range l.length).map fun j => dep (l.take j)).map V.int) (V.int (dep l))
        simpa using this
      refine ⟨_, rfl, _, rfl, _, _, _, _, rfl, rfl, SqL.of hd, hlast, rfl, ?_⟩
      have e2 : decide (V.int (dep l) = V.int 0) = Pairs l := by
        rw [dec_int]
        cases hq : Pairs l with
        | true => exact beq_iff_eq.mpr (hp.mp hq).2
        | false =>
          refine beq_eq_false_iff_ne.mpr fun z => ?_
          rw [hp.mpr ⟨hmin.mp e, z⟩] at hq
          cases hq
      rw [e2]
      exact q H2 hs
    · have e2 : Pairs l = false := by
        cases hq : Pairs l with
        | true => exact absurd (hmin.mpr (hp.mp hq).1) n
        | false => rfl
      have := q H2 hs
      rw [e2] at this
      exact this
end
end My
namespace My
open PySem L2 SX C8
def isE : Tr → Bool
  | .n [.s k, .s w] => decide (k = wText) && decide (w = [])
  | _ => false
def mergedP (ps : List Tr) : List Tr := (joinP ps).filter fun t => !isE t
def spMerged : Sp := fun vs H Q _ => ∃ (a : Addr) (us : List V) (ps : List Tr) (d : Nat), vs = [.ref a] ∧ H a = some (.lst us) ∧ TrsAt H us ps ∧ (∀ t ∈ ps, PcLe 2000 t ∧ Good (d + 1) t) ∧ ps.length ≤ 3000 ∧ d ≤ 60 ∧ ∀ (p : Addr) H', Same H H' → TrAt H' (.ref p) (.n (mergedP ps)) → (∀ t ∈ mergedP ps, Good (d + 1) t ∧ IsPc t) → (mergedP ps).length ≤ 3000 → Q (.ref p) H'
theorem good_tx {w : List Nat} {d : Nat} (h : ∀ c ∈ w, c < 1114112) : Good (d + 1) (tx w) := by
  refine ⟨(by show 2 ≤ 3000; decide), fun t ht => ?_⟩
  have e1 : ∀ c ∈ wText, c < 1114112 := by decide
  rcases List.mem_cons.mp ht with rfl | ht
  · cases d <;> exact e1
  · rw [List.mem_singleton.mp ht]
    cases d <;> exact h
theorem good_tx_inv {w : List Nat} {d : Nat} (h : Good (d + 1) (tx w)) : ∀ c ∈ w, c < 1114112 := by
  have := h.2 (.s w) (by simp [tx])
  cases d <;> exact this
theorem eqv_nil (ts : List Tr) : PyData.eqv (.list (dataTrs ts)) (.list []) = decide (ts = []) := by
  cases ts with
  | nil => rfl
  | cons t r => rfl
theorem eqv_isE {t : Tr} (hp : IsPc t) : PyData.eqv (dataTr t) (.tuple [.str (S wText), .str (S [])]) = isE t := by
  rcases hp with ⟨w, rfl⟩ | ⟨w, rfl⟩ | ⟨cs, rfl⟩
  · show ((S wText == S wText) && ((S w == S []) && true)) = (decide (wText = wText) && decide (w = []))
    rw [S_beq_eq, S_beq_eq, Bool.and_true]
  · show ((S wName == S wText) && ((S w == S []) && true)) = (decide (wName = wText) && decide (w = []))
    rw [S_beq_eq, S_beq_eq, Bool.and_true]
  · show ((S wRun == S wText) && (PyData.eqv (.tuple (dataTrs cs)) (.str (S [])) && true)) = false
    rw [S_beq_eq, decide_eq_false nRT, Bool.false_and]
theorem joinP_shaped {ts : List Tr} {d : Nat} (hd : d ≤ 62) (h : ∀ t ∈ ts, Good (d + 1) t) : SeqAt.shaped (.list (dataTrs ts)) = true := by
  obtain ⟨h1, h2⟩ := good_datas ts h
  unfold SeqAt.shaped
  have e1 : (PyData.list (dataTrs ts)).canLay0 = true := h2
  have e2 : (PyData.list (dataTrs ts)).depth ≤ 64 := by
    show PyData.depthAll (dataTrs ts) + 1 ≤ 64
    omega
  rw [e1, decide_eq_true e2]
  rfl
theorem merge_len (rows : List Tr) (p : Tr) : (merge rows p).length ≤ rows.length + 1 := by
  unfold merge
  split <;> (try split) <;> first | (simp; done) | (simp; omega)
theorem foldl_len : ∀ (ps rows : List Tr), (ps.foldl merge rows).length ≤ rows.length + ps.length
  | [], rows => Nat.le_refl _
  | p :: r, rows => by
    have ih := foldl_len r (merge rows p)
    have h := merge_len rows p
    rw [List.foldl_cons, List.length_cons]
    omega
theorem joinP_len (ps : List Tr) : (joinP ps).length ≤ ps.length := by
  have := foldl_len ps []
  simpa [joinP] using this
section
variable {P : Program} {w : World} {K : PySem.W.Frag} {mg : Str → Option Value} {base : Heap} {C : Addr}
theorem ok__law_merged {f : Addr} {fd : FuncData} (F : Def K mg "_law_merged" s__law_merged f fd) (b : Binds K fd ["_law_pieces"] []) (T : Txt mg) : Cal P w K mg base 1 "_law_merged" spMerged [] := by
  refine cal0 F b .nil sc__law_merged (fun vs H Q E h => ?_) (fun cdv A outer s H vs Q E hr h => ?_)
  · obtain ⟨a, us, ps, d, rfl, _⟩ := h
    rfl
  obtain ⟨a, us, ps, d, rfl, ha, hT, hpc0, hlen, hd60, q⟩ := h
  have hpc : ∀ t ∈ ps, PcLe 2000 t := fun t ht => (hpc0 t ht).1
  refine ⟨_, pss_cons (ps_set (i := 1) sc__law_merged.nd rfl (Or.inl rfl) (pe_lst pa_nil))
    (pss_cons (ps_for PassesOwn.never rfl (pi_list (pv 0)) (pg_tup rfl (pgs_cons (pg_name (i := 2) sc__law_merged.nd rfl (Or.inl rfl)) (pgs_cons (pg_name (i := 3) sc__law_merged.nd rfl (Or.inl rfl)) pgs_nil)))
      (pss_one (ps_if (PW.pt (pw_and (pt_cmpR op_eq (pv 2) pe_str (nomark _)) (pw_and (pt_cmpR (op_neD hr.units) (pv 1) (pe_lst pa_nil) (nomark _)) (pw_and1 (pt_cmpR op_eq (pe_ix ix_seq (pe_ix ix_list (pv 1) (pe_un un_neg pe_int) (fun _ _ => rfl)) pe_int (fun _ _ => rfl)) pe_str (nomark _))))))
        (pss_one (ps_asg (pe_tup (pa_cons pe_str (pa_cons (pe_op op_add_str (pe_ix ix_seq (pe_ix ix_list (pv 1) (pe_un un_neg pe_int) (fun _ _ => rfl)) pe_int (fun _ _ => rfl)) (pv 3)) pa_nil))) (pg_sub (pv 1) (pe_un un_neg pe_int) set_list)))
        (pss_one (ps_expr (pe_bm PySem.F.plainAttrs_list PySem.F.slot_list_append PySem.F.type_list_append mt_append (pv 1) (pa_cons (pe_tup (pa_cons (pv 2) (pa_cons (pv 3) pa_nil))) pa_nil)))))))
    (pss_one (ps_ret (pe_callTy call_tuple_of (by rfl) T.tuple (by decide +kernel) (pa_cons (pe_lc (own := [("_law_piece", 4)]) (g := gName 4) (by rfl) sc__law_merged.nd (pi_list (pv 1)) (blkOk_by (own := [("_law_piece", 4)]) (N := N__law_merged) (sc := fnScope s__law_merged) (by decide +kernel)) (fun _ _ _ _ _ => pg_name (i := 4) sc__law_merged.nd rfl (Or.inl rfl)) (fun _ _ _ _ _ => pts_one (pt_cmpR (show OpR _ _ (rNeD K) from op_neD hr.units) (pv 4) (pe_tup (pa_cons pe_str (pa_cons pe_str pa_nil))) (nomark _))) (fun _ _ _ _ _ => (pv 4))) pa_nil))))), ?_⟩
  refine ⟨(by show 0 ≤ sizeLine; decide), fun r0 hr0 => ?_⟩
  have nar : a ≠ r0 := ne_of_none ha hr0
  have hlu := hT.1
  refine ⟨_, rfl, a, rfl, ⟨us, SqL.of (by rw [upd_ne nar]; exact ha)⟩, for_list (K := K) (a := a) (xs := us) (fun i σ H2 => ∃ x y rv, σ = [some (.ref a), some (.ref r0), x, y, none] ∧ Same H H2 ∧ H2 r0 = some (.lst rv) ∧ TrsAt H2 rv (joinP (ps.take i)) ∧ (∀ t ∈ joinP (ps.take i), PcLe (2000 * (i + 1)) t ∧ Good (d + 1) t) ∧ rv.length ≤ i)
    ⟨none, none, [], rfl, same_new hr0 _, upd_same, TrsAt.nil _, by simp [joinP], Nat.le_refl _⟩ (fun _ _ _ _ ⟨_, _, _, _, h, _⟩ => SqL.of (h _ _ ha)) ?_ ?_⟩
  · rintro i v σ H2 hi ⟨x0, y0, rv, rfl, hs, hd, hR, hB, hl2⟩
    have hi1 : i < ps.length := by have := (List.getElem?_eq_some_iff.mp hi).1; omega
    have hpi : ps[i]? = some ps[i] := List.getElem?_eq_getElem hi1
    have hvp := (hT.2 i v _ hi hpi).mono (Same.tups hs)
    have hpp := hpc _ (List.mem_of_getElem? hpi)
    obtain ⟨pa, k, y, rfl, hpa, hk⟩ := pc_at hvp hpp.1
    have etake : joinP (ps.take (i + 1)) = merge (joinP (ps.take i)) ps[i] := by
      rw [List.take_add_one, hpi]
      exact joinP_snoc _ _
    -- the piece is appended
    have app : merge (joinP (ps.take i)) ps[i] = joinP (ps.take i) ++ [ps[i]] → ∀ H3, Same H2 H3 → ∀ t, H3 t = none → ∃ (x' y' : Option V) (rv' : List V), [some (V.ref a), some (.ref r0), some (.str (S k)), some y, none] = [some (.ref a), some (.ref r0), x', y', none] ∧ Same H (upd (upd H3 t (.tup [.str (S k), y])) r0 (.lst (rv ++ [.ref t]))) ∧ (upd (upd H3 t (.tup [.str (S k), y])) r0 (.lst (rv ++ [.ref t]))) r0 = some (.lst rv') ∧
        TrsAt (upd (upd H3 t (.tup [.str (S k), y])) r0 (.lst (rv ++ [.ref t]))) rv' (joinP (ps.take (i + 1))) ∧ (∀ t ∈ joinP (ps.take (i + 1)), PcLe (2000 * (i + 1 + 1)) t ∧ Good (d + 1) t) ∧ rv'.length ≤ i + 1 := fun em H3 s3 t ht => by
      have s4 := s3.trans (same_new ht (HO.tup [.str (S k), y]))
      have u5 : Tups (upd H3 t (.tup [.str (S k), y])) (upd (upd H3 t (.tup [.str (S k), y])) r0 (.lst (rv ++ [.ref t]))) := Tups.upd fun xs e => by rw [s4 _ _ hd] at e; cases e
      refine ⟨_, _, _, rfl, same_mut (hs.trans s4) hr0, upd_same, ?_, ?_, by simp; omega⟩
      · rw [etake, em]
        exact ((hR.mono (Same.tups s4)).mono u5).snoc ((pc_new (hvp.mono (Same.tups s4)) rfl (s4 _ _ hpa) hpp.1 upd_same).mono u5)
      · rw [etake, em]
        intro t' ht'
        rcases List.mem_append.mp ht' with h | h
        · exact ⟨⟨(hB t' h).1.1, fun w e => Nat.le_trans ((hB t' h).1.2 w e) (by omega)⟩, (hB t' h).2⟩
        · rw [List.mem_singleton.mp h]
          exact ⟨⟨hpp.1, fun w e => Nat.le_trans (hpp.2 w e) (by omega)⟩, (hpc0 _ (List.mem_of_getElem? hpi)).2⟩
    have small : rv.length < sizeLine := Nat.lt_of_le_of_lt (show _ ≤ 4000 by omega) (by decide)
    refine ⟨pa, _, rfl, SqT.of hpa, rfl, .str (S k), [y], rfl, y, [], rfl, rfl, ?_⟩
    refine ⟨_, rfl, rfl, _, rfl, ite_S lit_text (fun ek => ?_) (fun nk => ?_)⟩
    · subst ek
      obtain ⟨w, ew, rfl⟩ : ∃ w, ps[i] = tx w ∧ y = .str (S w) := by
        rcases hk with ⟨_, w, h1, h2⟩ | ⟨h, _⟩
        · exact ⟨w, h1, h2⟩
        · exact absurd rfl h
      rcases snoc_or_nil rv with rfl | ⟨r, lv, rfl⟩
      · have e0 : joinP (ps.take i) = [] := List.length_eq_zero_iff.mp hR.1.symm
        refine ⟨_, rfl, (by show 0 ≤ sizeLine; decide), fun z0 hz0 => ?_⟩
        have sz := same_new hz0 (HO.lst [])
        refine ⟨.list (dataTrs (joinP (ps.take i))), .list [], .lst (SqL.of (sz _ _ hd)) (dp_trs _ (hR.mono (Same.tups sz))), .lst (SqL.of upd_same) .nil, joinP_shaped (by omega) (fun t ht => (hB t ht).2), rfl, _, rfl, ?_⟩
        rw [eqv_nil, decide_eq_true e0]
        refine iteF (A := False) (iteF (A := False) ⟨_, rfl, .inl ⟨rfl, _, SqL.of (sz _ _ hd)⟩, _, rfl, _, rfl, (by show 2 ≤ sizeLine; decide), fun t ht => ?_⟩)
        exact ⟨r0, _, _, rfl, rfl, (by rw [upd_ne (ne_of_none (sz _ _ hd) ht)]; exact sz _ _ hd), small, app (by rw [e0]; rfl) _ sz t ht⟩
      · have hne : joinP (ps.take i) ≠ [] := fun z => by rw [z] at hR; have := hR.1; simp at this
        obtain ⟨jr, q0, ej⟩ : ∃ jr q0, joinP (ps.take i) = jr ++ [q0] := by
          rcases snoc_or_nil (joinP (ps.take i)) with h | h
          · exact absurd h hne
          · exact h
        have hlj : r.length = jr.length := by have := hR.1; rw [ej] at this; simp at this; omega
        have hq0 : TrAt H2 lv q0 := hR.2 r.length lv q0 (by simp) (by rw [ej, hlj]; simp)
        have hB0 := hB q0 (by rw [ej]; simp)
        obtain ⟨qa, k0, y0, rfl, hqa0, hk0⟩ := pc_at hq0 hB0.1.1
        have hlast : atI (r ++ [V.ref qa]) (-1) = some (.ref qa) := atI_last _ _
        refine ⟨_, rfl, (by show 0 ≤ sizeLine; decide), fun z0 hz0 => ?_⟩
        have sz := same_new hz0 (HO.lst [])
        refine ⟨.list (dataTrs (joinP (ps.take i))), .list [], .lst (SqL.of (sz _ _ hd)) (dp_trs _ (hR.mono (Same.tups sz))), .lst (SqL.of upd_same) .nil, joinP_shaped (by omega) (fun t ht => (hB t ht).2), rfl, _, rfl, ?_⟩
        rw [eqv_nil, decide_eq_false hne]
        have hs0 := hs
        have hd0 := hd
        have hR0 := hR
        have hs := hs0.trans sz
        have hd := sz _ _ hd0
        have hqa := sz _ _ hqa0
        have hR := hR0.mono (Same.tups sz)
        have hH2 : ∀ o, H2 r0 = some o → (L2.upd H2 z0 (HO.lst [])) r0 = some o := fun o h => sz _ _ h
        generalize L2.upd H2 z0 (HO.lst []) = H2' at sz hs hd hqa hR ⊢
        refine iteT (B := False) ?_
        refine ⟨_, rfl, _, rfl, _, _, _, _, rfl, rfl, SqL.of hd, hlast, .inr (.inl ⟨_, _, _, _, rfl, rfl, SqT.of hqa, rfl, rfl, _, rfl, ite_S lit_text (fun ek0 => ?_) (fun nk0 => ?_)⟩)⟩
        · subst ek0
          obtain ⟨u, eu, rfl⟩ : ∃ u, q0 = tx u ∧ y0 = .str (S u) := by
            rcases hk0 with ⟨_, u, h1, h2⟩ | ⟨h, _⟩
            · exact ⟨u, h1, h2⟩
            · exact absurd rfl h
          have lu := hB0.1.2 u eu
          have lw := hpp.2 w ew
          refine ⟨_, rfl, _, rfl, _, _, _, _, rfl, rfl, SqL.of hd, hlast, .inr (.inl ⟨_, _, _, _, rfl, rfl, SqT.of hqa, rfl, _, rfl, _, _, rfl, rfl, ?_, (by show 2 ≤ sizeLine; decide), fun t ht => ?_⟩)⟩
          · rw [S_len, S_len]
            exact Nat.le_trans (show _ ≤ 6100000 by omega) (by decide)
          · rw [S_cat, lit_text]
            have s4 := same_new ht (HO.tup [.str (S wText), .str (S (u ++ w))])
            have hix : ixN (r ++ [V.ref qa]).length (-1) = some r.length := by
              unfold ixN
              rw [if_neg (by decide), if_pos (by simp; omega)]
              congr 1
              simp
              omega
            refine ⟨_, rfl, _, rfl, r0, _, _, r.length, rfl, rfl, s4 _ _ hd, hix, ?_⟩
            have u5 : Tups (upd H2' t (.tup [.str (S wText), .str (S (u ++ w))])) (upd (upd H2' t (.tup [.str (S wText), .str (S (u ++ w))])) r0 (.lst ((r ++ [V.ref qa]).set r.length (.ref t)))) := Tups.upd fun xs e => by rw [s4 _ _ hd] at e; cases e
            have eset : (r ++ [V.ref qa]).set r.length (.ref t) = r ++ [.ref t] := by simp
            have emer : joinP (ps.take (i + 1)) = jr ++ [tx (u ++ w)] := by rw [etake, ej, eu, ew, merge_tx]
            refine ⟨_, _, _, rfl, same_mut (hs.trans s4) hr0, upd_same, ?_, ?_, by simp at hl2 ⊢; omega⟩
            · rw [eset, emer]
              rw [eset] at u5
              have hRr : TrsAt H2' r jr := ⟨hlj, fun j v' t' hv' ht' => hR.2 j v' t' (by rw [List.getElem?_append_left (List.getElem?_eq_some_iff.mp hv').1]; exact hv') (by rw [ej, List.getElem?_append_left (List.getElem?_eq_some_iff.mp ht').1]; exact ht')⟩
              exact ((hRr.mono (Same.tups s4)).mono u5).snoc ((TrAt.mk2 upd_same (.s _)).mono u5)
            · rw [emer]
              intro t' ht'
              rcases List.mem_append.mp ht' with h | h
              · have := hB t' (by rw [ej]; exact List.mem_append_left _ h)
                exact ⟨⟨this.1.1, fun w e => Nat.le_trans (this.1.2 w e) (by omega)⟩, this.2⟩
              · rw [List.mem_singleton.mp h]
                refine ⟨⟨.inl ⟨_, rfl⟩, fun w' e => ?_⟩, good_tx fun c hc => ?_⟩
                · rw [← tx_inj e, List.length_append]
                  omega
                · have g1 := hB0.2
                  rw [eu] at g1
                  have g2 := (hpc0 _ (List.mem_of_getElem? hpi)).2
                  rw [ew] at g2
                  rcases List.mem_append.mp hc with h | h
                  · exact good_tx_inv g1 c h
                  · exact good_tx_inv g2 c h
        · have nq : ∀ w, q0 ≠ tx w := by
            rcases hk0 with ⟨h, _⟩ | ⟨_, h⟩
            · exact absurd h nk0
            · exact h
          refine ⟨_, rfl, .inl ⟨rfl, _, SqL.of hd⟩, _, rfl, _, rfl, (by show 2 ≤ sizeLine; decide), fun t ht => ?_⟩
          exact ⟨r0, _, _, rfl, rfl, (by rw [upd_ne (ne_of_none hd ht)]; exact hd), small, app (by rw [ej]; exact merge_no hB0.1.1 hpp.1 (.inr nq)) H2' sz t ht⟩
    · have np : ∀ w, ps[i] ≠ tx w := by
        rcases hk with ⟨h, _⟩ | ⟨_, h⟩
        · exact absurd h nk
        · exact h
      refine iteF ⟨_, rfl, .inl ⟨rfl, _, SqL.of hd⟩, _, rfl, _, rfl, (by show 2 ≤ sizeLine; decide), fun t ht => ?_⟩
      refine ⟨r0, _, _, rfl, rfl, (by rw [upd_ne (ne_of_none hd ht)]; exact hd), small, app ?_ H2 (Same.refl _) t ht⟩
      rcases snoc_or_nil (joinP (ps.take i)) with e0 | ⟨jr, q0, ej⟩
      · rw [e0]; rfl
      · rw [ej]
        exact merge_no (hB q0 (by rw [ej]; simp)).1.1 hpp.1 (.inl np)
  · rintro σ H2 ⟨x0, y0, rv, rfl, hs, hd, hR, hB, hl2⟩
    have et : ps.take us.length = ps := by rw [hlu]; exact List.take_length
    rw [et] at hR hB
    have hjl := joinP_len ps
    refine ⟨_, rfl, r0, rfl, ⟨_, SqL.of hd⟩, fun D hD => ?_⟩
    refine lc_list (K := K) (a := r0) (xs := rv) (fun i H3 => Same H2 H3 ∧ ∃ ws : List V, H3 D = some (.lst ws) ∧ TrsAt H3 ws (((joinP ps).take i).filter fun t => !isE t) ∧ ws.length ≤ i) ⟨same_new hD _, [], upd_same, TrsAt.nil _, Nat.le_refl _⟩ (fun _ _ _ h => SqL.of (h.1 _ _ hd)) ?_ ?_
    · rintro i v H3 hi ⟨s3, ws, hD3, hW, hwl⟩
      have hi1 : i < (joinP ps).length := by have := (List.getElem?_eq_some_iff.mp hi).1; have := hR.1; omega
      have hti : (joinP ps)[i]? = some (joinP ps)[i] := List.getElem?_eq_getElem hi1
      have hvt := (hR.2 i v _ hi hti).mono (Same.tups s3)
      obtain ⟨hBt, hGt⟩ := hB _ (List.mem_of_getElem? hti)
      refine ⟨rfl, _, rfl, (by show 2 ≤ sizeLine; decide), fun t ht => ?_⟩
      rw [lit_text, lit_e]
      have s4 := same_new ht (HO.tup [.str (S wText), .str (S [])])
      have hlit : TrAt (L2.upd H3 t (.tup [.str (S wText), .str (S [])])) (.ref t) (tx []) := TrAt.mk2 upd_same (.s _)
      refine ⟨dataTr (joinP ps)[i], dataTr (tx []), dp_tr _ (hvt.mono (Same.tups s4)), dp_tr _ hlit, good_shaped (by omega) hGt, good_shaped (d := 1) (by omega) (good_tx (by simp)), _, rfl, ?_⟩
      rw [show dataTr (tx []) = .tuple [.str (S wText), .str (S [])] from rfl, eqv_isE hBt.1]
      have etake : ((joinP ps).take (i + 1)).filter (fun t => !isE t) = ((joinP ps).take i).filter (fun t => !isE t) ++ (if isE (joinP ps)[i] then [] else [(joinP ps)[i]]) := by
        rw [List.take_add_one, hti, List.filter_append]
        congr 1
        cases he : isE (joinP ps)[i] <;> simp [he]
      have nDt : D ≠ t := ne_of_none hD3 ht
      cases he : isE (joinP ps)[i] with
      | true =>
        refine iteF (A := False) ?_
        refine ⟨s3.trans s4, ws, s4 _ _ hD3, ?_, by omega⟩
        rw [etake, he]
        simpa using hW.mono (Same.tups s4)
      | false =>
        have u5 : Tups (L2.upd H3 t (.tup [.str (S wText), .str (S [])])) (L2.upd (L2.upd H3 t (.tup [.str (S wText), .str (S [])])) D (.lst (ws ++ [v]))) := Tups.upd fun xs e => by rw [s4 _ _ hD3] at e; cases e
        refine iteT (B := False) ⟨_, rfl, ws, s4 _ _ hD3, ?_, same_mut (s3.trans s4) hD, ws ++ [v], upd_same, ?_, by simp; omega⟩
        · exact Nat.lt_of_le_of_lt (show _ ≤ 4000 by omega) (by decide)
        · rw [etake, he]
          exact ((hW.mono (Same.tups s4)).mono u5).snoc ((hvt.mono (Same.tups s4)).mono u5)
    · rintro H3 ⟨s3, ws, hD3, hW, hwl⟩
      have er : (joinP ps).take rv.length = joinP ps := by rw [hR.1]; exact List.take_length
      rw [er] at hW
      refine ⟨D, _, rfl, .inl ⟨SqL.of hD3, fun t ht => ?_⟩⟩
      have s4 := same_new ht (HO.tup ws)
      exact q t _ ((hs.trans s3).trans s4) (TrsAt.tup upd_same (hW.mono (Same.tups s4))) (fun t' ht' => by
        have := hB t' (List.mem_filter.mp ht').1
        exact ⟨this.2, this.1.1⟩) (Nat.le_trans (List.length_filter_le _ _) (by omega))
end
end My
namespace My
open PySem L2 SX C8
/-! ### drawn trees -/
def OkS (w : List Nat) : Prop := ∀ c ∈ w, c < 1114112
def PcW (R : List Tr → Prop) (k : Nat) (p : Tr) : Prop := (∃ w, p = tx w ∧ w.length ≤ k ∧ OkS w) ∨ (∃ n, p = nm n ∧ 1 ≤ n.length ∧ n.length ≤ 8 ∧ ∀ c ∈ n, low c = true) ∨ ∃ cs, p = rn cs ∧ R cs
def isT : Tr → Bool
  | .n [.s k, .s _] => decide (k = wText)
  | _ => false
/-- no two texts side by side -/
def NA : List Tr → Prop
  | [] => True
  | x :: r => (∀ z, r.head? = some z → isT x = true → isT z = true → False) ∧ NA r
def WdW (R : List Tr → Prop) (t : Tr) : Prop := ∃ ps, t = .n ps ∧ ps.length ≤ 3 ∧ (∀ p ∈ ps, PcW R 15 p) ∧ (∀ p ∈ ps, isE p = false) ∧ NA ps
def CmW (R : List Tr → Prop) (t : Tr) : Prop := ∃ ws, t = .n ws ∧ ws.length ≤ 3 ∧ 1 ≤ ws.length ∧ ∀ x ∈ ws, WdW R x
def ScW (R : List Tr → Prop) (cs : List Tr) : Prop := cs.length ≤ 2 ∧ ∀ c ∈ cs, CmW R c
/-- runs at most so many deep, less one -/
def RunW : Nat → List Tr → Prop
  | 0 => fun _ => False
  | d + 1 => ScW (RunW d)
theorem PcW.isPc {R : List Tr → Prop} {k : Nat} {p : Tr} (h : PcW R k p) : IsPc p := by
  rcases h with ⟨w, e, _⟩ | ⟨n, e, _⟩ | ⟨cs, e, _⟩
  · exact .inl ⟨w, e⟩
  · exact .inr (.inl ⟨n, e⟩)
  · exact .inr (.inr ⟨cs, e⟩)
theorem PcW.mono {R : List Tr → Prop} {k m : Nat} {p : Tr} (hl : k ≤ m) (h : PcW R k p) : PcW R m p := by
  rcases h with ⟨w, e, h1, h2⟩ | h | h
  · exact .inl ⟨w, e, Nat.le_trans h1 hl, h2⟩
  · exact .inr (.inl h)
  · exact .inr (.inr h)
theorem isT_tx (w : List Nat) : isT (tx w) = true := by simp [isT, tx]
theorem isT_nm (w : List Nat) : isT (nm w) = false := by simp [isT, nm, nNT]
theorem isT_rn (cs : List Tr) : isT (rn cs) = false := rfl
theorem merge_W {R : List Tr → Prop} {k j : Nat} {rows : List Tr} {p : Tr} (hr : ∀ x ∈ rows, PcW R k x) (hn : NA rows) (hp : PcW R j p) : (∀ x ∈ merge rows p, PcW R (k + j) x) ∧ NA (merge rows p) := by
  have up : ∀ x ∈ rows, PcW R (k + j) x := fun x hx => (hr x hx).mono (Nat.le_add_right _ _)
  have pp : PcW R (k + j) p := hp.mono (Nat.le_add_left _ _)
  have snoc : ∀ (l : List Tr) (x : Tr), NA l → (∀ y, l.getLast? = some y → isT y = true → isT x = true → False) → NA (l ++ [x]) := by
    intro l
    induction l with
    | nil => intro x _ _; exact ⟨fun z h => (by cases h), trivial⟩
    | cons a r ih =>
      intro x h hl
      cases r with
      | nil => exact ⟨fun z hz ha hz2 => by cases hz; exact hl a rfl ha hz2, ⟨fun z h => (by cases h), trivial⟩⟩
      | cons b q => exact ⟨fun z hz => h.1 z hz, ih x h.2 (fun y hy => hl y (by rw [List.getLast?_cons_cons]; exact hy))⟩
  rcases snoc_or_nil rows with rfl | ⟨jr, q0, rfl⟩
  · have e : merge [] p = [p] := rfl
    rw [e]
    exact ⟨fun x hx => by rw [List.mem_singleton.mp hx]; exact pp, fun z h => (by cases h), trivial⟩
  · by_cases hb : (∃ u, q0 = tx u) ∧ ∃ w, p = tx w
    · obtain ⟨⟨u, rfl⟩, w, rfl⟩ := hb
      rw [merge_tx]
      have hu : u.length ≤ k ∧ OkS u := by
        rcases hr (tx u) (by simp) with ⟨w', e, h1, h2⟩ | ⟨n, e, _⟩ | ⟨cs, e, _⟩
        · rw [tx_inj e]; exact ⟨h1, h2⟩
        · exact absurd e.symm nm_tx
        · exact absurd e.symm rn_tx
      have hw : w.length ≤ j ∧ OkS w := by
        rcases hp with ⟨w', e, h1, h2⟩ | ⟨n, e, _⟩ | ⟨cs, e, _⟩
        · rw [tx_inj e]; exact ⟨h1, h2⟩
        · exact absurd e.symm nm_tx
        · exact absurd e.symm rn_tx
      refine ⟨fun x hx => ?_, ?_⟩
      · rcases List.mem_append.mp hx with h | h
        · exact up x (List.mem_append_left _ h)
        · rw [List.mem_singleton.mp h]
          refine .inl ⟨_, rfl, by rw [List.length_append]; omega, fun c hc => ?_⟩
          rcases List.mem_append.mp hc with h | h
          · exact hu.2 c h
          · exact hw.2 c h
      · have last : ∀ (l : List Tr), NA (l ++ [tx u]) → NA (l ++ [tx (u ++ w)]) := by
          intro l
          induction l with
          | nil => intro _; exact ⟨fun z h => (by cases h), trivial⟩
          | cons a r ih =>
            intro h
            cases r with
            | nil => exact ⟨fun z hz ha hz2 => h.1 (tx u) rfl ha (isT_tx u), ⟨fun z h => (by cases h), trivial⟩⟩
            | cons b q => exact ⟨fun z hz => h.1 z hz, ih h.2⟩
        exact last jr hn
    · have hm : merge (jr ++ [q0]) p = jr ++ [q0] ++ [p] := by
        refine merge_no (hr q0 (by simp)).isPc hp.isPc ?_
        by_cases h1 : ∃ u, q0 = tx u
        · exact .inl fun w e => hb ⟨h1, w, e⟩
        · exact .inr fun u e => h1 ⟨u, e⟩
      rw [hm]
      refine ⟨fun x hx => ?_, snoc _ _ hn fun y hy hty htp => ?_⟩
      · rcases List.mem_append.mp hx with h | h
        · exact up x h
        · rw [List.mem_singleton.mp h]; exact pp
      · have ey : y = q0 := by
          rw [List.getLast?_append] at hy
          simpa using hy.symm
        subst ey
        refine hb ⟨?_, ?_⟩
        · rcases hr y (by simp) with ⟨w', e, _⟩ | ⟨n, e, _⟩ | ⟨cs, e, _⟩
          · exact ⟨w', e⟩
          · rw [e, isT_nm] at hty; cases hty
          · rw [e, isT_rn] at hty; cases hty
        · rcases hp with ⟨w', e, _⟩ | ⟨n, e, _⟩ | ⟨cs, e, _⟩
          · exact ⟨w', e⟩
          · rw [e, isT_nm] at htp; cases htp
          · rw [e, isT_rn] at htp; cases htp
theorem foldl_W {R : List Tr → Prop} {j : Nat} : ∀ (ps rows : List Tr) (k : Nat), (∀ x ∈ rows, PcW R k x) → NA rows → (∀ p ∈ ps, PcW R j p) → (∀ x ∈ ps.foldl merge rows, PcW R (k + j * ps.length) x) ∧ NA (ps.foldl merge rows)
  | [], rows, k, hr, hn, _ => ⟨hr, hn⟩
  | p :: r, rows, k, hr, hn, hp => by
    obtain ⟨h1, h2⟩ := merge_W hr hn (hp p List.mem_cons_self)
    have ih := foldl_W r (merge rows p) (k + j) h1 h2 fun x hx => hp x (List.mem_cons_of_mem _ hx)
    rw [List.foldl_cons, List.length_cons, Nat.mul_succ, show k + (j * r.length + j) = k + j + j * r.length by omega]
    exact ih
theorem isE_isT {t : Tr} (h : isE t = true) : isT t = true := by
  unfold isE at h
  split at h
  · rw [Bool.and_eq_true] at h
    exact h.1
  · cases h
theorem NA_filter : ∀ l : List Tr, NA l → NA (l.filter fun t => !isE t) ∧ ∀ z, (l.filter fun t => !isE t).head? = some z → isT z = true → l.head? = some z
  | [], _ => ⟨trivial, fun z h => by cases h⟩
  | x :: r, h => by
    obtain ⟨i1, i2⟩ := NA_filter r h.2
    cases he : isE x with
    | true =>
      have ef : (x :: r).filter (fun t => !isE t) = r.filter fun t => !isE t := by simp [he]
      rw [ef]
      exact ⟨i1, fun z hz ht => (h.1 z (i2 z hz ht) (isE_isT he) ht).elim⟩
    | false =>
      have ef : (x :: r).filter (fun t => !isE t) = x :: r.filter fun t => !isE t := by simp [he]
      rw [ef]
      exact ⟨⟨fun z hz hx ht => h.1 z (i2 z hz ht) hx ht, i1⟩, fun z hz _ => hz⟩
theorem merged_W {R : List Tr → Prop} {ps : List Tr} (hl : ps.length ≤ 3) (hp : ∀ p ∈ ps, PcW R 5 p) : WdW R (.n (mergedP ps)) := by
  obtain ⟨h1, h2⟩ := foldl_W ps [] 0 (fun _ h => by cases h) trivial hp
  refine ⟨_, rfl, ?_, fun p hm => ?_, fun p hm => ?_, (NA_filter _ h2).1⟩
  · exact Nat.le_trans (List.length_filter_le _ _) (Nat.le_trans (joinP_len ps) hl)
  · exact (h1 p (List.mem_filter.mp hm).1).mono (by omega)
  · have := (List.mem_filter.mp hm).2
    simpa using this
theorem good_W : ∀ (d : Nat) (cs : List Tr), RunW (d + 1) cs → Good (4 * d + 4) (.n cs)
  | d, cs, h => by
    have pc : ∀ p k, PcW (RunW d) k p → Good (4 * d + 1) p := by
      intro p k hp
      rcases hp with ⟨w, rfl, _, h2⟩ | ⟨n, rfl, _, _, h2⟩ | ⟨cs', rfl, h2⟩
      · exact good_tx h2
      · refine ⟨(by show 2 ≤ 3000; decide), fun t ht => ?_⟩
        have e1 : ∀ c ∈ wName, c < 1114112 := by decide
        have e2 : ∀ c ∈ n, c < 1114112 := fun c hc => by
          have := h2 c hc
          unfold low at this
          simp at this
          omega
        rcases List.mem_cons.mp ht with rfl | ht
        · cases d <;> exact e1
        · rw [List.mem_singleton.mp ht]
          cases d <;> exact e2
      · cases d with
        | zero => exact h2.elim
        | succ d =>
          have ih := good_W d cs' h2
          refine ⟨(by show 2 ≤ 3000; decide), fun t ht => ?_⟩
          have e1 : ∀ c ∈ wRun, c < 1114112 := by decide
          rcases List.mem_cons.mp ht with rfl | ht
          · exact e1
          · rw [List.mem_singleton.mp ht]
            exact ih
    refine ⟨by have := h.1; omega, fun c hc => ?_⟩
    obtain ⟨ws, rfl, h1, h2, h3⟩ := h.2 c hc
    refine ⟨by omega, fun x hx => ?_⟩
    obtain ⟨ps, rfl, h4, h5, _⟩ := h3 x hx
    exact ⟨by omega, fun p hp => pc p 15 (h5 p hp)⟩
theorem good_pc {d : Nat} {p : Tr} {k : Nat} (h : PcW (RunW d) k p) : Good (4 * d + 1) p := by
  rcases h with ⟨w, rfl, _, h2⟩ | ⟨n, rfl, _, _, h2⟩ | ⟨cs', rfl, h2⟩
  · exact good_tx h2
  · refine ⟨(by show 2 ≤ 3000; decide), fun t ht => ?_⟩
    have e1 : ∀ c ∈ wName, c < 1114112 := by decide
    have e2 : ∀ c ∈ n, c < 1114112 := fun c hc => by
      have := h2 c hc
      unfold low at this
      simp at this
      omega
    rcases List.mem_cons.mp ht with rfl | ht
    · cases d <;> exact e1
    · rw [List.mem_singleton.mp ht]
      cases d <;> exact e2
  · cases d with
    | zero => exact h2.elim
    | succ d =>
      refine ⟨(by show 2 ≤ 3000; decide), fun t ht => ?_⟩
      have e1 : ∀ c ∈ wRun, c < 1114112 := by decide
      rcases List.mem_cons.mp ht with rfl | ht
      · exact e1
      · rw [List.mem_singleton.mp ht]
        exact good_W d cs' h2
theorem pcle_W {R : List Tr → Prop} {k : Nat} {p : Tr} (h : PcW R k p) (hk : k ≤ 2000) : PcLe 2000 p := by
  refine ⟨h.isPc, fun w e => ?_⟩
  rcases h with ⟨w', e', h1, _⟩ | ⟨n, e', _⟩ | ⟨cs, e', _⟩
  · rw [e'] at e
    rw [← tx_inj e]
    omega
  · rw [e'] at e; exact absurd e nm_tx
  · rw [e'] at e; exact absurd e rn_tx
theorem BagAt.notup {H : Hp} {b l : Addr} (B : BagAt H b l) : ∀ xs, H b ≠ some (.tup xs) := fun xs z => by
  obtain ⟨ns, i, cur, salt, h1, h2, h3⟩ := B.ex
  rw [h1] at z
  cases z
/-! ### spellings -/
def specA : List Nat := [32, 10, 92, 123, 125, 34, 36, 91, 93, 59, 35]
def specB : List Nat := [32, 10, 123, 125, 59, 35]
def okp (q : Bool) (c : Nat) : Bool := !decide (c ∈ specA) || (q && decide (c ∈ specB))
inductive SpS (q : Bool) : List Nat → List Nat → Prop
  | nil : SpS q [] []
  | plain {c : Nat} {w z : List Nat} (h : okp q c = true) (d : SpS q w z) : SpS q (w ++ [c]) (z ++ [c])
  | turn {c : Nat} {w z : List Nat} (h : low c = false) (d : SpS q w z) : SpS q (w ++ [c]) (z ++ [92, if c = 10 then 110 else c])
inductive SpP (R : List Tr → List Nat → Prop) (q : Bool) : List Tr → List Nat → Prop
  | nil : SpP R q [] []
  | tx {w z y : List Nat} {ps : List Tr} (h : SpS q w z) (d : SpP R q ps y) : SpP R q (tx w :: ps) (z ++ y)
  | rn {cs ps : List Tr} {z y : List Nat} (h : R cs z) (d : SpP R q ps y) : SpP R q (rn cs :: ps) (91 :: (z ++ 93 :: y))
  | nmB {n y : List Nat} {ps : List Tr} (d : SpP R q ps y) : SpP R q (nm n :: ps) (36 :: 123 :: (n ++ 125 :: y))
  | nm {n y : List Nat} {ps : List Tr} (h : y.takeWhile low = []) (d : SpP R q ps y) : SpP R q (nm n :: ps) (36 :: (n ++ y))
inductive SpW (R : List Tr → List Nat → Prop) : Tr → List Nat → Prop
  | braced {w : List Nat} (h : Pairs w = true) : SpW R (.n (if w = [] then [] else [tx w])) (123 :: (w ++ [125]))
  | quoted {ps : List Tr} {z : List Nat} (d : SpP R true ps z) : SpW R (.n ps) (34 :: (z ++ [34]))
  | bare {ps : List Tr} {z : List Nat} (d : SpP R false ps z) (h : ps ≠ []) : SpW R (.n ps) z
def SpWs (R : List Tr → List Nat → Prop) (ws : List Tr) (y : List Nat) : Prop := ∃ (zs : List (List Nat)) (sep : List Nat), (sep = [32] ∨ sep = [32, 32]) ∧ zs.length = ws.length ∧ (∀ (i : Nat) (t : Tr) (z : List Nat), ws[i]? = some t → zs[i]? = some z → SpW R t z) ∧ y = TL.joinL sep zs
def leads : List (List Nat) := [[], [32], [10, 59], [35, 32, 91, 32, 123, 32, 120, 10]]
def tails : List (List Nat) := [[59], [10], [32, 59, 32], [10, 10, 32, 35, 32, 34, 32, 92, 32, 121, 10]]
inductive SpC (R : List Tr → List Nat → Prop) : List Tr → List Nat → Prop
  | base {z : List Nat} (h : z ∈ leads) : SpC R [] z
  | snoc {cs ws : List Tr} {z y e : List Nat} (d : SpC R cs z) (hw : SpWs R ws y) (he : e ∈ tails) : SpC R (cs ++ [.n ws]) (z ++ y ++ e)
def SpT : Nat → List Tr → List Nat → Prop
  | 0 => fun _ _ => False
  | d + 1 => SpC (SpT d)
/-- how long the spelling of so deep a script may be -/
def Ls : Nat → Nat
  | 0 => 0
  | d + 1 => 18 * Ls d + 840
/-- so long, of these signs -/
def SB (k : Nat) (z : List Nat) : Prop := z.length ≤ k ∧ OkS z
theorem SB.app {a b : List Nat} {j k : Nat} (h1 : SB j a) (h2 : SB k b) : SB (j + k) (a ++ b) := ⟨by rw [List.length_append]; exact Nat.add_le_add h1.1 h2.1, fun c hc => (List.mem_append.mp hc).elim (h1.2 c) (h2.2 c)⟩
theorem SB.cons {a : Nat} {b : List Nat} {k : Nat} (ha : a < 1114112) (h : SB k b) : SB (k + 1) (a :: b) := ⟨by rw [List.length_cons]; exact Nat.succ_le_succ h.1, fun c hc => (List.mem_cons.mp hc).elim (fun e => by rw [e]; exact ha) (h.2 c)⟩
theorem SB.mono {b : List Nat} {j k : Nat} (hl : j ≤ k) (h : SB j b) : SB k b := ⟨Nat.le_trans h.1 hl, h.2⟩
theorem SpS.len {q : Bool} {w z : List Nat} (h : SpS q w z) : z.length ≤ 2 * w.length := by
  induction h with
  | nil => exact Nat.le_refl _
  | plain h d ih => rw [List.length_append, List.length_append]; simp; omega
  | turn h d ih => rw [List.length_append, List.length_append]; simp; omega
theorem SpS.ok {q : Bool} {w z : List Nat} (h : SpS q w z) : OkS w → OkS z := by
  induction h with
  | nil => intro h; exact h
  | @plain c w z h d ih =>
    intro k x hx
    rcases List.mem_append.mp hx with e | e
    · exact ih (fun y hy => k y (List.mem_append_left _ hy)) x e
    · exact k x (List.mem_append_right _ e)
  | @turn c w z h d ih =>
    intro k x hx
    rcases List.mem_append.mp hx with e | e
    · exact ih (fun y hy => k y (List.mem_append_left _ hy)) x e
    · have kc := k c (by simp)
      simp only [List.mem_cons, List.not_mem_nil, or_false] at e
      rcases e with rfl | rfl
      · decide
      · split <;> omega
end My
namespace My
open PySem L2 SX C8
/-! ### the texts of a word -/
def txo : Tr → Option (List Nat)
  | .n [.s k, .s w] => if k = wText then some w else none
  | _ => none
def txl (ps : List Tr) : List (List Nat) := ps.filterMap txo
theorem txo_tx (w : List Nat) : txo (tx w) = some w := by simp [txo, tx]
theorem txo_nm (w : List Nat) : txo (nm w) = none := by simp [txo, nm, nNT]
theorem txo_rn (cs : List Tr) : txo (rn cs) = none := rfl
theorem txl_len {R : List Tr → Prop} : ∀ (ps : List Tr), (∀ p ∈ ps, PcW R 15 p) → (txl ps).flatten.length ≤ 15 * ps.length ∧ OkS (txl ps).flatten ∧ (txl ps).length ≤ ps.length
  | [], _ => ⟨Nat.le_refl _, fun c h => (by cases h), Nat.le_refl _⟩
  | p :: r, h => by
    obtain ⟨i1, i2, i3⟩ := txl_len r fun x hx => h x (List.mem_cons_of_mem _ hx)
    have hp := h p List.mem_cons_self
    have other : txo p = none → (txl (p :: r)).flatten.length ≤ 15 * (p :: r).length ∧ OkS (txl (p :: r)).flatten ∧ (txl (p :: r)).length ≤ (p :: r).length := fun e => by
      have e2 : txl (p :: r) = txl r := by unfold txl; rw [List.filterMap_cons, e]
      rw [e2, List.length_cons]
      exact ⟨by omega, i2, by omega⟩
    rcases hp with ⟨w, rfl, h1, h2⟩ | ⟨n, rfl, _⟩ | ⟨cs, rfl, _⟩
    · have e2 : txl (tx w :: r) = w :: txl r := by unfold txl; rw [List.filterMap_cons, txo_tx]
      rw [e2, List.flatten_cons, List.length_cons, List.length_append, List.length_cons]
      refine ⟨by omega, fun c hc => ?_, by omega⟩
      exact (List.mem_append.mp hc).elim (h2 c) (i2 c)
    · exact other (txo_nm n)
    · exact other (txo_rn cs)
theorem txl_all {R : List Tr → Prop} {k : Nat} {ps : List Tr} (hp : ∀ p ∈ ps, PcW R k p) (he : ∀ p ∈ ps, isE p = false) (hn : NA ps) (ha : (ps.map isT).all id = true) : ps = if (txl ps).flatten = [] then [] else [tx (txl ps).flatten] := by
  match ps with
  | [] => rfl
  | [p] =>
    have ht : isT p = true := by simpa using ha
    rcases hp p (by simp) with ⟨w, rfl, h1, h2⟩ | ⟨n, rfl, _⟩ | ⟨cs, rfl, _⟩
    · have e : (txl [tx w]).flatten = w := by unfold txl; rw [List.filterMap_cons, txo_tx]; simp
      rw [e]
      have hw : w ≠ [] := fun z => by
        have := he (tx w) (by simp)
        subst z
        exact absurd this (by decide)
      rw [if_neg hw]
    · rw [isT_nm] at ht; cases ht
    · rw [isT_rn] at ht; cases ht
  | p :: p2 :: r =>
    have h2 : isT p = true ∧ isT p2 = true := by
      have : (isT p && (isT p2 && (r.map isT).all id)) = true := ha
      rw [Bool.and_eq_true, Bool.and_eq_true] at this
      exact ⟨this.1, this.2.1⟩
    exact (hn.1 p2 rfl h2.1 h2.2).elim
end My
namespace My
open PySem L2 SX C8
/-! ### what is spelt is read -/
def sg (w : List Nat) : List Tr := w.map fun c => tx [c]
def rawOf : Tr → List Tr
  | .n [.s k, .s w] => if k = wText then sg w else [.n [.s k, .s w]]
  | t => [t]
theorem raw_tx (w : List Nat) : rawOf (tx w) = sg w := by simp [rawOf, tx]
theorem raw_nm (w : List Nat) : rawOf (nm w) = [nm w] := by simp [rawOf, nm, nNT]
theorem raw_rn (cs : List Tr) : rawOf (rn cs) = [rn cs] := rfl
def raw (ps : List Tr) : List Tr := ps.flatMap rawOf
theorem raw_cons (p : Tr) (ps : List Tr) : raw (p :: ps) = rawOf p ++ raw ps := List.flatMap_cons
theorem fold_sg : ∀ (w u : List Nat) (rows : List Tr), (sg w).foldl merge (rows ++ [tx u]) = rows ++ [tx (u ++ w)]
  | [], u, rows => by simp [sg]
  | c :: r, u, rows => by
    have ih := fold_sg r (u ++ [c]) rows
    show (sg r).foldl merge (merge (rows ++ [tx u]) (tx [c])) = _
    rw [merge_tx, ih, List.append_assoc]
    rfl
theorem notT {t : Tr} (h : IsPc t) (hn : isT t = false) : ∀ w, t ≠ tx w := fun w e => by
  rw [e, isT_tx] at hn
  cases hn
theorem isT_ex {t : Tr} (h : IsPc t) (hn : isT t = true) : ∃ w, t = tx w := by
  rcases h with ⟨w, e⟩ | ⟨n, e⟩ | ⟨cs, e⟩
  · exact ⟨w, e⟩
  · rw [e, isT_nm] at hn; cases hn
  · rw [e, isT_rn] at hn; cases hn
theorem merge_new {rows : List Tr} {p : Tr} (hr : ∀ x, rows.getLast? = some x → IsPc x ∧ (isT x = true → isT p = true → False)) (hp : IsPc p) : merge rows p = rows ++ [p] := by
  rcases snoc_or_nil rows with rfl | ⟨jr, q0, rfl⟩
  · rfl
  · obtain ⟨h1, h2⟩ := hr q0 (by simp)
    refine merge_no h1 hp ?_
    cases e : isT q0 with
    | false => exact .inr (notT h1 e)
    | true =>
      cases e2 : isT p with
      | false => exact .inl (notT hp e2)
      | true => exact (h2 e e2).elim
theorem fold_raw : ∀ (ps rows : List Tr), (∀ x, rows.getLast? = some x → IsPc x ∧ ∀ y, ps.head? = some y → isT x = true → isT y = true → False) → NA ps → (∀ p ∈ ps, IsPc p ∧ isE p = false) → (raw ps).foldl merge rows = rows ++ ps
  | [], rows, _, _, _ => by simp [raw]
  | p :: r, rows, hr, hn, hp => by
    obtain ⟨h1, h2⟩ := hp p List.mem_cons_self
    have step : (rawOf p).foldl merge rows = rows ++ [p] := by
      have new : ∀ q, IsPc q → (isT q = true → isT p = true) → merge rows q = rows ++ [q] := fun q hq hqp => merge_new (fun x hx => ⟨(hr x hx).1, fun a b => (hr x hx).2 p rfl a (hqp b)⟩) hq
      rcases h1 with ⟨w, rfl⟩ | ⟨n, rfl⟩ | ⟨cs, rfl⟩
      · rw [raw_tx]
        cases w with
        | nil => exact absurd h2 (by decide)
        | cons c w =>
          show (sg w).foldl merge (merge rows (tx [c])) = _
          rw [new (tx [c]) (.inl ⟨_, rfl⟩) (fun _ => isT_tx _), fold_sg]
          rfl
      · rw [raw_nm]
        exact new (nm n) (.inr (.inl ⟨_, rfl⟩)) id
      · rw [raw_rn]
        exact new (rn cs) (.inr (.inr ⟨_, rfl⟩)) id
    rw [raw_cons, List.foldl_append, step]
    rw [fold_raw r (rows ++ [p]) (fun x hx => ?_) hn.2 fun q hq => hp q (List.mem_cons_of_mem _ hq)]
    · simp
    · have ex : x = p := by
        rw [List.getLast?_append] at hx
        simpa using hx.symm
      subst ex
      exact ⟨h1, fun y hy => hn.1 y hy⟩
theorem join_raw {ps : List Tr} (hn : NA ps) (hp : ∀ p ∈ ps, IsPc p ∧ isE p = false) : joinP (raw ps) = ps := by
  have := fold_raw ps [] (fun x h => by cases h) hn hp
  simpa [joinP] using this
/-! #### signs -/
theorem mean_nof {c : Nat} (h : low c = false) : mean (if c = 10 then 110 else c) = c := by
  unfold mean
  by_cases h1 : c = 10
  · subst h1; rfl
  · rw [if_neg h1]
    have : c ≠ 110 := fun z => by rw [z] at h; exact absurd h (by decide)
    rw [if_neg this]
theorem okp_no {q : Bool} {c : Nat} (h : okp q c = true) : c ≠ 92 ∧ c ≠ 36 ∧ c ≠ 91 ∧ c ≠ 34 := by
  refine ⟨?_, ?_, ?_, ?_⟩
  all_goals
    intro z
    subst z
    cases q <;> exact absurd h (by decide)
theorem okp_bare {c : Nat} (h : okp false c = true) : c ∉ specA := by
  unfold okp at h
  simpa using h
theorem bW_no {w c : Nat} {r : List Nat} (h : c ≠ 32 ∧ c ≠ 10 ∧ c ≠ 59 ∧ c ≠ 93) : bW w (c :: r) = false := by
  obtain ⟨h1, h2, h3, h4⟩ := h
  show ((((decide (0 < w) && decide (c = 93)) || (decide (c = 10) || decide (c = 59))) || decide (c = 32)) = false)
  rw [decide_eq_false h1, decide_eq_false h2, decide_eq_false h3, decide_eq_false h4]
  simp
theorem okp_bW {w c : Nat} {r : List Nat} (h : okp false c = true) : bW w (c :: r) = false := by
  have h1 := okp_bare h
  refine bW_no ⟨?_, ?_, ?_, ?_⟩
  all_goals
    intro z
    subst z
    exact h1 (by decide)
theorem quo_sg {w q : Nat} {u z : List Nat} (h : SpS true u z) : ∀ {rest r : List Nat} {ts : List Tr}, DQuo w q rest (.ok ts r) → DQuo w q (z ++ rest) (.ok (sg u ++ ts) r) := by
  induction h with
  | nil => intro rest r ts d; exact d
  | @plain c u z h d0 ih =>
    intro rest r ts d
    obtain ⟨n1, n2, n3, n4⟩ := okp_no h
    have := ih (DQuo.piece (o := .ok ts r) n4 (.sign (w := w) n1 n2 n3) d)
    rw [List.append_assoc]
    simpa [sg, Out.cons] using this
  | @turn c u z h d0 ih =>
    intro rest r ts d
    have := ih (DQuo.piece (o := .ok ts r) (by decide) (.turn (w := w) (d := if c = 10 then 110 else c)) d)
    rw [mean_nof h] at this
    rw [List.append_assoc]
    simpa [sg, Out.cons] using this
theorem bar_sg {w : Nat} {u z : List Nat} (h : SpS false u z) : ∀ {rest r : List Nat} {ts : List Tr}, DBar w rest (.ok ts r) → DBar w (z ++ rest) (.ok (sg u ++ ts) r) := by
  induction h with
  | nil => intro rest r ts d; exact d
  | @plain c u z h d0 ih =>
    intro rest r ts d
    obtain ⟨n1, n2, n3, n4⟩ := okp_no h
    have := ih (DBar.piece (o := .ok ts r) (okp_bW h) (.sign (w := w) n1 n2 n3) d)
    rw [List.append_assoc]
    simpa [sg, Out.cons] using this
  | @turn c u z h d0 ih =>
    intro rest r ts d
    have := ih (DBar.piece (o := .ok ts r) (bW_no (by decide)) (.turn (w := w) (d := if c = 10 then 110 else c)) d)
    rw [mean_nof h] at this
    rw [List.append_assoc]
    simpa [sg, Out.cons] using this
/-! #### names -/
theorem tw_app {n s : List Nat} (hn : ∀ c ∈ n, low c = true) (hs : s.takeWhile low = []) : (n ++ s).takeWhile low = n ∧ (n ++ s).dropWhile low = s := by
  induction n with
  | nil =>
    refine ⟨hs, ?_⟩
    cases s with
    | nil => rfl
    | cons c r =>
      rw [List.nil_append]
      rw [List.takeWhile_cons] at hs
      rw [List.dropWhile_cons]
      cases hc : low c with
      | true => rw [hc] at hs; cases hs
      | false => rfl
  | cons a r ih =>
    obtain ⟨i1, i2⟩ := ih fun c hc => hn c (List.mem_cons_of_mem _ hc)
    have ha := hn a List.mem_cons_self
    rw [List.cons_append, List.takeWhile_cons, List.dropWhile_cons, ha]
    exact ⟨by simp [i1], by simpa using i2⟩
theorem name_held {n s : List Nat} (h1 : 1 ≤ n.length) (h8 : n.length ≤ 8) (hn : ∀ c ∈ n, low c = true) : nameOf (123 :: (n ++ 125 :: s)) = some (n, s) := by
  obtain ⟨e1, e2⟩ := tw_app (s := 125 :: s) hn rfl
  have := (name_parts (123 :: (n ++ 125 :: s)) true rfl (n ++ 125 :: s) rfl).1
  rw [e1, e2] at this
  exact this ⟨⟨h1, h8⟩, fun _ => rfl⟩
theorem name_free {n s : List Nat} (h1 : 1 ≤ n.length) (h8 : n.length ≤ 8) (hn : ∀ c ∈ n, low c = true) (hs : s.takeWhile low = []) : nameOf (n ++ s) = some (n, s) := by
  obtain ⟨e1, e2⟩ := tw_app hn hs
  have hb : false = decide ((n ++ s).take 1 = [123]) := by
    cases n with
    | nil => simp at h1
    | cons a r =>
      have ha := hn a List.mem_cons_self
      refine (decide_eq_false fun z => ?_).symm
      have : a = 123 := List.head_eq_of_cons_eq z
      rw [this] at ha
      exact absurd ha (by decide)
  have := (name_parts (n ++ s) false hb (n ++ s) rfl).1
  rw [e1, e2] at this
  exact this ⟨⟨h1, h8⟩, fun z => by cases z⟩
theorem tw_two {y s : List Nat} (hy : y.takeWhile low = []) (hs : s.takeWhile low = []) : (y ++ s).takeWhile low = [] := by
  cases y with
  | nil => exact hs
  | cons c r =>
    rw [List.takeWhile_cons] at hy
    rw [List.cons_append, List.takeWhile_cons]
    cases hc : low c with
    | true => rw [hc] at hy; cases hy
    | false => rfl
theorem rn_inj {a b : List Tr} (h : rn a = rn b) : a = b := by
  unfold rn at h
  injection h with h
  injection h with _ h
  injection h with h _
  injection h
theorem rn_nm {cs : List Tr} {n : List Nat} : rn cs ≠ nm n := fun h => by
  unfold rn nm at h
  injection h with h
  injection h with h _
  injection h with h
  exact absurd h (by decide)
theorem nm_inj {a b : List Nat} (h : nm a = nm b) : a = b := by
  unfold nm at h
  injection h with h
  injection h with _ h
  injection h with h _
  injection h
theorem nm_W {R : List Tr → Prop} {k : Nat} {n : List Nat} (h : PcW R k (nm n)) : 1 ≤ n.length ∧ n.length ≤ 8 ∧ ∀ c ∈ n, low c = true := by
  rcases h with ⟨w, e, _⟩ | ⟨n', e, h⟩ | ⟨cs', e, _⟩
  · exact absurd e nm_tx
  · rw [nm_inj e]; exact h
  · exact absurd e.symm rn_nm
/-! #### pieces -/
def RdsR (R : List Tr → Prop) (T : List Tr → List Nat → Prop) (d : Nat) : Prop := ∀ cs z, R cs → T cs z → 1 ≤ d ∧ ∀ w r, w + d ≤ 13 → bS w r = true → DScr w (z ++ r) (.ok cs r)
theorem pc_rn {R : List Tr → Prop} {T : List Tr → List Nat → Prop} {d : Nat} (I : RdsR R T d) {cs : List Tr} {z s : List Nat} {w : Nat} (hR : R cs) (hT : T cs z) (hw : w + 1 + d ≤ 13) : DPc w (91 :: (z ++ 93 :: s)) (.ok [rn cs] s) :=
  .run (by have := (I cs z hR hT).1; omega) ((I cs z hR hT).2 (w + 1) (93 :: s) hw (by show (decide (0 < w + 1) && decide (93 = 93)) = true; simp))
theorem quo_pcs {R : List Tr → Prop} {T : List Tr → List Nat → Prop} {d k : Nat} (I : RdsR R T d) {w q : Nat} (hw : w + 1 + d ≤ 13) {ps : List Tr} {z : List Nat} (h : SpP T true ps z) : (∀ p ∈ ps, PcW R k p) → ∀ {rest r : List Nat} {ts : List Tr}, rest.takeWhile low = [] → DQuo w q rest (.ok ts r) → DQuo w q (z ++ rest) (.ok (raw ps ++ ts) r) := by
  induction h with
  | nil => intro _ rest r ts _ d; exact d
  | @tx u z y ps h d0 ih =>
    intro hp rest r ts hr d
    rw [raw_cons, raw_tx, List.append_assoc, List.append_assoc]
    exact quo_sg h (ih (fun p hm => hp p (List.mem_cons_of_mem _ hm)) hr d)
  | @rn cs ps z y h d0 ih =>
    intro hp rest r ts hr d
    have hR : R cs := by
      rcases hp (rn cs) List.mem_cons_self with ⟨w, e, _⟩ | ⟨n, e, _⟩ | ⟨cs', e, h2⟩
      · exact absurd e rn_tx
      · exact absurd e rn_nm
      · rw [rn_inj e]; exact h2
    rw [raw_cons, raw_rn]
    have := DQuo.piece (o := .ok (raw ps ++ ts) r) (by decide) (pc_rn I (s := y ++ rest) (w := w) hR h hw) (ih (fun p hm => hp p (List.mem_cons_of_mem _ hm)) hr d)
    simpa [Out.cons] using this
  | @nmB n y ps d0 ih =>
    intro hp rest r ts hr d
    obtain ⟨h1, h8, hn⟩ := nm_W (hp (nm n) List.mem_cons_self)
    rw [raw_cons, raw_nm]
    have := DQuo.piece (o := .ok (raw ps ++ ts) r) (by decide) (.name (w := w) (name_held (s := y ++ rest) h1 h8 hn)) (ih (fun p hm => hp p (List.mem_cons_of_mem _ hm)) hr d)
    simpa [Out.cons] using this
  | @nm n y ps hy d0 ih =>
    intro hp rest r ts hr d
    obtain ⟨h1, h8, hn⟩ := nm_W (hp (My.nm n) List.mem_cons_self)
    rw [raw_cons, raw_nm]
    have := DQuo.piece (o := .ok (raw ps ++ ts) r) (by decide) (.name (w := w) (name_free (s := y ++ rest) h1 h8 hn (tw_two hy hr))) (ih (fun p hm => hp p (List.mem_cons_of_mem _ hm)) hr d)
    simpa [Out.cons] using this
theorem bar_pcs {R : List Tr → Prop} {T : List Tr → List Nat → Prop} {d k : Nat} (I : RdsR R T d) {w : Nat} (hw : w + 1 + d ≤ 13) {ps : List Tr} {z : List Nat} (h : SpP T false ps z) : (∀ p ∈ ps, PcW R k p) → ∀ {rest r : List Nat} {ts : List Tr}, rest.takeWhile low = [] → DBar w rest (.ok ts r) → DBar w (z ++ rest) (.ok (raw ps ++ ts) r) := by
  induction h with
  | nil => intro _ rest r ts _ d; exact d
  | @tx u z y ps h d0 ih =>
    intro hp rest r ts hr d
    rw [raw_cons, raw_tx, List.append_assoc, List.append_assoc]
    exact bar_sg h (ih (fun p hm => hp p (List.mem_cons_of_mem _ hm)) hr d)
  | @rn cs ps z y h d0 ih =>
    intro hp rest r ts hr d
    have hR : R cs := by
      rcases hp (rn cs) List.mem_cons_self with ⟨w, e, _⟩ | ⟨n, e, _⟩ | ⟨cs', e, h2⟩
      · exact absurd e rn_tx
      · exact absurd e rn_nm
      · rw [rn_inj e]; exact h2
    rw [raw_cons, raw_rn]
    have := DBar.piece (o := .ok (raw ps ++ ts) r) (bW_no (by decide)) (pc_rn I (s := y ++ rest) (w := w) hR h hw) (ih (fun p hm => hp p (List.mem_cons_of_mem _ hm)) hr d)
    simpa [Out.cons] using this
  | @nmB n y ps d0 ih =>
    intro hp rest r ts hr d
    obtain ⟨h1, h8, hn⟩ := nm_W (hp (nm n) List.mem_cons_self)
    rw [raw_cons, raw_nm]
    have := DBar.piece (o := .ok (raw ps ++ ts) r) (bW_no (by decide)) (.name (w := w) (name_held (s := y ++ rest) h1 h8 hn)) (ih (fun p hm => hp p (List.mem_cons_of_mem _ hm)) hr d)
    simpa [Out.cons] using this
  | @nm n y ps hy d0 ih =>
    intro hp rest r ts hr d
    obtain ⟨h1, h8, hn⟩ := nm_W (hp (My.nm n) List.mem_cons_self)
    rw [raw_cons, raw_nm]
    have := DBar.piece (o := .ok (raw ps ++ ts) r) (bW_no (by decide)) (.name (w := w) (name_free (s := y ++ rest) h1 h8 hn (tw_two hy hr))) (ih (fun p hm => hp p (List.mem_cons_of_mem _ hm)) hr d)
    simpa [Out.cons] using this
/-! #### words -/
/-- how a word begins -/
def Hd (c : Nat) : Prop := c ≠ 32 ∧ c ≠ 10 ∧ c ≠ 59 ∧ c ≠ 93 ∧ c ≠ 35
theorem sgs_head {u z : List Nat} (h : SpS false u z) (hu : u ≠ []) : ∃ c z', z = c :: z' ∧ Hd c ∧ c ≠ 123 ∧ c ≠ 34 := by
  have one : ∀ (w : List Nat) (z2 e : List Nat) (c : Nat) (e' : List Nat), e = c :: e' → (Hd c ∧ c ≠ 123 ∧ c ≠ 34) → SpS false w z2 → (w ≠ [] → ∃ c z', z2 = c :: z' ∧ Hd c ∧ c ≠ 123 ∧ c ≠ 34) → ∃ c z', z2 ++ e = c :: z' ∧ Hd c ∧ c ≠ 123 ∧ c ≠ 34 := fun w z2 e c e' he hc hs ih => by
    by_cases hw : w = []
    · subst hw
      have hl := hs.len
      have hz : z2 = [] := by simpa using hl
      exact ⟨c, e', by rw [hz, he]; rfl, hc⟩
    · obtain ⟨c2, z3, e3, h3⟩ := ih hw
      exact ⟨c2, z3 ++ e, by rw [e3]; rfl, h3⟩
  induction h with
  | nil => exact absurd rfl hu
  | @plain c w z h d ih =>
    refine one w z [c] c [] rfl ?_ d ih
    have h1 := okp_bare h
    refine ⟨⟨?_, ?_, ?_, ?_, ?_⟩, ?_, ?_⟩
    all_goals
      intro z
      subst z
      exact h1 (by decide)
  | @turn c w z h d ih => exact one w z _ 92 [if c = 10 then 110 else c] rfl ⟨⟨by decide, by decide, by decide, by decide, by decide⟩, by decide, by decide⟩ d ih
theorem pcs_head {T : List Tr → List Nat → Prop} {ps : List Tr} {z : List Nat} (h : SpP T false ps z) (hne : ps ≠ []) (he : ∀ p ∈ ps, isE p = false) : ∃ c z', z = c :: z' ∧ Hd c ∧ c ≠ 123 ∧ c ≠ 34 := by
  cases h with
  | nil => exact absurd rfl hne
  | @tx u z y ps h d0 =>
    have hu : u ≠ [] := fun e => by
      have := he (tx u) List.mem_cons_self
      rw [e] at this
      exact absurd this (by decide)
    obtain ⟨c, z', e, h3⟩ := sgs_head h hu
    exact ⟨c, z' ++ y, by rw [e]; rfl, h3⟩
  | rn h d0 => exact ⟨_, _, rfl, ⟨by decide, by decide, by decide, by decide, by decide⟩, by decide, by decide⟩
  | nmB d0 => exact ⟨_, _, rfl, ⟨by decide, by decide, by decide, by decide, by decide⟩, by decide, by decide⟩
  | nm hy d0 => exact ⟨_, _, rfl, ⟨by decide, by decide, by decide, by decide, by decide⟩, by decide, by decide⟩
theorem bW_tw {w : Nat} {r : List Nat} (h : bW w r = true) : r.takeWhile low = [] := by
  cases r with
  | nil => rfl
  | cons c r =>
    rw [List.takeWhile_cons]
    cases hc : low c with
    | false => rfl
    | true =>
      have hw := bW_no (w := w) (c := c) (r := r) ⟨?_, ?_, ?_, ?_⟩
      · rw [hw] at h; cases h
      all_goals
        intro z
        subst z
        exact absurd hc (by decide)
/-- a word as it is told of reading -/
def WdK (R : List Tr → Prop) (k : Nat) (t : Tr) : Prop := ∃ ps, t = .n ps ∧ ps.length ≤ k ∧ (∀ p ∈ ps, PcW R k p) ∧ (∀ p ∈ ps, isE p = false) ∧ NA ps
theorem WdW.k {R : List Tr → Prop} {t : Tr} (h : WdW R t) : WdK R 15 t := by
  obtain ⟨ps, e, h0, h1, h2, h3⟩ := h
  exact ⟨ps, e, by omega, h1, h2, h3⟩
theorem wrd_read {R : List Tr → Prop} {T : List Tr → List Nat → Prop} {d k : Nat} (I : RdsR R T d) {w : Nat} (hw : w + 1 + d ≤ 13) {t : Tr} {z : List Nat} (hW : WdK R k t) (h : SpW T t z) : ∀ {r : List Nat}, bW w r = true → DWrd w (z ++ r) (.ok [t] r) ∧ ∃ c z', z = c :: z' ∧ Hd c := by
  intro r hr
  obtain ⟨ps, rfl, _, hP, hE, hN⟩ := hW
  have hPE : ∀ p ∈ ps, IsPc p ∧ isE p = false := fun p hp => ⟨(hP p hp).isPc, hE p hp⟩
  generalize hg : (Tr.n ps) = t at h
  cases h with
  | @braced u h =>
    have hp := pend_more _ r 0 0 _ ((pend_pairs u).mpr h)
    rw [List.cons_append] at hp
    have e0 : 123 :: (u ++ [125]) ++ r = 123 :: (u ++ [125] ++ r) := rfl
    have ed : (u ++ [125] ++ r).drop (u.length + 1) = r := by
      rw [List.append_assoc]
      have : (u ++ ([125] ++ r)).drop (u.length + 1) = ([125] ++ r).drop 1 := by
        rw [List.drop_append]
        simp
      rw [this]
      rfl
    refine ⟨?_, 123, u ++ [125], rfl, ⟨by decide, by decide, by decide, by decide, by decide⟩⟩
    rw [e0]
    have := DWrd.braced (w := w) (r := u ++ [125] ++ r) (e := u.length + 1) hp (by rw [ed]; exact hr)
    rw [ed] at this
    have et : (u ++ [125] ++ r).take (u.length + 1 - 1) = u := by
      rw [Nat.add_sub_cancel, List.append_assoc]
      exact List.take_left
    rw [et] at this
    by_cases hu : u = []
    · subst hu
      exact this
    · have hl : ¬ u.length + 1 = 1 := fun z => hu (List.eq_nil_of_length_eq_zero (by omega))
      rw [if_neg hl] at this
      rw [if_neg hu]
      exact this
  | @quoted ps' z d0 =>
    injection hg with hg
    subst hg
    refine ⟨?_, 34, z ++ [34], rfl, ⟨by decide, by decide, by decide, by decide, by decide⟩⟩
    have e0 : 34 :: (z ++ [34]) ++ r = 34 :: (z ++ 34 :: r) := by simp
    rw [e0]
    have dq := quo_pcs (k := k) (q := (z ++ 34 :: r).length + 1) I hw d0 hP (rest := 34 :: r) rfl .stop
    rw [List.append_nil] at dq
    have := DWrd.quoted dq hr
    rw [join_raw hN hPE] at this
    exact this
  | @bare ps' z d0 hne =>
    injection hg with hg
    subst hg
    obtain ⟨c, z', ez, hh, n1, n2⟩ := pcs_head d0 hne hE
    have db := bar_pcs (k := k) I hw d0 hP (bW_tw hr) (.stop hr)
    rw [List.append_nil] at db
    subst ez
    refine ⟨?_, c, z', rfl, hh⟩
    have := DWrd.bare n1 n2 db hr
    rw [join_raw hN hPE] at this
    exact this
theorem Hd.bW {w c : Nat} {r : List Nat} (h : Hd c) : bW w (c :: r) = false := bW_no ⟨h.1, h.2.1, h.2.2.1, h.2.2.2.1⟩
theorem bC_bW {w : Nat} {l : List Nat} (h : bC w l = true) : bW w l = true := by
  cases l with
  | nil => rfl
  | cons c r => show (bC w (c :: r) || decide (c = 32)) = true; rw [h]; rfl
/-! #### commands -/
theorem bl_bC {w : Nat} {r : List Nat} : bC w (32 :: r) = false := by
  show ((decide (0 < w) && decide (32 = 93)) || (decide (32 = 10) || decide (32 = 59))) = false
  simp
theorem bl_bW {w : Nat} {r : List Nat} : bW w (32 :: r) = true := by
  show (_ || decide (32 = 32)) = true
  simp
theorem cmd_sep {w : Nat} {sep : List Nat} (hs : sep = [32] ∨ sep = [32, 32]) {l r : List Nat} {ts : List Tr} (d : DCmd w l (.ok ts r)) : DCmd w (sep ++ l) (.ok ts r) := by
  have one : ∀ {l r : List Nat} {ts : List Tr}, DCmd w l (.ok ts r) → DCmd w (32 :: l) (.ok ts r) := fun {l r ts} d => .skip bl_bC bl_bW d
  rcases hs with rfl | rfl
  · exact one d
  · exact one (one d)
theorem cmd_read {R : List Tr → Prop} {T : List Tr → List Nat → Prop} {d k : Nat} (I : RdsR R T d) {w : Nat} (hw : w + 1 + d ≤ 13) {sep : List Nat} (hs : sep = [32] ∨ sep = [32, 32]) : ∀ (ws : List Tr) (zs : List (List Nat)), zs.length = ws.length → (∀ (i : Nat) (t : Tr) (z : List Nat), ws[i]? = some t → zs[i]? = some z → SpW T t z) → (∀ x ∈ ws, WdK R k x) → ∀ {s r : List Nat} {ts : List Tr}, bW w s = true → DCmd w s (.ok ts r) → DCmd w (TL.joinL sep zs ++ s) (.ok (ws ++ ts) r) ∧ (ws ≠ [] → ∃ c z', TL.joinL sep zs = c :: z' ∧ Hd c)
  | [], zs, hl, _, _, s, r, ts, _, d => by
    have : zs = [] := List.eq_nil_of_length_eq_zero hl
    subst this
    exact ⟨d, fun h => absurd rfl h⟩
  | [t], zs, hl, hT, hW, s, r, ts, hs2, d => by
    match zs, hl with
    | [z], _ =>
      obtain ⟨dw, c, z', ez, hh⟩ := wrd_read I hw (hW t (by simp)) (hT 0 t z rfl rfl) hs2
      subst ez
      exact ⟨DCmd.word (o := .ok ts r) hh.bW dw d, fun _ => ⟨c, z', rfl, hh⟩⟩
  | t :: t2 :: ws, zs, hl, hT, hW, s, r, ts, hs2, d => by
    match zs, hl with
    | z :: z2 :: zs, hl =>
      obtain ⟨ih, _⟩ := cmd_read I hw hs (t2 :: ws) (z2 :: zs) (by simpa using hl) (fun i u x hu hx => hT (i + 1) u x (by simpa using hu) (by simpa using hx)) (fun x hx => hW x (List.mem_cons_of_mem _ hx)) hs2 d
      have e : TL.joinL sep (z :: z2 :: zs) = z ++ (sep ++ TL.joinL sep (z2 :: zs)) := rfl
      have hb : bW w (sep ++ TL.joinL sep (z2 :: zs) ++ s) = true := by
        rcases hs with rfl | rfl <;> exact bl_bW
      obtain ⟨dw, c, z', ez, hh⟩ := wrd_read I hw (hW t (by simp)) (hT 0 t z rfl rfl) hb
      subst ez
      refine ⟨?_, fun _ => ⟨c, z' ++ (sep ++ TL.joinL sep (z2 :: zs)), rfl, hh⟩⟩
      have e2 : TL.joinL sep ((c :: z') :: z2 :: zs) ++ s = c :: (z' ++ (sep ++ TL.joinL sep (z2 :: zs) ++ s)) := by
        show (c :: z') ++ (sep ++ TL.joinL sep (z2 :: zs)) ++ s = _
        simp
      rw [e2]
      have h2 := cmd_sep hs ih
      rw [← List.append_assoc] at h2
      exact DCmd.word (o := .ok (t2 :: ws ++ ts) r) hh.bW dw h2
/-! #### scripts -/
theorem scr_gap {w c : Nat} {l r : List Nat} {ts : List Tr} (hc : c = 32 ∨ c = 10 ∨ c = 59) (d : DScr w l (.ok ts r)) : DScr w (c :: l) (.ok ts r) := by
  refine .skip ?_ ?_ d
  · show (decide (0 < w) && decide (c = 93)) = false
    rcases hc with rfl | rfl | rfl <;> simp
  · show ((decide (0 < w) && decide (c = 93)) || (decide (c = 10) || decide (c = 59)) || decide (c = 32)) = true
    rcases hc with rfl | rfl | rfl <;> simp
theorem scr_rem {w : Nat} {l l2 r : List Nat} {ts : List Tr} (e : dropRem l = l2) (d : DScr w l2 (.ok ts r)) : DScr w (35 :: l) (.ok ts r) := .remark (bW_no (by decide)) (by rw [e]; exact d)
theorem lead_read {w : Nat} {z : List Nat} (h : z ∈ leads) {l r : List Nat} {ts : List Tr} (d : DScr w l (.ok ts r)) : DScr w (z ++ l) (.ok ts r) := by
  unfold leads at h
  simp only [List.mem_cons, List.not_mem_nil, or_false] at h
  rcases h with rfl | rfl | rfl | rfl
  · exact d
  · exact scr_gap (.inl rfl) d
  · exact scr_gap (.inr (.inl rfl)) (scr_gap (.inr (.inr rfl)) d)
  · exact scr_rem (l2 := 10 :: l) rfl (scr_gap (.inr (.inl rfl)) d)
theorem tail_read {w : Nat} {e : List Nat} (h : e ∈ tails) {l r : List Nat} {ts : List Tr} (d : DScr w l (.ok ts r)) : bW w (e ++ l) = true ∧ ∃ r1, DCmd w (e ++ l) (.ok [] r1) ∧ DScr w r1 (.ok ts r) := by
  have c59 : ∀ {l : List Nat}, bC w (59 :: l) = true := fun {l} => by
    show ((decide (0 < w) && decide (59 = 93)) || (decide (59 = 10) || decide (59 = 59))) = true
    simp
  have c10 : ∀ {l : List Nat}, bC w (10 :: l) = true := fun {l} => by
    show ((decide (0 < w) && decide (10 = 93)) || (decide (10 = 10) || decide (10 = 59))) = true
    simp
  unfold tails at h
  simp only [List.mem_cons, List.not_mem_nil, or_false] at h
  rcases h with rfl | rfl | rfl | rfl
  · exact ⟨bC_bW c59, _, .stop c59, scr_gap (.inr (.inr rfl)) d⟩
  · exact ⟨bC_bW c10, _, .stop c10, scr_gap (.inr (.inl rfl)) d⟩
  · exact ⟨bl_bW, _, .skip bl_bC bl_bW (.stop c59), scr_gap (.inr (.inr rfl)) (scr_gap (.inl rfl) d)⟩
  · exact ⟨bC_bW c10, _, .stop c10, scr_gap (.inr (.inl rfl)) (scr_gap (.inr (.inl rfl)) (scr_gap (.inl rfl) (scr_rem (l2 := 10 :: l) rfl (scr_gap (.inr (.inl rfl)) d))))⟩
theorem scr_read {R : List Tr → Prop} {T : List Tr → List Nat → Prop} {d : Nat} (I : RdsR R T d) {w : Nat} (hw : w + 1 + d ≤ 13) {cs : List Tr} {z : List Nat} (h : SpC T cs z) : (∀ c ∈ cs, CmW R c) → ∀ {l r : List Nat} {ts : List Tr}, DScr w l (.ok ts r) → DScr w (z ++ l) (.ok (cs ++ ts) r) := by
  induction h with
  | base h => intro _ l r ts dl; exact lead_read h dl
  | @snoc cs ws z y e d0 hws he ih =>
    intro hC l r ts dl
    obtain ⟨ws', ew, h3, h1, hW⟩ := hC (.n ws) (by simp)
    injection ew with ew
    subst ew
    obtain ⟨zs, sep, hsep, hzl, hT, rfl⟩ := hws
    obtain ⟨hb, r1, dc, ds⟩ := tail_read he dl
    obtain ⟨dcm, hhd⟩ := cmd_read I hw hsep ws zs hzl hT (fun x hx => (hW x hx).k) hb dc
    rw [List.append_nil] at dcm
    obtain ⟨c, z', ez, hh⟩ := hhd (fun z => by rw [z] at h1; simp at h1)
    rw [ez] at dcm
    have dn : DScr w (TL.joinL sep zs ++ (e ++ l)) (.ok (.n ws :: ts) r) := by
      rw [ez]
      exact DScr.cmd (o := .ok ts r) hh.bW hh.2.2.2.2 dcm ds
    have := ih (fun c hc => hC c (List.mem_append_left _ hc)) dn
    rw [show z ++ TL.joinL sep zs ++ e ++ l = z ++ (TL.joinL sep zs ++ (e ++ l)) by simp]
    simpa using this
theorem spelt_read : ∀ d, RdsR (RunW d) (SpT d) d
  | 0 => fun cs z h => h.elim
  | d + 1 => fun cs z hR hT => ⟨by omega, fun w r hw hb => by
    have I := spelt_read d
    have := scr_read I (w := w) (by omega) hT hR.2 (DScr.stop hb)
    simpa using this⟩
end My
namespace My
open PySem L2 SX C8
def spNameW : Sp := fun vs H Q _ => ∃ (b l : Addr), vs = [.ref b] ∧ BagAt H b l ∧ ∀ (z : List Nat) H', 1 ≤ z.length → z.length ≤ 8 → (∀ c ∈ z, low c = true) → But b H H' → BagAt H' b l → Q (.str (S z)) H'
def az : List Nat := [97, 98, 99, 100, 101, 102, 103, 104, 105, 106, 107, 108, 109, 110, 111, 112, 113, 114, 115, 116, 117, 118, 119, 120, 121, 122]
theorem lit_az : (Str.ofString "abcdefghijklmnopqrstuvwxyz") = S az := by decide +kernel
theorem name_lits : ∀ v ∈ ([V.str (Str.ofString "a"), .str (Str.ofString "b"), .str (Str.ofString "c"), .str (Str.ofString "x"), .str (Str.ofString "n"), .str (Str.ofString "others")] : List V), ∃ z : List Nat, v = .str (S z) ∧ 1 ≤ z.length ∧ z.length ≤ 8 ∧ ∀ c ∈ z, low c = true := by
  have e1 : (Str.ofString "a") = S [97] := by decide +kernel
  have e2 : (Str.ofString "b") = S [98] := by decide +kernel
  have e3 : (Str.ofString "c") = S [99] := by decide +kernel
  have e4 : (Str.ofString "x") = S [120] := by decide +kernel
  have e5 : (Str.ofString "n") = S [110] := by decide +kernel
  have e6 : (Str.ofString "others") = S [111, 116, 104, 101, 114, 115] := by decide +kernel
  rw [e1, e2, e3, e4, e5, e6]
  intro v hv
  simp only [List.mem_cons, List.not_mem_nil, or_false] at hv
  rcases hv with rfl | rfl | rfl | rfl | rfl | rfl
  all_goals exact ⟨_, rfl, by decide, by decide, by decide⟩
theorem map_sings (cs : List Nat) : (cs.map fun c => S [c]) = (cs.map fun c => [c]).map S := by rw [List.map_map] <;> rfl
theorem flat_sings (cs : List Nat) : (cs.map fun c => [c]).flatten = cs := by
  induction cs with
  | nil => rfl
  | cons c r ih => simp only [List.map_cons, List.flatten_cons, ih]; rfl
theorem sum_sings (cs : List Nat) : ((cs.map fun c => S [c]).map (·.length)).sum = cs.length := by
  induction cs with
  | nil => rfl
  | cons c r ih => simp only [List.map_cons, List.sum_cons, ih, List.length_cons]; rw [S_len]; simp; omega
section
variable {P : Program} {w : World} {K : PySem.W.Frag} {mg : Str → Option Value} {base : Heap}
theorem ok__law_name {f : Addr} {fd : FuncData} (F : Def K mg "_law_name" s__law_name f fd) (b : Binds K fd ["_law_bag_here"] []) (T : Txt mg) (c__law_pull : Cal P w K mg base 1 "_law_pull" spPull []) (c__law_of : Cal P w K mg base 2 "_law_of" (spOf K) []) : Cal P w K mg base 3 "_law_name" spNameW [] := by
  refine cal0 F b .nil sc__law_name (fun vs H Q E h => ?_) (fun cdv A outer s H vs Q E hr h => ?_)
  · obtain ⟨b, l, rfl, _⟩ := h
    rfl
  obtain ⟨b, l, rfl, B, q⟩ := h
  refine ⟨_, pss_cons (ps_if (pt_cmpR op_gt (pe_c c__law_pull hr (by first | decide | assumption | omega) rfl (pa_cons (pv 0) (pa_cons pe_int pa_nil))) pe_int (nomark _))
      (pss_one (ps_ret (pe_c c__law_of hr (by first | decide | assumption | omega) rfl (pa_cons (pv 0) (pa_cons (pe_lst (pa_cons pe_str (pa_cons pe_str (pa_cons pe_str (pa_cons pe_str (pa_cons pe_str (pa_cons pe_str pa_nil))))))) pa_nil)))))
      (pss_nil))
    (pss_one (ps_ret (pe_join pe_str (pe_lc (own := [("_law_k", 1)]) (g := gName 1) (by rfl) sc__law_name.nd (pi_range1 rfl T.range (pa_cons (pe_op op_add pe_int (pe_c c__law_pull hr (by first | decide | assumption | omega) rfl (pa_cons (pv 0) (pa_cons pe_int pa_nil)))) pa_nil)) (blkOk_by (own := [("_law_k", 1)]) (N := N__law_name) (sc := fnScope s__law_name) (by decide +kernel)) (fun _ _ _ _ _ => pg_name (i := 1) sc__law_name.nd rfl (Or.inl rfl)) (fun _ _ _ _ _ => pts_nil) (fun _ _ _ _ _ => (pe_c c__law_of hr (by first | decide | assumption | omega) rfl (pa_cons (pv 0) (pa_cons pe_str pa_nil)))))))), ?_⟩
  refine ⟨_, rfl, b, l, 3, rfl, B, by decide, by decide, fun m H1 hm b1 B1 => ⟨_, _, rfl, rfl, _, rfl, iteD (fun _ => ?_) (fun _ => ?_)⟩⟩
  · refine ⟨_, rfl, (by show 6 ≤ sizeLine; decide), fun p hp => ?_⟩
    have s1 := same_new hp (HO.lst [.str (Str.ofString "a"), .str (Str.ofString "b"), .str (Str.ofString "c"), .str (Str.ofString "x"), .str (Str.ofString "n"), .str (Str.ofString "others")])
    refine ⟨b, l, _, rfl, B1.mono s1, .inl ⟨p, _, rfl, (B1.nb hp).symm, SqL.of upd_same, by show 0 < 6; decide, by show 6 ≤ 1000; decide, fun v H2 hv b2 B2 => ?_⟩⟩
    obtain ⟨z, rfl, z0, z1, z2⟩ := name_lits v hv
    exact q z H2 z0 z1 z2 ((b1.trans (Same.but s1)).trans b2) B2
  · refine ⟨⟨_, rfl⟩, _, rfl, b, l, 8, rfl, B1, by decide, by decide, fun k H2 hk b2 B2 => ⟨_, _, rfl, rfl, _, rfl, by omega, by omega, fun D hD => ?_⟩⟩
    have nbD := B2.nb hD
    have nlD := B2.nl hD
    have en : ((1 : Int) + (k : Int)).toNat = k + 1 := by omega
    rw [en]
    refine lc_range (lo := 0) (n := k + 1) (fun i H3 => But b H2 H3 ∧ BagAt H3 b l ∧ ∃ cs : List Nat, cs.length = i ∧ (∀ c ∈ cs, c ∈ az) ∧ H3 D = some (.lst ((cs.map fun c => S [c]).map V.str))) ⟨Same.but (same_new hD _), B2.mono (same_new hD _), [], rfl, by simp, upd_same⟩ ?_ ?_
    · rintro i H3 hi ⟨b3, B3, cs, hc1, hc2, hd⟩
      refine ⟨rfl, _, rfl, b, l, _, rfl, B3, .inr ⟨az, by rw [lit_az], by decide, by decide, fun c H4 hc b4 B4 => ?_⟩⟩
      have hd4 := b4 _ _ hd nbD.symm
      refine ⟨_, hd4, ?_, but_mut (b3.trans b4) hD, B4.upd nbD nlD, cs ++ [c], by simp [hc1], ?_, ?_⟩
      · rw [List.length_map, List.length_map, hc1]
        exact Nat.lt_of_lt_of_le (show i < 2000 by omega) (by decide)
      · intro c' hc'
        rcases List.mem_append.mp hc' with h | h
        · exact hc2 c' h
        · rw [List.mem_singleton.mp h]; exact hc
      · rw [upd_same]
        simp
    · rintro H3 ⟨b3, B3, cs, hc1, hc2, hd⟩
      refine ⟨_, D, cs.map fun c => S [c], rfl, rfl, .inl (SqL.of hd), ?_, ?_⟩
      · rw [lit_e, show (S ([] : List Nat)).length = 0 from rfl, Nat.mul_zero, sum_sings, hc1]
        omega
      · rw [map_sings, join0 lit_e, flat_sings]
        refine q cs H3 (by omega) (by omega) (fun c hc => ?_) (b1.trans (b2.trans b3)) B3
        have : ∀ c ∈ az, low c = true := by decide
        exact this c (hc2 c hc)
end
end My
namespace My
open PySem L2 SX C8
def spWW (n : Nat) : Sp := fun vs H Q _ => ∃ (b l : Addr) (d : Nat), vs = [.ref b, .int (d : Int)] ∧ BagAt H b l ∧ d ≤ n ∧ ∀ (v : V) (t : Tr) H', But b H H' → BagAt H' b l → TrAt H' v t → WdW (RunW d) t → Q v H'
def spWT : Nat → Sp
  | 0 => fun _ _ _ _ => False
  | n + 1 => fun vs H Q _ => ∃ (b l : Addr) (d : Nat), vs = [.ref b, .int (d : Int)] ∧ BagAt H b l ∧ d ≤ n ∧ ∀ (p : Addr) (us : List V) (cs : List Tr) H', But b H H' → BagAt H' b l → H p = none → H' p = some (.lst us) → TrsAt H' us cs → RunW (d + 1) cs → Q (.ref p) H'
section
variable {P : Program} {w : World} {K : PySem.W.Frag} {mg : Str → Option Value} {base : Heap}
theorem ok__law_wild_word {f : Addr} {fd : FuncData} (F : Def K mg "_law_wild_word" s__law_wild_word f fd) (b : Binds K fd ["_law_bag_here", "_law_deep"] []) (T : Txt mg) (c__law_pull : Cal P w K mg base 1 "_law_pull" spPull []) (c__law_text : Cal P w K mg base 3 "_law_text" spText []) (c__law_name : Cal P w K mg base 3 "_law_name" spNameW []) (c__law_merged : Cal P w K mg base 1 "_law_merged" spMerged []) {n : Nat} (hn9 : n ≤ 9) (c__law_wild_tree : Cal P w K mg base (3 + 2 * n) "_law_wild_tree" (spWT n) []) : Cal P w K mg base (4 + 2 * n) "_law_wild_word" (spWW n) [] := by
  rw [show 4 + 2 * n = (3 + 2 * n) + 1 by omega]
  refine cal0 F b .nil sc__law_wild_word (fun vs H Q E h => ?_) (fun cdv A outer s H vs Q E hr h => ?_)
  · obtain ⟨b, l, d, rfl, _⟩ := h
    rfl
  obtain ⟨b, l, d, rfl, B, hd, q⟩ := h
  refine ⟨_, pss_cons (ps_set (i := 2) sc__law_wild_word.nd rfl (Or.inl rfl) (pe_lst pa_nil))
    (pss_cons (ps_for PassesOwn.never rfl (pi_range1 rfl T.range (pa_cons (pe_c c__law_pull hr (by first | decide | assumption | omega) rfl (pa_cons (pv 0) (pa_cons pe_int pa_nil))) pa_nil)) (pg_name (i := 3) sc__law_wild_word.nd rfl (Or.inl rfl))
      (pss_cons (ps_set (i := 4) sc__law_wild_word.nd rfl (Or.inl rfl) (pe_c c__law_pull hr (by first | decide | assumption | omega) rfl (pa_cons (pv 0) (pa_cons pe_int pa_nil))))
      (pss_one (ps_if (pt_cmpR op_lt (pv 4) pe_int (nomark _))
        (pss_one (ps_expr (pe_bm PySem.F.plainAttrs_list PySem.F.slot_list_append PySem.F.type_list_append mt_append (pv 2) (pa_cons (pe_tup (pa_cons pe_str (pa_cons (pe_c c__law_text hr (by first | decide | assumption | omega) rfl (pa_cons (pv 0) (pa_cons pe_int pa_nil))) pa_nil))) pa_nil))))
        (pss_one (ps_if (PW.pt (pw_or (pt_cmpR op_eq (pv 4) pe_int (nomark _)) (pw_or1 (pt_cmpR op_lt (pv 1) pe_int (nomark _)))))
          (pss_one (ps_expr (pe_bm PySem.F.plainAttrs_list PySem.F.slot_list_append PySem.F.type_list_append mt_append (pv 2) (pa_cons (pe_tup (pa_cons pe_str (pa_cons (pe_c c__law_name hr (by first | decide | assumption | omega) rfl (pa_cons (pv 0) pa_nil)) pa_nil))) pa_nil))))
          (pss_one (ps_expr (pe_bm PySem.F.plainAttrs_list PySem.F.slot_list_append PySem.F.type_list_append mt_append (pv 2) (pa_cons (pe_tup (pa_cons pe_str (pa_cons (pe_callTy call_tuple_of (by rfl) T.tuple (by decide +kernel) (pa_cons (pe_c c__law_wild_tree hr (by first | decide | assumption | omega) rfl (pa_cons (pv 0) (pa_cons (pe_op op_sub (pv 1) pe_int) pa_nil))) pa_nil)) pa_nil))) pa_nil))))))))))
    (pss_one (ps_ret (pe_c c__law_merged hr (by first | decide | assumption | omega) rfl (pa_cons (pv 2) pa_nil))))), ?_⟩
  refine ⟨(by show 0 ≤ sizeLine; decide), fun z hz => ?_⟩
  have nzb := B.nb hz
  have nzl := B.nl hz
  have s1 := same_new hz (HO.lst [])
  refine ⟨_, rfl, b, l, 4, rfl, B.mono s1, by decide, by decide, fun m H1 hm b1 B1 => ⟨_, rfl, by omega, by omega, ?_⟩⟩
  have hz1 : H1 z = some (.lst []) := b1 _ _ upd_same nzb.symm
  refine for_range (lo := 0) (n := (m : Int).toNat) (fun i σ H2 => ∃ v3 v4, σ = [some (.ref b), some (.int (d : Int)), some (.ref z), v3, v4] ∧ But b H H2 ∧ BagAt H2 b l ∧ ∃ (us : List V) (ps : List Tr), H2 z = some (.lst us) ∧ TrsAt H2 us ps ∧ ps.length ≤ i ∧ ∀ p ∈ ps, PcW (RunW d) 5 p) ⟨none, none, rfl, (Same.but s1).trans b1, B1, [], [], hz1, TrsAt.nil _, Nat.le_refl _, by simp⟩ ?_ ?_
  · rintro i σ H2 hi ⟨v3, v4, rfl, b2, B2, us, ps, hz2, hT, hl, hP⟩
    have hi3 : i < 3 := by omega
    -- a new piece
    have fin : ∀ {H4 : Hp} {k : List Nat} {y : V} {t : Tr} (b4 : But b H2 H4) (B4 : BagAt H4 b l) (hy : TrAt H4 y t) (hp : PcW (RunW d) 5 (.n [.s k, t])) (tt : Addr), H4 tt = none → us.length < sizeLine ∧ (upd H4 tt (.tup [.str (S k), y])) z = some (.lst us) ∧ But b H (upd (upd H4 tt (.tup [.str (S k), y])) z (.lst (us ++ [.ref tt]))) ∧ BagAt (upd (upd H4 tt (.tup [.str (S k), y])) z (.lst (us ++ [.ref tt]))) b l ∧
        ∃ (us' : List V) (ps' : List Tr), (upd (upd H4 tt (.tup [.str (S k), y])) z (.lst (us ++ [.ref tt]))) z = some (.lst us') ∧ TrsAt (upd (upd H4 tt (.tup [.str (S k), y])) z (.lst (us ++ [.ref tt]))) us' ps' ∧ ps'.length ≤ i + 1 ∧ ∀ p ∈ ps', PcW (RunW d) 5 p := fun {H4 k y t} b4 B4 hy hp tt htt => by
      have hz4 : H4 z = some (.lst us) := b4 _ _ hz2 nzb.symm
      have s5 := same_new htt (HO.tup [.str (S k), y])
      have hz5 := s5 _ _ hz4
      have u6 : Tups (upd H4 tt (.tup [.str (S k), y])) (upd (upd H4 tt (.tup [.str (S k), y])) z (.lst (us ++ [.ref tt]))) := Tups.upd fun xs e => by rw [hz5] at e; cases e
      have tb : ∀ xs, H2 b ≠ some (.tup xs) := B2.notup
      refine ⟨?_, hz5, but_mut ((b2.trans b4).trans (Same.but s5)) hz, (B4.mono s5).upd nzb nzl, _, ps ++ [.n [.s k, t]], upd_same, ?_, by simp; omega, fun p hp' => ?_⟩
      · have := hT.1
        exact Nat.lt_of_le_of_lt (show _ ≤ 3 by omega) (by decide)
      · exact (((hT.mono (b4.tups tb)).mono (Same.tups s5)).snoc (TrAt.mk2 upd_same (hy.mono (Same.tups s5)))).mono u6
      · rcases List.mem_append.mp hp' with h | h
        · exact hP p h
        · rw [List.mem_singleton.mp h]; exact hp
    refine ⟨_, rfl, b, l, 5, rfl, B2, by decide, by decide, fun m2 H3 hm2 b3 B3 => ⟨_, rfl, _, _, rfl, rfl, _, rfl, iteD (fun _ => ?_) (fun _ => ?_)⟩⟩
    · refine ⟨_, rfl, .inl ⟨rfl, _, SqL.of (b3 _ _ hz2 nzb.symm)⟩, _, rfl, b, l, 5, rfl, B3, by decide, fun x H4 hx hxc b4 B4 => ⟨(by show 2 ≤ sizeLine; decide), fun t ht => ?_⟩⟩
      rw [lit_text]
      have okx : OkS x := fun c hc => by
        have : ∀ c ∈ abc, c < 1114112 := by decide
        exact this c (hxc c hc)
      obtain ⟨f1, f2, f3, f4, f5⟩ := fin (k := wText) (b3.trans b4) B4 (.s x) (.inl ⟨x, rfl, hx, okx⟩) t ht
      exact ⟨z, _, _, rfl, rfl, f2, f1, _, _, rfl, f3, f4, f5⟩
    · refine ⟨_, rfl, rfl, _, rfl, iteI (fun _ => ?A) (fun _ => ⟨_, rfl, _, _, rfl, rfl, _, rfl, iteD (fun _ => ?B) (fun hd1 => ?C)⟩)⟩
      case A | B =>
        refine ⟨_, rfl, .inl ⟨rfl, _, SqL.of (b3 _ _ hz2 nzb.symm)⟩, _, rfl, b, l, rfl, B3, fun x H4 x1 x8 xl b4 B4 => ⟨(by show 2 ≤ sizeLine; decide), fun t ht => ?_⟩⟩
        rw [lit_name]
        obtain ⟨f1, f2, f3, f4, f5⟩ := fin (k := wName) (b3.trans b4) B4 (.s x) (.inr (.inl ⟨x, rfl, x1, x8, xl⟩)) t ht
        exact ⟨z, _, _, rfl, rfl, f2, f1, _, _, rfl, f3, f4, f5⟩
      case C =>
        obtain ⟨n', rfl⟩ : ∃ n', n = n' + 1 := ⟨n - 1, by have : ¬ ((d : Int) < 1) := hd1; omega⟩
        obtain ⟨d', rfl⟩ : ∃ d', d = d' + 1 := ⟨d - 1, by have : ¬ ((d : Int) < 1) := hd1; omega⟩
        have e1 : ((d' + 1 : Nat) : Int) - 1 = (d' : Int) := by omega
        refine ⟨_, rfl, .inl ⟨rfl, _, SqL.of (b3 _ _ hz2 nzb.symm)⟩, _, rfl, _, rfl, _, _, rfl, rfl, b, l, d', by show [V.ref b, V.int (((d' + 1 : Nat) : Int) - 1)] = _; rw [e1], B3, by omega, fun p us' cs H4 b4 B4 hp0 hpl hTc hR => ?_⟩
        refine ⟨p, us', rfl, .inl ⟨SqL.of hpl, fun t2 ht2 => ⟨(by show 2 ≤ sizeLine; decide), fun t ht => ?_⟩⟩⟩
        rw [lit_run]
        have s5 := same_new ht2 (HO.tup us')
        obtain ⟨f1, f2, f3, f4, f5⟩ := fin (k := wRun) (b3.trans (b4.trans (Same.but s5))) (B4.mono s5) (TrsAt.tup upd_same (hTc.mono (Same.tups s5))) (.inr (.inr ⟨cs, rfl, hR⟩)) t ht
        exact ⟨z, _, _, rfl, rfl, f2, f1, _, _, rfl, f3, f4, f5⟩
  · rintro σ H2 ⟨v3, v4, rfl, b2, B2, us, ps, hz2, hT, hl, hP⟩
    have hl3 : ps.length ≤ 3 := by omega
    refine ⟨_, rfl, z, us, ps, 4 * d, rfl, hz2, hT, fun t ht => ⟨pcle_W (hP t ht) (by decide), good_pc (hP t ht)⟩, by omega, by omega, fun p H3 s3 hp3 hg3 hl3' => ?_⟩
    exact q _ _ H3 (b2.trans (Same.but s3)) (B2.mono s3) hp3 (merged_W hl3 hP)
theorem ok__law_wild_tree {f : Addr} {fd : FuncData} (F : Def K mg "_law_wild_tree" s__law_wild_tree f fd) (b : Binds K fd ["_law_bag_here", "_law_deep"] []) (T : Txt mg) (c__law_pull : Cal P w K mg base 1 "_law_pull" spPull []) {n : Nat} (c__law_wild_word : Cal P w K mg base (4 + 2 * n) "_law_wild_word" (spWW n) []) : Cal P w K mg base (5 + 2 * n) "_law_wild_tree" (spWT (n + 1)) [] := by
  rw [show 5 + 2 * n = (4 + 2 * n) + 1 by omega]
  refine cal0 F b .nil sc__law_wild_tree (fun vs H Q E h => ?_) (fun cdv A outer s H vs Q E hr h => ?_)
  · obtain ⟨b, l, d, rfl, _⟩ := h
    rfl
  obtain ⟨b, l, d, rfl, B, hd, q⟩ := h
  refine ⟨_, pss_cons (ps_set (i := 2) sc__law_wild_tree.nd rfl (Or.inl rfl) (pe_lst pa_nil))
    (pss_cons (ps_for PassesOwn.never rfl (pi_range1 rfl T.range (pa_cons (pe_c c__law_pull hr (by first | decide | assumption | omega) rfl (pa_cons (pv 0) (pa_cons pe_int pa_nil))) pa_nil)) (pg_name (i := 3) sc__law_wild_tree.nd rfl (Or.inl rfl))
      (pss_one (ps_expr (pe_bm PySem.F.plainAttrs_list PySem.F.slot_list_append PySem.F.type_list_append mt_append (pv 2) (pa_cons (pe_callTy call_tuple_of (by rfl) T.tuple (by decide +kernel) (pa_cons (pe_lc (own := [("_law_j", 4)]) (g := gName 4) (by rfl) sc__law_wild_tree.nd (pi_range1 rfl T.range (pa_cons (pe_op op_add pe_int (pe_c c__law_pull hr (by first | decide | assumption | omega) rfl (pa_cons (pv 0) (pa_cons pe_int pa_nil)))) pa_nil)) (blkOk_by (own := [("_law_j", 4)]) (N := N__law_wild_tree) (sc := fnScope s__law_wild_tree) (by decide +kernel)) (fun _ _ _ _ _ => pg_name (i := 4) sc__law_wild_tree.nd rfl (Or.inl rfl)) (fun _ _ _ _ _ => pts_nil) (fun _ _ _ _ _ => (pe_c c__law_wild_word hr (by first | decide | assumption | omega) rfl (pa_cons (pv 0) (pa_cons (pv 1) pa_nil))))) pa_nil)) pa_nil)))))
    (pss_one (ps_ret (pv 2)))), ?_⟩
  refine ⟨(by show 0 ≤ sizeLine; decide), fun z hz => ?_⟩
  have nzb := B.nb hz
  have nzl := B.nl hz
  have s1 := same_new hz (HO.lst [])
  refine ⟨_, rfl, b, l, 3, rfl, B.mono s1, by decide, by decide, fun m H1 hm b1 B1 => ⟨_, rfl, by omega, by omega, ?_⟩⟩
  have hz1 : H1 z = some (.lst []) := b1 _ _ upd_same nzb.symm
  refine for_range (lo := 0) (n := (m : Int).toNat) (fun i σ H2 => ∃ v3, σ = [some (.ref b), some (.int (d : Int)), some (.ref z), v3, none] ∧ But b H H2 ∧ BagAt H2 b l ∧ ∃ (us : List V) (cs : List Tr), H2 z = some (.lst us) ∧ TrsAt H2 us cs ∧ cs.length ≤ i ∧ ∀ c ∈ cs, CmW (RunW d) c) ⟨none, rfl, (Same.but s1).trans b1, B1, [], [], hz1, TrsAt.nil _, Nat.le_refl _, by simp⟩ ?_ ?_
  · rintro i σ H2 hi ⟨v3, rfl, b2, B2, us, cs, hz2, hT, hl, hC⟩
    refine ⟨_, rfl, .inl ⟨rfl, _, SqL.of hz2⟩, _, rfl, b, l, 3, rfl, B2, by decide, by decide, fun k H3 hk b3 B3 => ⟨_, _, rfl, rfl, _, rfl, by omega, by omega, fun D hD => ?_⟩⟩
    have nbD := B3.nb hD
    have nlD := B3.nl hD
    have hz3 : H3 z = some (.lst us) := b3 _ _ hz2 nzb.symm
    have nzD : z ≠ D := ne_of_none hz3 hD
    have en : ((1 : Int) + (k : Int)).toNat = k + 1 := by omega
    rw [en]
    refine lc_range (lo := 0) (n := k + 1) (fun j H4 => But b H3 H4 ∧ BagAt H4 b l ∧ ∃ (vs : List V) (ws : List Tr), H4 D = some (.lst vs) ∧ TrsAt H4 vs ws ∧ ws.length = j ∧ ∀ x ∈ ws, WdW (RunW d) x) ⟨Same.but (same_new hD _), B3.mono (same_new hD _), [], [], upd_same, TrsAt.nil _, rfl, by simp⟩ ?_ ?_
    · rintro j H4 hj ⟨b4, B4, vs, ws, hd4, hTw, hlw, hW⟩
      refine ⟨rfl, _, rfl, _, rfl, b, l, d, rfl, B4, hd, fun v t H5 b5 B5 hv ht => ?_⟩
      have hd5 := b5 _ _ hd4 nbD.symm
      have u6 : Tups H5 (upd H5 D (.lst (vs ++ [v]))) := Tups.upd fun xs e => by rw [hd5] at e; cases e
      refine ⟨_, hd5, ?_, but_mut (b4.trans b5) hD, B5.upd nbD nlD, _, ws ++ [t], upd_same, ((hTw.mono (b5.tups B4.notup)).snoc hv).mono u6, by simp; omega, fun x hx => ?_⟩
      · have := hTw.1
        exact Nat.lt_of_le_of_lt (show _ ≤ 3 by omega) (by decide)
      · rcases List.mem_append.mp hx with h | h
        · exact hW x h
        · rw [List.mem_singleton.mp h]; exact ht
    · rintro H4 ⟨b4, B4, vs, ws, hd4, hTw, hlw, hW⟩
      have hz4 : H4 z = some (.lst us) := b4 _ _ hz3 nzb.symm
      refine ⟨D, vs, rfl, .inl ⟨SqL.of hd4, fun t ht => ?_⟩⟩
      have s5 := same_new ht (HO.tup vs)
      have hz5 := s5 _ _ hz4
      have u6 : Tups (upd H4 t (.tup vs)) (upd (upd H4 t (.tup vs)) z (.lst (us ++ [.ref t]))) := Tups.upd fun xs e => by rw [hz5] at e; cases e
      refine ⟨z, _, _, rfl, rfl, hz5, ?_, _, rfl, but_mut ((b2.trans (b3.trans b4)).trans (Same.but s5)) hz, (B4.mono s5).upd nzb nzl, _, cs ++ [.n ws], upd_same, ?_, by simp; omega, fun c hc => ?_⟩
      · have := hT.1
        exact Nat.lt_of_le_of_lt (show _ ≤ 3 by omega) (by decide)
      · exact ((((hT.mono (b3.tups B2.notup)).mono (b4.tups B3.notup)).mono (Same.tups s5)).snoc (TrsAt.tup upd_same (hTw.mono (Same.tups s5)))).mono u6
      · rcases List.mem_append.mp hc with h | h
        · exact hC c h
        · rw [List.mem_singleton.mp h]
          exact ⟨ws, rfl, by omega, by omega, hW⟩
  · rintro σ H2 ⟨v3, rfl, b2, B2, us, cs, hz2, hT, hl, hC⟩
    exact ⟨_, rfl, q z us cs H2 b2 B2 hz hz2 hT ⟨by omega, hC⟩⟩
structure WildF (K : PySem.W.Frag) (mg : Str → Option Value) : Prop where
  word : ∃ (f : Addr) (fd : FuncData), Def K mg "_law_wild_word" s__law_wild_word f fd ∧ Binds K fd ["_law_bag_here", "_law_deep"] []
  tree : ∃ (f : Addr) (fd : FuncData), Def K mg "_law_wild_tree" s__law_wild_tree f fd ∧ Binds K fd ["_law_bag_here", "_law_deep"] []
theorem ok_wild (M : WildF K mg) (T : Txt mg) (c__law_pull : Cal P w K mg base 1 "_law_pull" spPull []) (c__law_text : Cal P w K mg base 3 "_law_text" spText []) (c__law_name : Cal P w K mg base 3 "_law_name" spNameW []) (c__law_merged : Cal P w K mg base 1 "_law_merged" spMerged []) : ∀ n, n ≤ 9 → Cal P w K mg base (3 + 2 * n) "_law_wild_tree" (spWT n) []
  | 0, _ => by
    obtain ⟨f, fd, F, b⟩ := M.tree
    exact ⟨f, fd, _, [], ⟨fun _ _ _ _ h => h.elim, fun _ _ _ _ _ _ _ _ _ _ _ _ _ h => h.elim⟩, F.mgf, F.kp, b, .nil⟩
  | n + 1, hn => by
    have ih := ok_wild M T c__law_pull c__law_text c__law_name c__law_merged n (by omega)
    obtain ⟨_, _, F1, b1⟩ := M.word
    have c1 := ok__law_wild_word (P := P) (w := w) (base := base) F1 b1 T c__law_pull c__law_text c__law_name c__law_merged (show n ≤ 9 by omega) ih
    obtain ⟨_, _, F2, b2⟩ := M.tree
    rw [show 3 + 2 * (n + 1) = 5 + 2 * n by omega]
    exact ok__law_wild_tree (P := P) (w := w) (base := base) F2 b2 T c__law_pull c1
end
end My
namespace My
open PySem L2 SX C8
theorem lit_spA : (Str.ofString " \n\\{}\"$[];#") = S specA := by decide +kernel
theorem lit_spB : (Str.ofString " \n{};#") = S specB := by decide +kernel
theorem mem_az {c : Nat} : c ∈ az ↔ low c = true := by
  constructor
  · intro h
    have : ∀ c ∈ az, low c = true := by decide
    exact this c h
  · intro h
    unfold low at h
    simp at h
    obtain ⟨h1, h2⟩ := h
    have : ∀ k, k < 26 → 97 + k ∈ az := by decide
    have := this (c - 97) (by omega)
    rwa [show 97 + (c - 97) = c by omega] at this
def spSpell : Sp := fun vs H Q _ => ∃ (b l : Addr) (w : List Nat) (q : Bool), vs = [.ref b, .str (S w), .bl q] ∧ BagAt H b l ∧ w.length ≤ 1000 ∧ ∀ (z : List Nat) H', SpS q w z → But b H H' → BagAt H' b l → Q (.str (S z)) H'
section
variable {P : Program} {w : World} {K : PySem.W.Frag} {mg : Str → Option Value} {base : Heap}
theorem ok__law_spell {f : Addr} {fd : FuncData} (F : Def K mg "_law_spell" s__law_spell f fd) (b : Binds K fd ["_law_bag_here", "_law_text_here", "_law_quoted"] []) (T : Txt mg) (c__law_pull : Cal P w K mg base 1 "_law_pull" spPull []) : Cal P w K mg base 2 "_law_spell" spSpell [] := by
  refine cal0 F b .nil sc__law_spell (fun vs H Q E h => ?_) (fun cdv A outer s H vs Q E hr h => ?_)
  · obtain ⟨b, l, w, q, rfl, _⟩ := h
    rfl
  obtain ⟨b, l, w, q, rfl, B, hl, Q1⟩ := h
  refine ⟨_, pss_cons (ps_set (i := 3) sc__law_spell.nd rfl (Or.inl rfl) pe_str)
    (pss_cons (ps_for PassesOwn.never rfl (pi_str (pv 1)) (pg_name (i := 4) sc__law_spell.nd rfl (Or.inl rfl))
      (pss_cons (ps_set (i := 5) sc__law_spell.nd rfl (Or.inl rfl) (pe_or (pe_cmpR op_notIn_sign (pv 4) pe_str rfl) (pe_one (pe_and (pv 2) (pe_one (pe_cmpR op_in_sign (pv 4) pe_str rfl))))))
      (pss_cons (ps_set (i := 6) sc__law_spell.nd rfl (Or.inl rfl) (pe_ifExp (pt_cmpR op_eq (pv 4) pe_str (nomark _)) pe_str (pv 4)))
      (pss_cons (ps_set (i := 7) sc__law_spell.nd rfl (Or.inl rfl) (pe_or (pe_not (pv 5)) (pe_one (pe_and (pe_cmpR op_notIn_sign (pv 4) pe_str rfl) (pe_one (pe_cmpR op_eq (pe_c c__law_pull hr (by first | decide | assumption | omega) rfl (pa_cons (pv 0) (pa_cons pe_int pa_nil))) pe_int (nomark _)))))))
      (pss_one (ps_set (i := 3) sc__law_spell.nd rfl (Or.inl rfl) (pe_op op_add_str (pv 3) (pe_ifExp (pt_val (pv 7)) (pe_op op_add_str pe_str (pv 6)) (pv 4)))))))))
    (pss_one (ps_ret (pv 3)))), ?_⟩
  refine ⟨_, rfl, _, rfl, for_it walk_str (fun i σ H2 => ∃ v4 v5 v6 v7 z, σ = [some (.ref b), some (.str (S w)), some (.bl q), some (.str (S z)), v4, v5, v6, v7] ∧ But b H H2 ∧ BagAt H2 b l ∧ SpS q (w.take i) z) ⟨none, none, none, none, [], by rw [lit_e] <;> rfl, But.refl _ _, B, SpS.nil⟩ (fun _ _ _ _ _ => trivial) ?_ ?_⟩
  · rintro i x σ H2 H3 hi ⟨v4, v5, v6, v7, z, rfl, b2, B2, hz⟩ ⟨rfl, c, hc, rfl⟩
    have hc' : w[i]? = some c := by
      have : (S w).cps.toList[i]? = some c := by rw [Array.getElem?_toList]; exact hc
      exact this
    have et : w.take (i + 1) = w.take i ++ [c] := by rw [List.take_add_one, hc']; rfl
    have zl : z.length ≤ 2000 := by
      have := hz.len
      rw [List.length_take] at this
      omega
    have big : ∀ {m : List Nat}, m.length ≤ 5 → (S z).length + (S m).length ≤ sizeLine := fun {m} h => by
      rw [S_len, S_len]; exact Nat.le_trans (show _ ≤ 100000 by omega) (by decide)
    -- the sign as it is
    have finP : okp q c = true → ∀ {H4 : Hp} {v6 v7 : Option V}, But b H H4 → BagAt H4 b l → ∃ v4' v5' v6' v7' z', [some (V.ref b), some (.str (S w)), some (.bl q), some (.str (S z ++ S [c])), some (.str (S [c])), some (.bl true), v6, v7] = [some (.ref b), some (.str (S w)), some (.bl q), some (.str (S z')), v4', v5', v6', v7'] ∧ But b H H4 ∧ BagAt H4 b l ∧ SpS q (w.take (i + 1)) z' := fun h {H4 v6 v7} b4 B4 =>
      ⟨_, _, _, _, z ++ [c], by rw [S_cat], b4, B4, by rw [et]; exact .plain h hz⟩
    have finT : low c = false → ∀ {H4 : Hp} {v5 v6 v7 : Option V} {y : Str}, y = S [if c = 10 then 110 else c] → But b H H4 → BagAt H4 b l → ∃ v4' v5' v6' v7' z', [some (V.ref b), some (.str (S w)), some (.bl q), some (.str (S z ++ (Str.ofString "\\" ++ y))), some (.str (S [c])), v5, v6, v7] = [some (.ref b), some (.str (S w)), some (.bl q), some (.str (S z')), v4', v5', v6', v7'] ∧ But b H H4 ∧ BagAt H4 b l ∧ SpS q (w.take (i + 1)) z' := fun h {H4 v5 v6 v7 y} hy b4 B4 => by
      subst hy
      refine ⟨some (.str (S [c])), v5, v6, v7, z ++ [92, if c = 10 then 110 else c], ?_, b4, B4, by rw [et]; exact .turn h hz⟩
      rw [lit_bs, S_cat, S_cat]
      rfl
    have nlowA : c ∈ specA → low c = false := fun h => by
      have : ∀ c ∈ specA, low c = false := by decide
      exact this c h
    have so10 : c = 10 → (Str.ofString "n") = S [if c = 10 then 110 else c] := fun h => by rw [if_pos h, lit_n]
    have soN : c ≠ 10 → S [c] = S [if c = 10 then 110 else c] := fun h => by rw [if_neg h]
    have szn : (Str.ofString "\\").length + (Str.ofString "n").length ≤ sizeLine := by rw [lit_bs, lit_n, S_len, S_len]; exact Nat.le_trans (show 1 + 1 ≤ 2 by decide) (by decide)
    have szc : (Str.ofString "\\").length + (S [c]).length ≤ sizeLine := by rw [lit_bs, S_len, S_len]; exact Nat.le_trans (show 1 + 1 ≤ 2 by decide) (by decide)
    have szz : ∀ {y : Str}, y.length ≤ 2 → (S z).length + y.length ≤ sizeLine := fun {y} h => by rw [S_len]; exact Nat.le_trans (show _ ≤ 100000 by omega) (by decide)
    have szn' : (Str.ofString "\\" ++ Str.ofString "n").length ≤ 2 := by rw [lit_bs, lit_n, S_cat, S_len]; decide
    have szc' : (Str.ofString "\\" ++ S [c]).length ≤ 2 := by rw [lit_bs, S_cat, S_len]; exact Nat.le_refl 2
    refine ⟨_, rfl, c, _, rfl, rfl, _, rfl, ?_⟩
    rw [lit_spA]
    refine iteN (fun nA => ?A) (fun eA => ⟨_, rfl, _, rfl, ?BC⟩)
    case BC =>
      cases q with
      | false =>
        refine iteF (A := False) ?_
        have hlo := nlowA eA
        refine ⟨_, rfl, rfl, _, rfl, ite_S lit_nl (fun e10 => ?_) (fun n10 => ⟨_, rfl, ?_⟩)⟩
        · have e10' : c = 10 := List.head_eq_of_cons_eq e10
          refine ⟨_, rfl, _, rfl, _, rfl, iteT (B := False) ⟨_, rfl, _, rfl, _, rfl, iteT (B := False) ?_⟩⟩
          exact ⟨_, rfl, _, _, rfl, rfl, szn, _, _, rfl, rfl, szz szn', finT hlo (so10 e10') b2 B2⟩
        · have n10' : c ≠ 10 := fun h => n10 (by rw [h])
          refine ⟨_, rfl, _, rfl, _, rfl, iteT (B := False) ⟨_, rfl, _, rfl, _, rfl, iteT (B := False) ?_⟩⟩
          exact ⟨_, rfl, _, _, rfl, rfl, szc, _, _, rfl, rfl, szz szc', finT hlo (soN n10') b2 B2⟩
      | true =>
        refine iteT (B := False) ⟨_, rfl, c, _, rfl, rfl, ?_⟩
        rw [lit_spB]
        by_cases hB : c ∈ specB
        · rw [show decide (c ∈ (S specB).cps.toList) = true from decide_eq_true hB]
          have hp : okp true c = true := by unfold okp; rw [decide_eq_true hB]; simp
          refine ⟨_, rfl, rfl, _, rfl, ite_S lit_nl (fun e10 => ?_) (fun n10 => ⟨_, rfl, ?_⟩)⟩
          · have e10' : c = 10 := List.head_eq_of_cons_eq e10
            refine ⟨_, rfl, _, rfl, _, rfl, iteF (A := False) ⟨_, rfl, c, _, rfl, rfl, _, rfl, ?_⟩⟩
            rw [lit_az]
            refine iteN (fun na => ?_) (fun ea => ?_)
            · have hlo : low c = false := by
                cases h : low c with
                | false => rfl
                | true => exact absurd (mem_az.mpr h) na
              refine ⟨_, rfl, b, l, 9, rfl, B2, by decide, by decide, fun m H4 hm b4 B4 => ⟨rfl, _, rfl, _, rfl, _, rfl, iteI (fun _ => ?_) (fun _ => ?_)⟩⟩
              · exact ⟨_, rfl, _, _, rfl, rfl, szn, _, _, rfl, rfl, szz szn', finT hlo (so10 e10') (b2.trans b4) B4⟩
              · exact ⟨_, rfl, _, _, rfl, rfl, big (m := [c]) (by simp), finP hp (b2.trans b4) B4⟩
            · refine ⟨_, rfl, _, rfl, _, rfl, iteF (A := False) ?_⟩
              exact ⟨_, rfl, _, _, rfl, rfl, big (m := [c]) (by simp), finP hp b2 B2⟩
          · have n10' : c ≠ 10 := fun h => n10 (by rw [h])
            refine ⟨_, rfl, _, rfl, _, rfl, iteF (A := False) ⟨_, rfl, c, _, rfl, rfl, _, rfl, ?_⟩⟩
            rw [lit_az]
            refine iteN (fun na => ?_) (fun ea => ?_)
            · have hlo : low c = false := by
                cases h : low c with
                | false => rfl
                | true => exact absurd (mem_az.mpr h) na
              refine ⟨_, rfl, b, l, 9, rfl, B2, by decide, by decide, fun m H4 hm b4 B4 => ⟨rfl, _, rfl, _, rfl, _, rfl, iteI (fun _ => ?_) (fun _ => ?_)⟩⟩
              · exact ⟨_, rfl, _, _, rfl, rfl, szc, _, _, rfl, rfl, szz szc', finT hlo (soN n10') (b2.trans b4) B4⟩
              · exact ⟨_, rfl, _, _, rfl, rfl, big (m := [c]) (by simp), finP hp (b2.trans b4) B4⟩
            · refine ⟨_, rfl, _, rfl, _, rfl, iteF (A := False) ?_⟩
              exact ⟨_, rfl, _, _, rfl, rfl, big (m := [c]) (by simp), finP hp b2 B2⟩
        · rw [show decide (c ∈ (S specB).cps.toList) = false from decide_eq_false hB]
          have hlo := nlowA eA
          refine ⟨_, rfl, rfl, _, rfl, ite_S lit_nl (fun e10 => ?_) (fun n10 => ⟨_, rfl, ?_⟩)⟩
          · have e10' : c = 10 := List.head_eq_of_cons_eq e10
            refine ⟨_, rfl, _, rfl, _, rfl, iteT (B := False) ⟨_, rfl, _, rfl, _, rfl, iteT (B := False) ?_⟩⟩
            exact ⟨_, rfl, _, _, rfl, rfl, szn, _, _, rfl, rfl, szz szn', finT hlo (so10 e10') b2 B2⟩
          · have n10' : c ≠ 10 := fun h => n10 (by rw [h])
            refine ⟨_, rfl, _, rfl, _, rfl, iteT (B := False) ⟨_, rfl, _, rfl, _, rfl, iteT (B := False) ?_⟩⟩
            exact ⟨_, rfl, _, _, rfl, rfl, szc, _, _, rfl, rfl, szz szc', finT hlo (soN n10') b2 B2⟩
    case A =>
      have hp : okp q c = true := by unfold okp; rw [decide_eq_false nA]; rfl
      have n10' : c ≠ 10 := fun h => nA (by rw [h]; decide)
      refine ⟨_, rfl, rfl, _, rfl, ite_S lit_nl (fun e10 => absurd (List.head_eq_of_cons_eq e10) n10') (fun _ => ⟨_, rfl, ?_⟩)⟩
      refine ⟨_, rfl, _, rfl, _, rfl, iteF (A := False) ⟨_, rfl, c, _, rfl, rfl, _, rfl, ?_⟩⟩
      rw [lit_az]
      refine iteN (fun na => ?_) (fun ea => ?_)
      · have hlo : low c = false := by
          cases h : low c with
          | false => rfl
          | true => exact absurd (mem_az.mpr h) na
        refine ⟨_, rfl, b, l, 9, rfl, B2, by decide, by decide, fun m H4 hm b4 B4 => ⟨rfl, _, rfl, _, rfl, _, rfl, iteI (fun _ => ?_) (fun _ => ?_)⟩⟩
        · exact ⟨_, rfl, _, _, rfl, rfl, szc, _, _, rfl, rfl, szz szc', finT hlo (soN n10') (b2.trans b4) B4⟩
        · exact ⟨_, rfl, _, _, rfl, rfl, big (m := [c]) (by simp), finP hp (b2.trans b4) B4⟩
      · refine ⟨_, rfl, _, rfl, _, rfl, iteF (A := False) ?_⟩
        exact ⟨_, rfl, _, _, rfl, rfl, big (m := [c]) (by simp), finP hp b2 B2⟩
  · rintro σ H2 ⟨v4, v5, v6, v7, z, rfl, b2, B2, hz⟩
    have e1 : (S w).cps.size = w.length := S_len w
    rw [e1, List.take_length] at hz
    exact ⟨_, rfl, Q1 z H2 hz b2 B2⟩
end
end My
namespace My
open PySem L2 SX C8
/-- a piece where it stands -/
theorem pc_parts {R : List Tr → Prop} {k : Nat} {H : Hp} {v : V} {t : Tr} (h : TrAt H v t) (hp : PcW R k t) : ∃ a kd y, v = .ref a ∧ H a = some (.tup [.str (S kd), y]) ∧
    ((kd = wText ∧ ∃ w, t = tx w ∧ y = .str (S w) ∧ w.length ≤ k ∧ OkS w) ∨ (kd = wName ∧ ∃ n, t = nm n ∧ y = .str (S n) ∧ 1 ≤ n.length ∧ n.length ≤ 8 ∧ ∀ c ∈ n, low c = true) ∨ (kd = wRun ∧ ∃ cs, t = rn cs ∧ TrAt H y (.n cs) ∧ R cs)) := by
  rcases hp with ⟨w, rfl, h1, h2⟩ | ⟨n, rfl, h1, h2, h3⟩ | ⟨cs, rfl, h1⟩
  · obtain ⟨a, y, h3, h4, h5⟩ := TrAt.two h
    exact ⟨a, wText, y, h3, h4, .inl ⟨rfl, w, rfl, h5.inv_s, h1, h2⟩⟩
  · obtain ⟨a, y, h4, h5, h6⟩ := TrAt.two h
    exact ⟨a, wName, y, h4, h5, .inr (.inl ⟨rfl, n, rfl, h6.inv_s, h1, h2, h3⟩)⟩
  · obtain ⟨a, y, h4, h5, h6⟩ := TrAt.two h
    exact ⟨a, wRun, y, h4, h5, .inr (.inr ⟨rfl, cs, rfl, h6, h1⟩)⟩
theorem isT_kd {R : List Tr → Prop} {k : Nat} {t : Tr} {kd : List Nat} {H : Hp} {y : V} (h : (kd = wText ∧ ∃ w, t = tx w ∧ y = .str (S w) ∧ w.length ≤ k ∧ OkS w) ∨ (kd = wName ∧ ∃ n, t = nm n ∧ y = .str (S n) ∧ 1 ≤ n.length ∧ n.length ≤ 8 ∧ ∀ c ∈ n, low c = true) ∨ (kd = wRun ∧ ∃ cs, t = rn cs ∧ TrAt H y (.n cs) ∧ R cs)) : decide (kd = wText) = isT t := by
  rcases h with ⟨rfl, w, rfl, _⟩ | ⟨rfl, n, rfl, _⟩ | ⟨rfl, cs, rfl, _⟩
  · rw [isT_tx]; rfl
  · rw [isT_nm]; rfl
  · rw [isT_rn]; rfl
theorem sum_S (ws : List (List Nat)) : ((ws.map S).map (·.length)).sum = ws.flatten.length := by
  induction ws with
  | nil => rfl
  | cons w r ih => rw [List.map_cons, List.map_cons, List.sum_cons, ih, S_len, List.flatten_cons, List.length_append]
theorem lit_qu : (Str.ofString "\"") = S [34] := by decide +kernel
theorem lit_br2 : (Str.ofString "[") = S [91] := by decide +kernel
theorem lit_br3 : (Str.ofString "]") = S [93] := by decide +kernel
theorem lit_dl9 : (Str.ofString "$") = S [36] := by decide +kernel
def CmAt (H : Hp) (b : Addr) (v : V) (cs : List Tr) : Prop := ∃ a us, v = .ref a ∧ a ≠ b ∧ (H a = some (.lst us) ∨ H a = some (.tup us)) ∧ TrsAt H us cs
def spSW (n : Nat) : Sp := fun vs H Q _ => ∃ (b l : Addr) (v : V) (t : Tr) (d : Nat), vs = [.ref b, v] ∧ BagAt H b l ∧ TrAt H v t ∧ d ≤ n ∧ WdW (RunW d) t ∧ ∀ (z : List Nat) H', SpW (SpT d) t z → SB (3 * Ls d + 130) z → But b H H' → BagAt H' b l → Q (.str (S z)) H'
def spSp : Nat → Sp
  | 0 => fun _ _ _ _ => False
  | n + 1 => fun vs H Q _ => ∃ (b l : Addr) (v : V) (cs : List Tr) (d : Nat), vs = [.ref b, v] ∧ BagAt H b l ∧ CmAt H b v cs ∧ d ≤ n ∧ RunW (d + 1) cs ∧ ∀ (z : List Nat) H', SpT (d + 1) cs z → SB (Ls (d + 1)) z → But b H H' → BagAt H' b l → Q (.str (S z)) H'
theorem Ls_le {d : Nat} (h : d ≤ 3) : Ls d ≤ 288120 := by
  match d, h with
  | 0, _ => decide
  | 1, _ => decide
  | 2, _ => decide
  | 3, _ => decide
section
variable {P : Program} {w : World} {K : PySem.W.Frag} {mg : Str → Option Value} {base : Heap}
theorem ok__law_spelt_word {f : Addr} {fd : FuncData} (F : Def K mg "_law_spelt_word" s__law_spelt_word f fd) (b : Binds K fd ["_law_bag_here", "_law_word"] []) (T : Txt mg) (c__law_pull : Cal P w K mg base 1 "_law_pull" spPull []) (c__law_pairs : Cal P w K mg base 1 "_law_pairs" spLpairs []) (c__law_spell : Cal P w K mg base 2 "_law_spell" spSpell []) (c__law_letters : Cal P w K mg base 1 "_law_letters" spLetters2 []) {n : Nat} (hn2 : n ≤ 3) (c__law_spelt : Cal P w K mg base (3 + 2 * n) "_law_spelt" (spSp n) []) : Cal P w K mg base (4 + 2 * n) "_law_spelt_word" (spSW n) [] := by
  rw [show 4 + 2 * n = (3 + 2 * n) + 1 by omega]
  refine cal0 F b .nil sc__law_spelt_word (fun vs H Q E h => ?_) (fun cdv A outer s H vs Q E hr h => ?_)
  · obtain ⟨b, l, v, t, d, rfl, _⟩ := h
    rfl
  obtain ⟨b, l, v, t, d, rfl, B, hv, hd, hW, q⟩ := h
  obtain ⟨ps, rfl, hl3, hP, hE, hN⟩ := hW
  obtain ⟨a, us, rfl, ha, hT⟩ := hv.inv_n
  have hlu := hT.1
  obtain ⟨tl1, tl2, tl3⟩ := txl_len ps hP
  have tl1' : (txl ps).flatten.length ≤ 45 := by omega
  have hLs := Ls_le (show d ≤ 3 by omega)
  refine ⟨_, pss_cons (ps_set (i := 2) sc__law_spelt_word.nd rfl (Or.inl rfl) (pe_join pe_str (pe_lc (own := [("_law_kind", 5), ("_law_thing", 6)]) (g := gTup K 2 (gCons (gName 5) (gCons (gName 6) gNil))) (by rfl) sc__law_spelt_word.nd (pi_tup (pv 1)) (blkOk_by (own := [("_law_kind", 5), ("_law_thing", 6)]) (N := N__law_spelt_word) (sc := fnScope s__law_spelt_word) (by decide +kernel)) (fun _ _ _ _ _ => (show PG _ _ (gTup K 2 (gCons (gName 5) (gCons (gName 6) gNil))) from pg_tup rfl ((pgs_cons (pg_name (i := 5) sc__law_spelt_word.nd rfl (Or.inl rfl)) (pgs_cons (pg_name (i := 6) sc__law_spelt_word.nd rfl (Or.inl rfl)) pgs_nil))))) (fun _ _ _ _ _ => pts_one (pt_cmpR op_eq (pv 5) pe_str (nomark _))) (fun _ _ _ _ _ => (pv 6)))))
    (pss_cons (ps_set (i := 3) sc__law_spelt_word.nd rfl (Or.inl rfl) (pe_c c__law_pull hr (by first | decide | assumption | omega) rfl (pa_cons (pv 0) (pa_cons pe_int pa_nil))))
    (pss_cut (ps_if (PW.pt (pw_and (pt_val (pe_callB (cr_all rfl) (by rfl) T.all (by decide +kernel) (pa_cons (pe_lc (own := [("_law_kind", 5), ("_law_thing", 6)]) (g := gTup K 2 (gCons (gName 5) (gCons (gName 6) gNil))) (by rfl) sc__law_spelt_word.nd (pi_tup (pv 1)) (blkOk_by (own := [("_law_kind", 5), ("_law_thing", 6)]) (N := N__law_spelt_word) (sc := fnScope s__law_spelt_word) (by decide +kernel)) (fun _ _ _ _ _ => (show PG _ _ (gTup K 2 (gCons (gName 5) (gCons (gName 6) gNil))) from pg_tup rfl ((pgs_cons (pg_name (i := 5) sc__law_spelt_word.nd rfl (Or.inl rfl)) (pgs_cons (pg_name (i := 6) sc__law_spelt_word.nd rfl (Or.inl rfl)) pgs_nil))))) (fun _ _ _ _ _ => pts_nil) (fun _ _ _ _ _ => (pe_cmpR op_eq (pv 5) pe_str (nomark _)))) pa_nil))) (pw_and (pt_val (pe_c c__law_pairs hr (by first | decide | assumption | omega) rfl (pa_cons (pv 2) pa_nil))) (pw_and1 (PW.pt (pw_or (pt_cmpR op_eq (pv 3) pe_int (nomark _)) (pw_or1 (pt_cmpR op_eq (pv 2) pe_str (nomark _)))))))))
      (pss_one (ps_ret (pe_op op_add_str (pe_op op_add_str pe_str (pv 2)) pe_str)))
      (pss_nil))
    (pss_cons (ps_set (i := 4) sc__law_spelt_word.nd rfl (Or.inl rfl) pe_str)
    (pss_cons (ps_for PassesOwn.never rfl (pi_tup (pe_revT (pv 1))) (pg_tup rfl (pgs_cons (pg_name (i := 5) sc__law_spelt_word.nd rfl (Or.inl rfl)) (pgs_cons (pg_name (i := 6) sc__law_spelt_word.nd rfl (Or.inl rfl)) pgs_nil)))
      (pss_one (ps_if (pt_cmpR op_eq (pv 5) pe_str (nomark _))
        (pss_one (ps_set (i := 4) sc__law_spelt_word.nd rfl (Or.inl rfl) (pe_op op_add_str (pe_c c__law_spell hr (by first | decide | assumption | omega) rfl (pa_cons (pv 0) (pa_cons (pv 6) (pa_cons (pe_cmpR op_eq (pv 3) pe_int (nomark _)) pa_nil)))) (pv 4))))
        (pss_one (ps_if (pt_cmpR op_eq (pv 5) pe_str (nomark _))
          (pss_one (ps_set (i := 4) sc__law_spelt_word.nd rfl (Or.inl rfl) (pe_op op_add_str (pe_op op_add_str (pe_op op_add_str pe_str (pe_c c__law_spelt hr (by first | decide | assumption | omega) rfl (pa_cons (pv 0) (pa_cons (pv 6) pa_nil)))) pe_str) (pv 4))))
          (pss_cons (ps_set (i := 7) sc__law_spelt_word.nd rfl (Or.inl rfl) (pe_or (pe_cmpR op_eq (pe_c c__law_pull hr (by first | decide | assumption | omega) rfl (pa_cons (pv 0) (pa_cons pe_int pa_nil))) pe_int (nomark _)) (pe_one (pe_cmpR op_ne (pe_c c__law_letters hr (by first | decide | assumption | omega) rfl (pa_cons (pv 4) pa_nil)) pe_str (nomark _)))))
          (pss_one (ps_set (i := 4) sc__law_spelt_word.nd rfl (Or.inl rfl) (pe_op op_add_str (pe_op op_add_str (pe_op op_add_str (pe_op op_add_str pe_str (pe_op op_rep_str pe_str (pe_callTy call_int1 (by rfl) T.int (by decide +kernel) (pa_cons (pv 7) pa_nil)))) (pv 6)) (pe_op op_rep_str pe_str (pe_callTy call_int1 (by rfl) T.int (by decide +kernel) (pa_cons (pv 7) pa_nil)))) (pv 4))))))))))
    (pss_one (ps_ret (pe_ifExp (pt_cmpR op_eq (pv 3) pe_int (nomark _)) (pe_op op_add_str (pe_op op_add_str pe_str (pv 4)) pe_str) (pv 4)))))))), ?_⟩
  refine ⟨⟨_, rfl⟩, _, rfl, a, rfl, ⟨us, SqT.of ha⟩, fun D hD => ?_⟩
  refine lc_tup (K := K) (a := a) (xs := us) (fun i H3 => Same H H3 ∧ H3 D = some (.lst (txs (txl (ps.take i))))) ⟨same_new hD _, upd_same⟩ (fun i H3 _ h => SqT.of (h.1 _ _ ha)) ?_ ?_
  · rintro i v H3 hi ⟨s3, hd3⟩
    have hi1 : i < ps.length := by have := (List.getElem?_eq_some_iff.mp hi).1; omega
    have hpi : ps[i]? = some ps[i] := List.getElem?_eq_getElem hi1
    obtain ⟨pa, kd, y, rfl, hpa, hk⟩ := pc_parts ((hT.2 i v _ hi hpi).mono (Same.tups s3)) (hP _ (List.mem_of_getElem? hpi))
    have etake : txl (ps.take (i + 1)) = txl (ps.take i) ++ (txo ps[i]).toList := by
      unfold txl
      rw [List.take_add_one, hpi, List.filterMap_append]
      congr 1 <;> simp [List.filterMap_cons]
    refine ⟨pa, _, rfl, SqT.of hpa, rfl, .str (S kd), [y], rfl, y, [], rfl, rfl, rfl, _, rfl, rfl, _, rfl, ?_⟩
    refine ite_S lit_text (fun ek => ?_) (fun nk => ?_)
    · rcases hk with ⟨_, w, e, rfl, _⟩ | ⟨h, _⟩ | ⟨h, _⟩
      · refine ⟨_, rfl, _, hd3, ?_, same_mut s3 hD, ?_⟩
        · have h9 : (txl (ps.take i)).length ≤ (ps.take i).length := List.length_filterMap_le _ _
          rw [List.length_take] at h9
          rw [txs_len]
          exact Nat.lt_of_le_of_lt (show _ ≤ 3 by omega) (by decide)
        · rw [upd_same, etake, e, txo_tx]
          exact congrArg (fun x => some (HO.lst x)) (txs_snoc _ _).symm
      · rw [h] at ek; exact absurd ek (by decide)
      · rw [h] at ek; exact absurd ek (by decide)
    · have en : txo ps[i] = none := by
        rcases hk with ⟨h, _⟩ | ⟨_, n, e, _⟩ | ⟨_, cs, e, _⟩
        · exact absurd h nk
        · rw [e, txo_nm]
        · rw [e, txo_rn]
      rw [etake, en]
      exact ⟨s3, by rw [hd3]; simp⟩
  · rintro H3 ⟨s3, hd3⟩
    rw [hlu, List.take_length] at hd3
    generalize hpl : (txl ps).flatten = pl at tl1 tl1' tl2
    refine ⟨_, D, (txl ps).map S, rfl, rfl, .inl (SqL.of (by rw [hd3, txs_map])), ?_, ?_⟩
    · rw [lit_e, show (S ([] : List Nat)).length = 0 from rfl, Nat.mul_zero, sum_S, hpl]
      exact Nat.le_trans (show _ ≤ 45 by omega) (by decide)
    rw [join0 lit_e, hpl]
    refine ⟨_, rfl, b, l, 3, rfl, B.mono s3, by decide, by decide, fun m H4 hm b4 B4 => ?_⟩
    have b04 : But b H H4 := (Same.but s3).trans b4
    have nab : a ≠ b := fun z => B.notup us (by rw [← z]; exact ha)
    have ha4 : H4 a = some (.tup us) := b04 _ _ ha nab
    have hT4 : TrsAt H4 us ps := hT.mono (b04.tups B.notup)
    refine ⟨fun σ H5 => σ = [some (.ref b), some (.ref a), some (.str (S pl)), some (.int (m : Int)), none, none, none, none] ∧ But b H H5 ∧ BagAt H5 b l ∧ ps ≠ [], ?_, ?_⟩
    · refine ⟨_, rfl, a, rfl, ⟨us, SqT.of ha4⟩, fun D2 hD2 => ?_⟩
      refine lc_tup (K := K) (a := a) (xs := us) (fun i H5 => Same H4 H5 ∧ H5 D2 = some (.lst (((ps.take i).map isT).map V.bl))) ⟨same_new hD2 _, upd_same⟩ (fun i H5 _ h => SqT.of (h.1 _ _ ha4)) ?_ ?_
      · rintro i v H5 hi ⟨s5, hd5⟩
        have hi1 : i < ps.length := by have := (List.getElem?_eq_some_iff.mp hi).1; omega
        have hpi : ps[i]? = some ps[i] := List.getElem?_eq_getElem hi1
        obtain ⟨pa, kd, y, rfl, hpa, hk⟩ := pc_parts ((hT4.2 i v _ hi hpi).mono (Same.tups s5)) (hP _ (List.mem_of_getElem? hpi))
        refine ⟨pa, _, rfl, SqT.of hpa, rfl, .str (S kd), [y], rfl, y, [], rfl, rfl, rfl, _, rfl, rfl, _, hd5, ?_, same_mut s5 hD2, ?_⟩
        · rw [List.length_map, List.length_map, List.length_take]
          exact Nat.lt_of_le_of_lt (show _ ≤ 3 by omega) (by decide)
        · rw [upd_same, lit_text, dec_S, isT_kd hk, List.take_add_one, hpi, List.map_append, List.map_append]
          rfl
      · rintro H5 ⟨s5, hd5⟩
        rw [hlu, List.take_length] at hd5
        refine ⟨D2, _, rfl, SqL.of hd5, ?_⟩
        have b05 : But b H H5 := b04.trans (Same.but s5)
        have B5 := B4.mono s5
        have ret : ∀ {H6 : Hp} (_ : (ps.map isT).all id = true) (_ : Pairs pl = true), But b H H6 → BagAt H6 b l → Q (.str ((Str.ofString "{" ++ S pl) ++ Str.ofString "}")) H6 := fun {H6} h1 h2 b6 B6 => by
          have eps := txl_all hP hE hN h1
          rw [hpl] at eps
          have hs := SpW.braced (R := SpT d) h2
          rw [← eps] at hs
          rw [lit_ob, lit_cb, S_cat, S_cat]
          refine q (123 :: (pl ++ [125])) H6 hs ⟨?_, fun c hc => ?_⟩ b6 B6
          · simp; omega
          · simp only [List.mem_cons, List.mem_append, List.not_mem_nil, or_false] at hc
            rcases hc with rfl | hc | rfl
            · decide
            · exact tl2 c hc
            · decide
        have szr : (Str.ofString "{").length + (S pl).length ≤ sizeLine := by rw [lit_ob, S_len, S_len]; exact Nat.le_trans (show 1 + pl.length ≤ 100 by omega) (by decide)
        have szr2 : (Str.ofString "{" ++ S pl).length + (Str.ofString "}").length ≤ sizeLine := by rw [lit_ob, lit_cb, S_cat, S_len, S_len]; exact Nat.le_trans (show (123 :: pl).length + 1 ≤ 100 by simp; omega) (by decide)
        refine ⟨_, rfl, ?_⟩
        cases hall : (ps.map isT).all id with
        | false =>
          refine iteF (A := False) (iteF (A := False) ⟨rfl, b05, B5, fun z => ?_⟩)
          rw [z] at hall
          cases hall
        | true =>
          refine iteT (B := False) ⟨_, rfl, pl, rfl, by omega, fun H6 s6 => ⟨_, rfl, ?_⟩⟩
          have b06 := b05.trans (Same.but s6)
          have B6 := B5.mono s6
          cases hpr : Pairs pl with
          | false =>
            refine iteF (A := False) (iteF (A := False) ⟨rfl, b06, B6, fun z => ?_⟩)
            rw [z] at hpl
            rw [← hpl] at hpr
            exact absurd hpr (by decide)
          | true =>
            refine iteT (B := False) ⟨_, rfl, rfl, _, rfl, iteI (fun _ => ?_) (fun _ => ⟨_, rfl, rfl, _, rfl, ite_S lit_e (fun _ => ?_) (fun npl => ?_)⟩)⟩
            · exact iteT (B := False) ⟨_, rfl, _, _, rfl, rfl, szr, _, _, rfl, rfl, szr2, ret hall hpr b06 B6⟩
            · exact iteT (B := False) ⟨_, rfl, _, _, rfl, rfl, szr, _, _, rfl, rfl, szr2, ret hall hpr b06 B6⟩
            · refine iteF (A := False) ⟨rfl, b06, B6, fun z => npl ?_⟩
              rw [z] at hpl
              exact hpl.symm
    · rintro σ H5 ⟨rfl, b5, B5, hne⟩
      have ha5 : H5 a = some (.tup us) := b5 _ _ ha nab
      have szA : ∀ {x y : List Nat}, x.length + y.length ≤ 2000000 → (S x).length + (S y).length ≤ sizeLine := fun {x y} h => by rw [S_len, S_len]; exact Nat.le_trans h (by decide)
      refine ⟨_, rfl, a, us, rfl, SqT.of ha5, fun r hr0 => ?_⟩
      have nbr := B5.nb hr0
      have s6 := same_new hr0 (HO.tup us.reverse)
      refine ⟨r, rfl, ⟨_, SqT.of upd_same⟩, for_tup (K := K) (a := r) (xs := us.reverse) (fun i σ H6 => ∃ z v5 v6 v7, σ = [some (.ref b), some (.ref a), some (.str (S pl)), some (.int (m : Int)), some (.str (S z)), v5, v6, v7] ∧ But b (upd H5 r (.tup us.reverse)) H6 ∧ BagAt H6 b l ∧ SpP (SpT d) (decide (V.int (m : Int) = V.int 1)) (ps.drop (ps.length - i)) z ∧ SB (i * (Ls d + 40)) z)
        ⟨[], none, none, none, by rw [lit_e] <;> rfl, But.refl _ _, B5.mono s6, by rw [Nat.sub_zero, List.drop_length]; exact SpP.nil, ⟨Nat.zero_le _, fun c h => (by cases h)⟩⟩ (fun i σ H6 _ ⟨_, _, _, _, _, b6, _⟩ => SqT.of (b6 _ _ upd_same nbr.symm)) ?_ ?_⟩
      · rintro i v σ H6 hi ⟨z, v5, v6, v7, rfl, b6, B6, hz, hzb⟩
        have hi1 : i < us.length := by
          have := (List.getElem?_eq_some_iff.mp hi).1
          rw [List.length_reverse] at this
          exact this
        have hj : ps.length - (i + 1) < ps.length := by omega
        have hpj : ps[ps.length - (i + 1)]? = some ps[ps.length - (i + 1)] := List.getElem?_eq_getElem hj
        have hvj : us[ps.length - (i + 1)]? = some v := by
          rw [List.getElem?_reverse hi1] at hi
          rw [← hi]
          congr 1
          omega
        have edrop : ps.drop (ps.length - (i + 1)) = ps[ps.length - (i + 1)] :: ps.drop (ps.length - i) := by
          rw [List.drop_eq_getElem_cons hj, show ps.length - (i + 1) + 1 = ps.length - i by omega]
        have b06 : But b H H6 := (b5.trans (Same.but s6)).trans b6
        have hvT := (hT.2 _ v _ hvj hpj).mono (b06.tups B.notup)
        obtain ⟨pa, kd, y, rfl, hpa, hk⟩ := pc_parts hvT (hP _ (List.mem_of_getElem? hpj))
        generalize ps[ps.length - (i + 1)] = pj at *
        have zl : z.length ≤ 3 * (288120 + 40) := by
          have h1 := hzb.1
          have h2 : i * (Ls d + 40) ≤ 3 * (288120 + 40) := Nat.mul_le_mul (by omega) (by omega)
          omega
        have next : ∀ {z' : List Nat} {H7 : Hp} {v5 v6 v7 : Option V}, But b H6 H7 → BagAt H7 b l → SpP (SpT d) (decide (V.int (m : Int) = V.int 1)) (pj :: ps.drop (ps.length - i)) z' → SB (Ls d + 40 + i * (Ls d + 40)) z' → ∃ z v5' v6' v7', [some (.ref b), some (.ref a), some (.str (S pl)), some (.int (m : Int)), some (.str (S z')), v5, v6, v7] = [some (.ref b), some (.ref a), some (.str (S pl)), some (.int (m : Int)), some (.str (S z)), v5', v6', v7'] ∧ But b (upd H5 r (.tup us.reverse)) H7 ∧ BagAt H7 b l ∧ SpP (SpT d) (decide (V.int (m : Int) = V.int 1)) (ps.drop (ps.length - (i + 1))) z ∧ SB ((i + 1) * (Ls d + 40)) z := fun {z' H7 v5 v6 v7} b7 B7 h1 h2 =>
          ⟨z', v5, v6, v7, rfl, b6.trans b7, B7, by rw [edrop]; exact h1, by rw [Nat.succ_mul, Nat.add_comm]; exact h2⟩
        refine ⟨pa, _, rfl, SqT.of hpa, rfl, .str (S kd), [y], rfl, y, [], rfl, rfl, ?_⟩
        refine ⟨_, rfl, rfl, _, rfl, ite_S lit_text (fun ek => ?_) (fun nk => ?_)⟩
        · rcases hk with ⟨_, w, rfl, rfl, hw, hwo⟩ | ⟨h, _⟩ | ⟨h, _⟩
          · refine ⟨_, rfl, _, rfl, _, rfl, rfl, b, l, w, _, rfl, B6, by omega, fun zs H7 hs b7 B7 => ?_⟩
            have hsl := hs.len
            refine ⟨_, rfl, _, _, rfl, rfl, szA (by omega), ?_⟩
            rw [S_cat]
            exact next b7 B7 (.tx hs hz) ((SB.app (j := 2 * w.length) ⟨hsl, hs.ok hwo⟩ hzb).mono (by omega))
          · rw [h] at ek; exact absurd ek (by decide)
          · rw [h] at ek; exact absurd ek (by decide)
        · refine ⟨_, rfl, rfl, _, rfl, ite_S lit_run (fun ek => ?_) (fun nk2 => ?_)⟩
          · rcases hk with ⟨h, _⟩ | ⟨h, _⟩ | ⟨_, cs, rfl, hy, hR⟩
            · exact absurd h nk
            · rw [h] at ek; exact absurd ek (by decide)
            · obtain ⟨d', rfl⟩ : ∃ d', d = d' + 1 := by
                cases d with
                | zero => exact hR.elim
                | succ d' => exact ⟨d', rfl⟩
              obtain ⟨n', rfl⟩ : ∃ n', n = n' + 1 := ⟨n - 1, by omega⟩
              obtain ⟨a2, us2, rfl, ha2, hT2⟩ := hy.inv_n
              have na2 : a2 ≠ b := fun z => B6.notup us2 (by rw [← z]; exact ha2)
              refine ⟨_, rfl, _, rfl, b, l, _, cs, d', rfl, B6, ⟨a2, us2, rfl, na2, .inr ha2, hT2⟩, by omega, hR, fun zs H7 hs hsb b7 B7 => ?_⟩
              have zl2 := hsb.1
              refine ⟨_, _, rfl, rfl, ?_, _, _, rfl, rfl, ?_, _, rfl, _, _, rfl, rfl, ?_, ?_⟩
              · rw [lit_br2]; exact szA (by simp; omega)
              · rw [lit_br2, lit_br3, S_cat]; exact szA (by simp; omega)
              · rw [lit_br2, lit_br3, S_cat, S_cat]; exact szA (by simp; omega)
              · rw [lit_br2, lit_br3, S_cat, S_cat, S_cat]
                have e9 : [91] ++ zs ++ [93] ++ z = 91 :: (zs ++ 93 :: z) := by simp
                rw [e9]
                exact next b7 B7 (.rn hs hz) (((SB.app hsb (hzb.cons (a := 93) (by decide))).cons (by decide)).mono (by omega))
          · rcases hk with ⟨h, _⟩ | ⟨_, nn, rfl, rfl, hn1, hn8, hlow⟩ | ⟨h, _⟩
            · exact absurd h nk
            · have okn : OkS nn := fun c hc => by
                have := hlow c hc
                unfold low at this
                simp at this
                omega
              have held : ∀ {H7 : Hp}, But b H6 H7 → BagAt H7 b l → ∃ z' v5' v6' v7', [some (V.ref b), some (.ref a), some (.str (S pl)), some (.int (m : Int)), some (.str (Str.ofString "$" ++ S (List.replicate 1 123) ++ S nn ++ S (List.replicate 1 125) ++ S z)), some (.str (S kd)), some (.str (S nn)), some (.bl true)] = [some (.ref b), some (.ref a), some (.str (S pl)), some (.int (m : Int)), some (.str (S z')), v5', v6', v7'] ∧ But b (upd H5 r (.tup us.reverse)) H7 ∧ BagAt H7 b l ∧ SpP (SpT d) (decide (V.int (m : Int) = V.int 1)) (ps.drop (ps.length - (i + 1))) z' ∧ SB ((i + 1) * (Ls d + 40)) z' := fun {H7} b7 B7 => by
                rw [lit_dl9, S_cat, S_cat, S_cat, S_cat]
                have e9 : [36] ++ List.replicate 1 123 ++ nn ++ List.replicate 1 125 ++ z = 36 :: 123 :: (nn ++ 125 :: z) := by simp
                rw [e9]
                exact next b7 B7 (.nmB hz) ((((SB.app (j := 8) (a := nn) ⟨hn8, okn⟩ (hzb.cons (a := 125) (by decide))).cons (by decide)).cons (by decide)).mono (by omega))
              have unheld : z.takeWhile low = [] → ∀ {H7 : Hp}, But b H6 H7 → BagAt H7 b l → ∃ z' v5' v6' v7', [some (V.ref b), some (.ref a), some (.str (S pl)), some (.int (m : Int)), some (.str (Str.ofString "$" ++ S (List.replicate 0 123) ++ S nn ++ S (List.replicate 0 125) ++ S z)), some (.str (S kd)), some (.str (S nn)), some (.bl false)] = [some (.ref b), some (.ref a), some (.str (S pl)), some (.int (m : Int)), some (.str (S z')), v5', v6', v7'] ∧ But b (upd H5 r (.tup us.reverse)) H7 ∧ BagAt H7 b l ∧ SpP (SpT d) (decide (V.int (m : Int) = V.int 1)) (ps.drop (ps.length - (i + 1))) z' ∧ SB ((i + 1) * (Ls d + 40)) z' := fun ht {H7} b7 B7 => by
                rw [lit_dl9, S_cat, S_cat, S_cat, S_cat]
                have e9 : [36] ++ List.replicate 0 123 ++ nn ++ List.replicate 0 125 ++ z = 36 :: (nn ++ z) := by simp
                rw [e9]
                exact next b7 B7 (.nm ht hz) (((SB.app (j := 8) (a := nn) ⟨hn8, okn⟩ hzb).cons (by decide)).mono (by omega))
              have s1 : ∀ k, k ≤ 1 → (Str.ofString "$").length + (S (List.replicate k 123)).length ≤ sizeLine := fun k hk1 => by rw [lit_dl9]; exact szA (by simp; omega)
              have s2 : ∀ k, k ≤ 1 → (Str.ofString "$" ++ S (List.replicate k 123)).length + (S nn).length ≤ sizeLine := fun k hk1 => by rw [lit_dl9, S_cat]; exact szA (by simp; omega)
              have s3 : ∀ k, k ≤ 1 → (Str.ofString "$" ++ S (List.replicate k 123) ++ S nn).length + (S (List.replicate k 125)).length ≤ sizeLine := fun k hk1 => by rw [lit_dl9, S_cat, S_cat]; exact szA (by simp; omega)
              have s4 : ∀ k, k ≤ 1 → (Str.ofString "$" ++ S (List.replicate k 123) ++ S nn ++ S (List.replicate k 125)).length + (S z).length ≤ sizeLine := fun k hk1 => by rw [lit_dl9, S_cat, S_cat, S_cat]; exact szA (by simp; omega)
              refine ⟨_, rfl, b, l, 2, rfl, B6, by decide, by decide, fun m2 H7 hm2 b7 B7 => ⟨rfl, _, rfl, iteI (fun _ => ?_) (fun _ => ⟨_, rfl, z, rfl, by omega, fun H8 s8 => ⟨rfl, ?_⟩⟩)⟩⟩
              · exact ⟨_, rfl, .inr ⟨_, rfl, 123, 1, by rw [lit_ob], rfl, by decide, _, _, rfl, rfl, s1 1 (by decide), _, rfl, _, _, rfl, rfl, s2 1 (by decide), _, rfl, .inr ⟨_, rfl, 125, 1, by rw [lit_cb], rfl, by decide, _, _, rfl, rfl, s3 1 (by decide), _, rfl, _, _, rfl, rfl, s4 1 (by decide), held b7 B7⟩⟩⟩
              · have b8 := b7.trans (Same.but s8)
                have B8 := B7.mono s8
                rw [lit_e, dec_S]
                by_cases ht : z.takeWhile low = []
                · rw [decide_eq_true ht]
                  exact ⟨_, rfl, .inr ⟨_, rfl, 123, 0, by rw [lit_ob], rfl, by decide, _, _, rfl, rfl, s1 0 (by decide), _, rfl, _, _, rfl, rfl, s2 0 (by decide), _, rfl, .inr ⟨_, rfl, 125, 0, by rw [lit_cb], rfl, by decide, _, _, rfl, rfl, s3 0 (by decide), _, rfl, _, _, rfl, rfl, s4 0 (by decide), unheld ht b8 B8⟩⟩⟩
                · rw [decide_eq_false ht]
                  exact ⟨_, rfl, .inr ⟨_, rfl, 123, 1, by rw [lit_ob], rfl, by decide, _, _, rfl, rfl, s1 1 (by decide), _, rfl, _, _, rfl, rfl, s2 1 (by decide), _, rfl, .inr ⟨_, rfl, 125, 1, by rw [lit_cb], rfl, by decide, _, _, rfl, rfl, s3 1 (by decide), _, rfl, _, _, rfl, rfl, s4 1 (by decide), held b8 B8⟩⟩⟩
            · exact absurd (by rw [h]) nk2
      · rintro σ H6 ⟨z, v5, v6, v7, rfl, b6, B6, hz, hzb⟩
        have b06 : But b H H6 := (b5.trans (Same.but s6)).trans b6
        rw [List.length_reverse, hlu] at hz hzb
        rw [Nat.sub_self, List.drop_zero] at hz
        have hzb' : SB (3 * Ls d + 120) z := hzb.mono (by
          have : ps.length * (Ls d + 40) ≤ 3 * (Ls d + 40) := Nat.mul_le_mul_right _ hl3
          omega)
        have zl := hzb'.1
        refine ⟨_, rfl, rfl, _, rfl, iteI (fun e1 => ?_) (fun n1 => ?_)⟩
        · have et : decide (V.int (m : Int) = V.int 1) = true := decide_eq_true (by rw [e1])
          rw [et] at hz
          refine ⟨_, rfl, _, _, rfl, rfl, ?_, _, _, rfl, rfl, ?_, ?_⟩
          · rw [lit_qu, S_len, S_len]; exact Nat.le_trans (show 1 + z.length ≤ 2000000 by omega) (by decide)
          · rw [lit_qu, S_cat, S_len, S_len]; exact Nat.le_trans (show (34 :: z).length + 1 ≤ 2000000 by simp; omega) (by decide)
          · rw [lit_qu, S_cat, S_cat]
            exact q (34 :: (z ++ [34])) H6 (.quoted hz) (((SB.app (k := 1) (b := [34]) hzb' ⟨Nat.le_refl _, fun c h => by rw [List.mem_singleton.mp h]; decide⟩).cons (by decide)).mono (by omega)) b06 B6
        · have et : decide (V.int (m : Int) = V.int 1) = false := decide_eq_false (fun h => n1 (V.int.inj h))
          rw [et] at hz
          exact ⟨_, rfl, q z H6 (.bare hz hne) (hzb'.mono (by omega)) b06 B6⟩
end
end My
namespace My
open PySem L2 SX C8
theorem lead_lits : ∀ v ∈ ([V.str (Str.ofString ""), .str (Str.ofString " "), .str (Str.ofString "\n;"), .str (Str.ofString "# [ { x\n")] : List V), ∃ z : List Nat, v = .str (S z) ∧ z ∈ leads ∧ SB 8 z := by
  have e1 : (Str.ofString " ") = S [32] := by decide +kernel
  have e2 : (Str.ofString "\n;") = S [10, 59] := by decide +kernel
  have e3 : (Str.ofString "# [ { x\n") = S [35, 32, 91, 32, 123, 32, 120, 10] := by decide +kernel
  rw [lit_e, e1, e2, e3]
  intro v hv
  simp only [List.mem_cons, List.not_mem_nil, or_false] at hv
  rcases hv with rfl | rfl | rfl | rfl
  all_goals exact ⟨_, rfl, by decide, by decide, by unfold OkS; decide⟩
theorem tail_lits : ∀ v ∈ ([V.str (Str.ofString ";"), .str (Str.ofString "\n"), .str (Str.ofString " ; "), .str (Str.ofString "\n\n # \" \\ y\n")] : List V), ∃ z : List Nat, v = .str (S z) ∧ z ∈ tails ∧ SB 11 z := by
  have e1 : (Str.ofString ";") = S [59] := by decide +kernel
  have e2 : (Str.ofString " ; ") = S [32, 59, 32] := by decide +kernel
  have e3 : (Str.ofString "\n\n # \" \\ y\n") = S [10, 10, 32, 35, 32, 34, 32, 92, 32, 121, 10] := by decide +kernel
  rw [lit_nl, e1, e2, e3]
  intro v hv
  simp only [List.mem_cons, List.not_mem_nil, or_false] at hv
  rcases hv with rfl | rfl | rfl | rfl
  all_goals exact ⟨_, rfl, by decide, by decide, by unfold OkS; decide⟩
theorem sep_lits : ∀ v ∈ ([V.str (Str.ofString " "), .str (Str.ofString "  ")] : List V), ∃ z : List Nat, v = .str (S z) ∧ (z = [32] ∨ z = [32, 32]) := by
  have e1 : (Str.ofString " ") = S [32] := by decide +kernel
  have e2 : (Str.ofString "  ") = S [32, 32] := by decide +kernel
  rw [e1, e2]
  intro v hv
  simp only [List.mem_cons, List.not_mem_nil, or_false] at hv
  rcases hv with rfl | rfl
  · exact ⟨_, rfl, .inl rfl⟩
  · exact ⟨_, rfl, .inr rfl⟩
theorem joinL_SB {sep : List Nat} {k : Nat} (hs : SB 2 sep) : ∀ zs : List (List Nat), (∀ z ∈ zs, SB k z) → SB (zs.length * (k + 2)) (TL.joinL sep zs)
  | [], _ => ⟨Nat.zero_le _, fun c h => (by cases h)⟩
  | [z], h => by
    have := h z (by simp)
    simp only [TL.joinL, List.length_cons, List.length_nil]
    exact this.mono (by omega)
  | z :: y :: r, h => by
    have ih := joinL_SB hs (y :: r) fun x hx => h x (List.mem_cons_of_mem _ hx)
    have := h z (by simp)
    have e : TL.joinL sep (z :: y :: r) = z ++ (sep ++ TL.joinL sep (y :: r)) := rfl
    rw [e, List.length_cons, Nat.succ_mul]
    exact ((this.app (hs.app ih)).mono (by omega))
theorem flat_le {k : Nat} : ∀ zs : List (List Nat), (∀ z ∈ zs, SB k z) → zs.flatten.length ≤ zs.length * k
  | [], _ => Nat.zero_le _
  | z :: r, h => by
    have ih := flat_le r fun x hx => h x (List.mem_cons_of_mem _ hx)
    have := (h z (by simp)).1
    rw [List.flatten_cons, List.length_append, List.length_cons, Nat.succ_mul]
    omega
section
variable {P : Program} {w : World} {K : PySem.W.Frag} {mg : Str → Option Value} {base : Heap}
theorem ok__law_spelt {f : Addr} {fd : FuncData} (F : Def K mg "_law_spelt" s__law_spelt f fd) (b : Binds K fd ["_law_bag_here", "_law_commands"] []) (T : Txt mg) (c__law_of : Cal P w K mg base 2 "_law_of" (spOf K) []) {n : Nat} (hn2 : n ≤ 3) (c__law_spelt_word : Cal P w K mg base (4 + 2 * n) "_law_spelt_word" (spSW n) []) : Cal P w K mg base (5 + 2 * n) "_law_spelt" (spSp (n + 1)) [] := by
  rw [show 5 + 2 * n = (4 + 2 * n) + 1 by omega]
  refine cal0 F b .nil sc__law_spelt (fun vs H Q E h => ?_) (fun cdv A outer s H vs Q E hr h => ?_)
  · obtain ⟨b, l, v, cs, d, rfl, _⟩ := h
    rfl
  obtain ⟨b, l, v, cs, d, rfl, B, ⟨a, us, rfl, nab, ha, hT⟩, hd, hR, q⟩ := h
  obtain ⟨hc2, hC⟩ := hR
  have hlu := hT.1
  have hLs := Ls_le (show d ≤ 3 by omega)
  have eL : Ls (d + 1) = 18 * Ls d + 840 := rfl
  refine ⟨_, pss_cons (ps_set (i := 2) sc__law_spelt.nd rfl (Or.inl rfl) (pe_c c__law_of hr (by first | decide | assumption | omega) rfl (pa_cons (pv 0) (pa_cons (pe_lst (pa_cons pe_str (pa_cons pe_str (pa_cons pe_str (pa_cons pe_str pa_nil))))) pa_nil))))
    (pss_cons (ps_for PassesOwn.never rfl (pi_seq (pv 1)) (pg_name (i := 3) sc__law_spelt.nd rfl (Or.inl rfl))
      (pss_cons (ps_set (i := 2) sc__law_spelt.nd rfl (Or.inl rfl) (pe_op op_add_str (pv 2) (pe_join (pe_c c__law_of hr (by first | decide | assumption | omega) rfl (pa_cons (pv 0) (pa_cons (pe_lst (pa_cons pe_str (pa_cons pe_str pa_nil))) pa_nil))) (pe_lc (own := [("_law_word", 4)]) (g := gName 4) (by rfl) sc__law_spelt.nd (pi_tup (pv 3)) (blkOk_by (own := [("_law_word", 4)]) (N := N__law_spelt) (sc := fnScope s__law_spelt) (by decide +kernel)) (fun _ _ _ _ _ => pg_name (i := 4) sc__law_spelt.nd rfl (Or.inl rfl)) (fun _ _ _ _ _ => pts_nil) (fun _ _ _ _ _ => (pe_c c__law_spelt_word hr (by first | decide | assumption | omega) rfl (pa_cons (pv 0) (pa_cons (pv 4) pa_nil))))))))
      (pss_one (ps_set (i := 2) sc__law_spelt.nd rfl (Or.inl rfl) (pe_op op_add_str (pv 2) (pe_c c__law_of hr (by first | decide | assumption | omega) rfl (pa_cons (pv 0) (pa_cons (pe_lst (pa_cons pe_str (pa_cons pe_str (pa_cons pe_str (pa_cons pe_str pa_nil))))) pa_nil))))))))
    (pss_one (ps_ret (pv 2)))), ?_⟩
  refine ⟨_, rfl, (by show 4 ≤ sizeLine; decide), fun p0 hp0 => ?_⟩
  have s0 := same_new hp0 (HO.lst [.str (Str.ofString ""), .str (Str.ofString " "), .str (Str.ofString "\n;"), .str (Str.ofString "# [ { x\n")])
  refine ⟨b, l, _, rfl, B.mono s0, .inl ⟨p0, _, rfl, (B.nb hp0).symm, SqL.of upd_same, by show 0 < 4; decide, by show 4 ≤ 1000; decide, fun v H1 hv b1 B1 => ?_⟩⟩
  obtain ⟨z0, rfl, hz0, sb0⟩ := lead_lits v hv
  have b01 : But b H H1 := (Same.but s0).trans b1
  have keep : ∀ {H2}, But b H H2 → (H2 a = some (.lst us) ∨ H2 a = some (.tup us)) := fun {H2} k => ha.elim (fun h => .inl (k _ _ h nab)) (fun h => .inr (k _ _ h nab))
  refine ⟨_, rfl, a, rfl, for_seq (K := K) (a := a) (xs := us) (fun i σ H2 => ∃ (z : List Nat) (v3 : Option V), σ = [some (.ref b), some (.ref a), some (.str (S z)), v3, none] ∧ But b H H2 ∧ BagAt H2 b l ∧ SpC (SpT d) (cs.take i) z ∧ SB (8 + i * (9 * Ls d + 410)) z) ⟨z0, none, rfl, b01, B1, .base hz0, sb0.mono (by omega)⟩ ?_ ?_ ?_⟩
  · rcases ha with h | h
    · exact .inl fun i σ H2 _ ⟨_, _, _, b2, _⟩ => SqL.of (b2 _ _ h nab)
    · exact .inr fun i σ H2 _ ⟨_, _, _, b2, _⟩ => SqT.of (b2 _ _ h nab)
  · rintro i v σ H2 hi ⟨z, v3, rfl, b2, B2, hz, hzb⟩
    have hi1 : i < cs.length := by have := (List.getElem?_eq_some_iff.mp hi).1; omega
    have hpi : cs[i]? = some cs[i] := List.getElem?_eq_getElem hi1
    have hvT := (hT.2 i v _ hi hpi).mono (b2.tups B.notup)
    obtain ⟨ws, ew, hw3, hw1, hW⟩ := hC _ (List.mem_of_getElem? hpi)
    rw [ew] at hvT hpi
    obtain ⟨c, vs, rfl, hc, hTw⟩ := hvT.inv_n
    have ncb : c ≠ b := fun z => B2.notup vs (by rw [← z]; exact hc)
    have zl : z.length ≤ 6000000 := by
      have h1 := hzb.1
      have h2 : i * (9 * Ls d + 410) ≤ 2 * (9 * 288120 + 410) := Nat.mul_le_mul (by omega) (by omega)
      omega
    refine ⟨_, rfl, _, rfl, (by show 2 ≤ sizeLine; decide), fun p1 hp1 => ?_⟩
    have s1 := same_new hp1 (HO.lst [.str (Str.ofString " "), .str (Str.ofString "  ")])
    refine ⟨b, l, _, rfl, B2.mono s1, .inl ⟨p1, _, rfl, (B2.nb hp1).symm, SqL.of upd_same, by show 0 < 2; decide, by show 2 ≤ 1000; decide, fun v H3 hv b3 B3 => ?_⟩⟩
    obtain ⟨sep, rfl, hsep⟩ := sep_lits v hv
    have sbs : SB 2 sep := by rcases hsep with rfl | rfl <;> exact ⟨by decide, by unfold OkS; decide⟩
    have b23 : But b H2 H3 := (Same.but s1).trans b3
    have hc3 := b23 _ _ hc ncb
    have hTw3 : TrsAt H3 vs ws := hTw.mono (b23.tups B2.notup)
    refine ⟨⟨_, rfl⟩, _, rfl, c, rfl, ⟨vs, SqT.of hc3⟩, fun D hD => ?_⟩
    have nbD := B3.nb hD
    have nlD := B3.nl hD
    refine lc_tup (K := K) (a := c) (xs := vs) (fun j H4 => But b H3 H4 ∧ BagAt H4 b l ∧ ∃ zs : List (List Nat), zs.length = j ∧ (∀ (k : Nat) (t : Tr) (y : List Nat), ws[k]? = some t → zs[k]? = some y → SpW (SpT d) t y) ∧ (∀ y ∈ zs, SB (3 * Ls d + 130) y) ∧ H4 D = some (.lst (txs zs)))
      ⟨Same.but (same_new hD _), B3.mono (same_new hD _), [], rfl, by simp, by simp, upd_same⟩ (fun j H4 _ h => SqT.of (h.1 _ _ hc3 ncb)) ?_ ?_
    · rintro j v H4 hj ⟨b4, B4, zs, hz1, hz2, hz3, hd4⟩
      have hj1 : j < ws.length := by have := (List.getElem?_eq_some_iff.mp hj).1; have := hTw.1; omega
      have hpj : ws[j]? = some ws[j] := List.getElem?_eq_getElem hj1
      have hvt := (hTw3.2 j v _ hj hpj).mono (b4.tups B3.notup)
      refine ⟨rfl, _, rfl, _, rfl, b, l, v, ws[j], d, rfl, B4, hvt, hd, hW _ (List.mem_of_getElem? hpj), fun y H5 hs hsb b5 B5 => ?_⟩
      refine ⟨_, b5 _ _ hd4 nbD.symm, ?_, but_mut (b4.trans b5) hD, B5.upd nbD nlD, zs ++ [y], by simp [hz1], fun k t x hk hx => ?_, fun x hx => ?_, ?_⟩
      · rw [txs_len, hz1]
        exact Nat.lt_of_le_of_lt (show _ ≤ 3 by omega) (by decide)
      · by_cases hlt : k < zs.length
        · rw [List.getElem?_append_left hlt] at hx
          exact hz2 k t x hk hx
        · have ek : k = zs.length := by
            have := (List.getElem?_eq_some_iff.mp hx).1
            simp at this
            omega
          subst ek
          rw [List.getElem?_append_right (Nat.le_refl _), Nat.sub_self] at hx
          cases hx
          rw [hz1, hpj] at hk
          cases hk
          exact hs
      · rcases List.mem_append.mp hx with h | h
        · exact hz3 x h
        · rw [List.mem_singleton.mp h]; exact hsb
      · rw [upd_same, txs_snoc]
    · rintro H4 ⟨b4, B4, zs, hz1, hz2, hz3, hd4⟩
      have hlw : vs.length = ws.length := hTw.1
      rw [hlw] at hz1
      have hzl : zs.length ≤ 3 := by omega
      have hfl := flat_le zs hz3
      have hfl2 : zs.length * (3 * Ls d + 130) ≤ 3 * (3 * 288120 + 130) := Nat.mul_le_mul hzl (by omega)
      have hjl := joinL_SB sbs zs hz3
      have hjl2 : zs.length * (3 * Ls d + 130 + 2) ≤ 3 * (3 * Ls d + 130 + 2) := Nat.mul_le_mul_right _ hzl
      have hjn := hjl.1
      refine ⟨_, D, zs.map S, rfl, rfl, .inl (SqL.of (by rw [hd4, txs_map])), ?_, ?_⟩
      · have h2 : (zs.map S).length * (S sep).length ≤ 3 * 2 := by
          rw [List.length_map, S_len]
          exact Nat.mul_le_mul hzl sbs.1
        rw [sum_S]
        exact Nat.le_trans (show _ ≤ 3 * (3 * 288120 + 130) + 6 by omega) (by decide)
      rw [join_S]
      generalize hy : TL.joinL sep zs = y at hjl hjn
      have sz : ∀ {x e : List Nat}, x.length + e.length ≤ 12000000 → (S x).length + (S e).length ≤ sizeLine := fun {x e} h => by rw [S_len, S_len]; exact Nat.le_trans h (by decide)
      refine ⟨_, _, rfl, rfl, sz (by omega), ?_⟩
      rw [S_cat]
      refine ⟨_, rfl, _, rfl, (by show 4 ≤ sizeLine; decide), fun p2 hp2 => ?_⟩
      have s2 := same_new hp2 (HO.lst [.str (Str.ofString ";"), .str (Str.ofString "\n"), .str (Str.ofString " ; "), .str (Str.ofString "\n\n # \" \\ y\n")])
      refine ⟨b, l, _, rfl, B4.mono s2, .inl ⟨p2, _, rfl, (B4.nb hp2).symm, SqL.of upd_same, by show 0 < 4; decide, by show 4 ≤ 1000; decide, fun v H5 hv b5 B5 => ?_⟩⟩
      obtain ⟨e, rfl, he, sbe⟩ := tail_lits v hv
      have hen := sbe.1
      refine ⟨_, _, rfl, rfl, sz (by rw [List.length_append]; omega), z ++ y ++ e, some (.ref c), ?_, (b2.trans (b23.trans (b4.trans ((Same.but s2).trans b5)))), B5, ?_, ?_⟩
      · rw [S_cat] <;> rfl
      · rw [List.take_add_one, hpi]
        exact .snoc hz ⟨zs, sep, hsep, hz1, hz2, hy.symm⟩ he
      · rw [Nat.succ_mul]
        exact (((hzb.app hjl).app sbe).mono (by omega))
  · rintro σ H2 ⟨z, v3, rfl, b2, B2, hz, hzb⟩
    rw [hlu] at hz hzb
    rw [List.take_length] at hz
    have h2 : cs.length * (9 * Ls d + 410) ≤ 2 * (9 * Ls d + 410) := Nat.mul_le_mul_right _ hc2
    exact ⟨_, rfl, q z H2 hz (hzb.mono (by omega)) b2 B2⟩
structure SpeltF (K : PySem.W.Frag) (mg : Str → Option Value) : Prop where
  word : ∃ (f : Addr) (fd : FuncData), Def K mg "_law_spelt_word" s__law_spelt_word f fd ∧ Binds K fd ["_law_bag_here", "_law_word"] []
  text : ∃ (f : Addr) (fd : FuncData), Def K mg "_law_spelt" s__law_spelt f fd ∧ Binds K fd ["_law_bag_here", "_law_commands"] []
theorem ok_spelt (M : SpeltF K mg) (T : Txt mg) (c__law_pull : Cal P w K mg base 1 "_law_pull" spPull []) (c__law_of : Cal P w K mg base 2 "_law_of" (spOf K) []) (c__law_pairs : Cal P w K mg base 1 "_law_pairs" spLpairs []) (c__law_spell : Cal P w K mg base 2 "_law_spell" spSpell []) (c__law_letters : Cal P w K mg base 1 "_law_letters" spLetters2 []) : ∀ n, n ≤ 4 → Cal P w K mg base (3 + 2 * n) "_law_spelt" (spSp n) []
  | 0, _ => by
    obtain ⟨f, fd, F, b⟩ := M.text
    exact ⟨f, fd, _, [], ⟨fun _ _ _ _ h => h.elim, fun _ _ _ _ _ _ _ _ _ _ _ _ _ h => h.elim⟩, F.mgf, F.kp, b, .nil⟩
  | n + 1, hn => by
    have ih := ok_spelt M T c__law_pull c__law_of c__law_pairs c__law_spell c__law_letters n (by omega)
    obtain ⟨_, _, F1, b1⟩ := M.word
    have c1 := ok__law_spelt_word (P := P) (w := w) (base := base) F1 b1 T c__law_pull c__law_pairs c__law_spell c__law_letters (show n ≤ 3 by omega) ih
    obtain ⟨_, _, F2, b2⟩ := M.text
    rw [show 3 + 2 * (n + 1) = 5 + 2 * n by omega]
    exact ok__law_spelt (P := P) (w := w) (base := base) F2 b2 T c__law_of (show n ≤ 3 by omega) c1
end
end My
namespace My
open PySem L2 SX C8
/-! ### a script written -/
def hdLow : List Nat → Bool
  | [] => false
  | c :: _ => low c
def pcT (R : List Tr → List Nat) (later : List Nat) : Tr → List Nat
  | .n [.s k, .s w] => if k = wText then turn w else if hdLow later then 36 :: 123 :: (w ++ [125]) else 36 :: w
  | .n [.s _, .n cs] => 91 :: (R cs ++ [93])
  | _ => []
theorem pcT_tx (R : List Tr → List Nat) (l w : List Nat) : pcT R l (tx w) = turn w := by simp [pcT, tx]
theorem pcT_nm (R : List Tr → List Nat) (l w : List Nat) : pcT R l (nm w) = if hdLow l then 36 :: 123 :: (w ++ [125]) else 36 :: w := by simp [pcT, nm, nNT]
theorem pcT_rn (R : List Tr → List Nat) (l : List Nat) (cs : List Tr) : pcT R l (rn cs) = 91 :: (R cs ++ [93]) := rfl
def pcsT (R : List Tr → List Nat) (ps : List Tr) : List Nat := ps.foldr (fun p l => pcT R l p ++ l) []
def wdL (R : List Tr → List Nat) (ps : List Tr) : List Nat := if (ps.map isT).all id = true then wtext (txl ps).flatten else pcsT R ps
def wdT (R : List Tr → List Nat) : Tr → List Nat
  | .n ps => wdL R ps
  | _ => []
def cmT (R : List Tr → List Nat) : Tr → List Nat
  | .n ws => TL.joinL [32] (ws.map (wdT R))
  | _ => []
def csT (R : List Tr → List Nat) (cs : List Tr) : List Nat := TL.joinL [59, 32] (cs.map (cmT R))
def wr : Nat → List Tr → List Nat
  | 0 => fun _ => []
  | d + 1 => csT (wr d)
def Lw : Nat → Nat
  | 0 => 0
  | d + 1 => 18 * Lw d + 800
theorem wtext_le9 (l : List Nat) : (wtext l).length ≤ 2 * l.length + 2 := by
  have := turn_len l
  unfold wtext
  split
  · simp
  · split
    · simp; omega
    · omega
theorem joinL_len {sep : List Nat} {k : Nat} : ∀ zs : List (List Nat), (∀ z ∈ zs, z.length ≤ k) → (TL.joinL sep zs).length ≤ zs.length * (k + sep.length)
  | [], _ => Nat.zero_le _
  | [z], h => by
    have := h z (by simp)
    simp only [TL.joinL, List.length_cons, List.length_nil]
    omega
  | z :: y :: r, h => by
    have ih := joinL_len (sep := sep) (y :: r) fun x hx => h x (List.mem_cons_of_mem _ hx)
    have := h z (by simp)
    have e : TL.joinL sep (z :: y :: r) = z ++ (sep ++ TL.joinL sep (y :: r)) := rfl
    rw [e, List.length_cons, Nat.succ_mul, List.length_append, List.length_append]
    omega
theorem flat_len {k : Nat} : ∀ zs : List (List Nat), (∀ z ∈ zs, z.length ≤ k) → zs.flatten.length ≤ zs.length * k
  | [], _ => Nat.zero_le _
  | z :: r, h => by
    have ih := flat_len r fun x hx => h x (List.mem_cons_of_mem _ hx)
    have := h z (by simp)
    rw [List.flatten_cons, List.length_append, List.length_cons, Nat.succ_mul]
    omega
theorem txl_flat {R : List Tr → Prop} : ∀ ps : List Tr, (∀ p ∈ ps, PcW R 15 p) → (txl ps).flatten.length ≤ 15 * ps.length
  | [], _ => Nat.le_refl _
  | p :: r, h => by
    have ih := txl_flat r fun x hx => h x (List.mem_cons_of_mem _ hx)
    unfold txl at ih ⊢
    rw [List.filterMap_cons, List.length_cons]
    rcases h p List.mem_cons_self with ⟨w, rfl, h1, _⟩ | ⟨n, rfl, _⟩ | ⟨cs, rfl, _⟩
    · rw [txo_tx, List.flatten_cons, List.length_append]
      omega
    · rw [show txo (nm n) = none by simp [txo, nm, nNT]]
      show (List.filterMap txo r).flatten.length ≤ _
      omega
    · rw [show txo (rn cs) = none from rfl]
      show (List.filterMap txo r).flatten.length ≤ _
      omega
theorem pcT_len {R : List Tr → Prop} {T : List Tr → List Nat} {k : Nat} (hR : ∀ cs, R cs → (T cs).length ≤ k) {p : Tr} (hp : PcW R 15 p) (l : List Nat) : (pcT T l p).length ≤ k + 40 := by
  rcases hp with ⟨w, rfl, h1, _⟩ | ⟨n, rfl, _, h8, _⟩ | ⟨cs, rfl, h1⟩
  · rw [pcT_tx]
    have := turn_len w
    omega
  · rw [pcT_nm]
    split <;> simp <;> omega
  · rw [pcT_rn]
    have := hR cs h1
    simp
    omega
theorem pcsT_len {R : List Tr → Prop} {T : List Tr → List Nat} {k : Nat} (hR : ∀ cs, R cs → (T cs).length ≤ k) : ∀ ps : List Tr, (∀ p ∈ ps, PcW R 15 p) → (pcsT T ps).length ≤ ps.length * (k + 40)
  | [], _ => Nat.zero_le _
  | p :: r, h => by
    have ih := pcsT_len hR r fun x hx => h x (List.mem_cons_of_mem _ hx)
    have := pcT_len hR (h p List.mem_cons_self) (pcsT T r)
    have e : pcsT T (p :: r) = pcT T (pcsT T r) p ++ pcsT T r := rfl
    rw [e, List.length_append, List.length_cons, Nat.succ_mul]
    omega
theorem wdT_len {R : List Tr → Prop} {T : List Tr → List Nat} {k : Nat} (hR : ∀ cs, R cs → (T cs).length ≤ k) {t : Tr} (h : WdW R t) : (wdT T t).length ≤ 3 * k + 120 := by
  obtain ⟨ps, rfl, h3, hP, _⟩ := h
  show (wdL T ps).length ≤ _
  unfold wdL
  split
  · have h1 := wtext_le9 (txl ps).flatten
    have h2 := txl_flat ps hP
    omega
  · have h1 := pcsT_len hR ps hP
    have h2 : ps.length * (k + 40) ≤ 3 * (k + 40) := Nat.mul_le_mul_right _ h3
    omega
theorem cmT_len {R : List Tr → Prop} {T : List Tr → List Nat} {k : Nat} (hR : ∀ cs, R cs → (T cs).length ≤ k) {t : Tr} (h : CmW R t) : (cmT T t).length ≤ 9 * k + 370 := by
  obtain ⟨ws, rfl, h3, _, hW⟩ := h
  have h1 := joinL_len (sep := [32]) (ws.map (wdT T)) (k := 3 * k + 120) fun z hz => by
    obtain ⟨x, hx, rfl⟩ := List.mem_map.mp hz
    exact wdT_len hR (hW x hx)
  rw [List.length_map, show [32].length = 1 from rfl] at h1
  have h2 : ws.length * (3 * k + 120 + 1) ≤ 3 * (3 * k + 120 + 1) := Nat.mul_le_mul_right _ h3
  show (TL.joinL [32] (ws.map (wdT T))).length ≤ _
  omega
theorem csT_len {R : List Tr → Prop} {T : List Tr → List Nat} {k : Nat} (hR : ∀ cs, R cs → (T cs).length ≤ k) {cs : List Tr} (h : ScW R cs) : (csT T cs).length ≤ 18 * k + 800 := by
  obtain ⟨h3, hW⟩ := h
  have h1 := joinL_len (sep := [59, 32]) (cs.map (cmT T)) (k := 9 * k + 370) fun z hz => by
    obtain ⟨x, hx, rfl⟩ := List.mem_map.mp hz
    exact cmT_len hR (hW x hx)
  rw [List.length_map, show [59, 32].length = 2 from rfl] at h1
  have h2 : cs.length * (9 * k + 370 + 2) ≤ 2 * (9 * k + 370 + 2) := Nat.mul_le_mul_right _ h3
  show (TL.joinL [59, 32] (cs.map (cmT T))).length ≤ _
  omega
theorem wr_len : ∀ (d : Nat) (cs : List Tr), RunW d cs → (wr d cs).length ≤ Lw d
  | 0, _, h => h.elim
  | d + 1, cs, h => csT_len (wr_len d) h
theorem Lw_le {d : Nat} (h : d ≤ 3) : Lw d ≤ 280000 := by
  match d, h with
  | 0, _ => decide
  | 1, _ => decide
  | 2, _ => decide
  | 3, _ => decide
def CmAt9 (H : Hp) (v : V) (cs : List Tr) : Prop := ∃ a us, v = .ref a ∧ (H a = some (.lst us) ∨ H a = some (.tup us)) ∧ TrsAt H us cs
theorem CmAt9.mono {H H' : Hp} {v : V} {cs : List Tr} (e : Same H H') (h : CmAt9 H v cs) : CmAt9 H' v cs := by
  obtain ⟨a, us, h1, h2, h3⟩ := h
  exact ⟨a, us, h1, h2.elim (fun h => .inl (e _ _ h)) (fun h => .inr (e _ _ h)), h3.mono (Same.tups e)⟩
def spPcT (n : Nat) : Sp := fun vs H Q _ => ∃ (v : V) (p : Tr) (l : List Nat) (d : Nat), vs = [v, .str (S l)] ∧ TrAt H v p ∧ PcW (RunW d) 15 p ∧ d ≤ n ∧ l.length ≤ 1000000 ∧ ∀ H', Same H H' → Q (.str (S (pcT (wr d) l p))) H'
def spWdT (n : Nat) : Sp := fun vs H Q _ => ∃ (v : V) (t : Tr) (d : Nat), vs = [v] ∧ TrAt H v t ∧ WdW (RunW d) t ∧ d ≤ n ∧ ∀ H', Same H H' → Q (.str (S (wdT (wr d) t))) H'
def spWr : Nat → Sp
  | 0 => fun _ _ _ _ => False
  | n + 1 => fun vs H Q _ => ∃ (v : V) (cs : List Tr) (d : Nat), vs = [v] ∧ CmAt9 H v cs ∧ d ≤ n ∧ RunW (d + 1) cs ∧ ∀ H', Same H H' → Q (.str (S (wr (d + 1) cs))) H'
end My
namespace My
open PySem L2 SX C8
/-! ### what is written is read -/
theorem sps_turn : ∀ (n : Nat) (w : List Nat), w.length = n → SpS false w (turn w)
  | 0, w, h => by
    rw [List.eq_nil_of_length_eq_zero h]
    exact .nil
  | n + 1, w, h => by
    rcases snoc_or_nil w with rfl | ⟨r, c, rfl⟩
    · cases h
    · have ih := sps_turn n r (by simpa using h)
      rw [turn_snoc]
      unfold tsig
      by_cases h1 : c = 10
      · subst h1
        rw [if_pos rfl]
        exact SpS.turn (c := 10) rfl ih
      · rw [if_neg h1]
        by_cases h2 : c ∈ specL
        · rw [if_pos h2]
          have hl : low c = false := by
            have : ∀ c ∈ specL, low c = false := by decide
            exact this c h2
          have := SpS.turn hl ih
          rw [if_neg h1] at this
          exact this
        · rw [if_neg h2]
          refine .plain ?_ ih
          unfold okp
          have : c ∉ specA := fun h => by
            unfold specA at h
            unfold specL at h2
            simp only [List.mem_cons, List.not_mem_nil, or_false] at h h2
            omega
          rw [decide_eq_false this]
          rfl
theorem hd_tw {l : List Nat} (h : hdLow l = false) : l.takeWhile low = [] := by
  cases l with
  | nil => rfl
  | cons c r =>
    have hc : low c = false := h
    rw [List.takeWhile_cons, hc]
    rfl
def WrR (d : Nat) : List Tr → List Nat → Prop := fun cs z => z = wr d cs
theorem spp_wr {R : List Tr → Prop} {d k : Nat} : ∀ ps : List Tr, (∀ p ∈ ps, PcW R k p) → SpP (WrR d) false ps (pcsT (wr d) ps)
  | [], _ => .nil
  | p :: r, h => by
    have ih := spp_wr (d := d) r fun x hx => h x (List.mem_cons_of_mem _ hx)
    have e : pcsT (wr d) (p :: r) = pcT (wr d) (pcsT (wr d) r) p ++ pcsT (wr d) r := rfl
    rw [e]
    rcases h p List.mem_cons_self with ⟨w, rfl, _⟩ | ⟨n, rfl, _⟩ | ⟨cs, rfl, _⟩
    · rw [pcT_tx]
      exact .tx (sps_turn _ w rfl) ih
    · rw [pcT_nm]
      cases hh : hdLow (pcsT (wr d) r) with
      | true =>
        rw [if_pos rfl]
        have := SpP.nmB (n := n) ih
        simpa using this
      | false =>
        rw [if_neg Bool.false_ne_true]
        exact .nm (hd_tw hh) ih
    · rw [pcT_rn]
      have := SpP.rn (R := WrR d) (cs := cs) rfl ih
      simpa using this
theorem spw_wr {R : List Tr → Prop} {d k : Nat} {t : Tr} (h : WdK R k t) : SpW (WrR d) t (wdT (wr d) t) := by
  obtain ⟨ps, rfl, _, hP, hE, hN⟩ := h
  show SpW (WrR d) (.n ps) (wdL (wr d) ps)
  unfold wdL
  cases hall : (ps.map isT).all id with
  | true =>
    rw [if_pos rfl]
    have eps := txl_all hP hE hN hall
    generalize (txl ps).flatten = f at eps
    subst eps
    unfold wtext
    by_cases h1 : f = []
    · subst h1
      rw [if_pos rfl]
      exact SpW.braced (R := WrR d) (w := []) rfl
    · rw [if_neg h1, if_neg h1]
      by_cases h2 : f.length + 2 ≤ (turn f).length ∧ Pairs f = true
      · rw [if_pos h2]
        have := SpW.braced (R := WrR d) h2.2
        rw [if_neg h1] at this
        exact this
      · rw [if_neg h2]
        have := SpP.tx (R := WrR d) (sps_turn _ f rfl) .nil
        rw [List.append_nil] at this
        exact .bare this (by simp)
  | false =>
    rw [if_neg Bool.false_ne_true]
    refine .bare (spp_wr ps hP) fun z => ?_
    rw [z] at hall
    cases hall
/-- commands, words and pieces as they are told of reading, runs at most so many deep, less one -/
def CmK (R : List Tr → Prop) (k : Nat) (t : Tr) : Prop := ∃ ws, t = .n ws ∧ ws ≠ [] ∧ ws.length ≤ k ∧ ∀ x ∈ ws, WdK R k x
def RunK (k : Nat) : Nat → List Tr → Prop
  | 0 => fun _ => False
  | d + 1 => fun cs => cs.length ≤ k ∧ ∀ c ∈ cs, CmK (RunK k d) k c
theorem cmT_read {R : List Tr → Prop} {d k : Nat} (I : RdsR R (WrR d) d) {w : Nat} (hw : w + 1 + d ≤ 13) {t : Tr} (h : CmK R k t) {s r : List Nat} (hs : bW w s = true) (dc : DCmd w s (.ok [] r)) : ∃ ws, t = .n ws ∧ DCmd w (cmT (wr d) t ++ s) (.ok ws r) ∧ ∃ c z', cmT (wr d) t = c :: z' ∧ Hd c := by
  obtain ⟨ws, rfl, hne, _, hW⟩ := h
  obtain ⟨h1, h2⟩ := cmd_read I hw (sep := [32]) (.inl rfl) ws (ws.map (wdT (wr d))) (by rw [List.length_map]) (fun i t z ht hz => by
    rw [List.getElem?_map, ht] at hz
    cases hz
    exact spw_wr (hW t (List.mem_of_getElem? ht))) hW hs dc
  rw [List.append_nil] at h1
  exact ⟨ws, rfl, h1, h2 hne⟩
theorem bS_bC {w : Nat} {l : List Nat} (h : bS w l = true) : bC w l = true := by
  cases l with
  | nil => rfl
  | cons c r => show (bS w (c :: r) || _) = true; rw [h]; rfl
theorem csT_read {R : List Tr → Prop} {d k : Nat} (I : RdsR R (WrR d) d) {w : Nat} (hw : w + 1 + d ≤ 13) {r : List Nat} (hb : bS w r = true) : ∀ cs : List Tr, (∀ c ∈ cs, CmK R k c) → DScr w (csT (wr d) cs ++ r) (.ok cs r)
  | [], _ => .stop hb
  | [c], h => by
    obtain ⟨ws, rfl, dc, c0, z', ez, hh⟩ := cmT_read I hw (h c (by simp)) (bC_bW (bS_bC hb)) (.stop (bS_bC hb))
    have e : csT (wr d) [.n ws] = cmT (wr d) (.n ws) := rfl
    rw [e]
    rw [ez] at dc ⊢
    exact DScr.cmd (o := .ok [] r) hh.bW hh.2.2.2.2 dc (.stop hb)
  | c :: c2 :: cs, h => by
    have ih := csT_read I hw hb (c2 :: cs) fun x hx => h x (List.mem_cons_of_mem _ hx)
    have c59 : ∀ {l : List Nat}, bC w (59 :: l) = true := fun {l} => by
      show ((decide (0 < w) && decide (59 = 93)) || (decide (59 = 10) || decide (59 = 59))) = true
      simp
    obtain ⟨ws, rfl, dc, c0, z', ez, hh⟩ := cmT_read I hw (h c (by simp)) (s := 59 :: 32 :: (csT (wr d) (c2 :: cs) ++ r)) (bC_bW c59) (.stop c59)
    have e : csT (wr d) (.n ws :: c2 :: cs) ++ r = cmT (wr d) (.n ws) ++ (59 :: 32 :: (csT (wr d) (c2 :: cs) ++ r)) := by
      show cmT (wr d) (.n ws) ++ ([59, 32] ++ TL.joinL [59, 32] ((c2 :: cs).map (cmT (wr d)))) ++ r = _
      rw [List.append_assoc]
      rfl
    rw [e]
    rw [ez] at dc ⊢
    exact DScr.cmd (o := .ok (c2 :: cs) r) hh.bW hh.2.2.2.2 dc (scr_gap (.inr (.inr rfl)) (scr_gap (.inl rfl) ih))
theorem wr_read (k : Nat) : ∀ d, RdsR (RunK k d) (WrR d) d
  | 0 => fun cs z h => h.elim
  | d + 1 => fun cs z hR hT => ⟨by omega, fun w r hw hb => by
    have I := wr_read k d
    have e : z = csT (wr d) cs := hT
    rw [e]
    exact csT_read I (by omega) hb cs hR.2⟩
/-! ### what is told of reading is so -/
mutual
def tsz : Tr → Nat
  | .s w => w.length + 1
  | .n ts => tszs ts + 1
def tszs : List Tr → Nat
  | [] => 0
  | t :: r => tsz t + tszs r
end
end My
namespace My
open PySem L2 SX C8
theorem tszs_app : ∀ (a b : List Tr), tszs (a ++ b) = tszs a + tszs b
  | [], b => by rw [List.nil_append]; show _ = 0 + _; omega
  | t :: r, b => by
    have ih := tszs_app r b
    show tsz t + tszs (r ++ b) = tsz t + tszs r + tszs b
    omega
theorem tsz_tx (w : List Nat) : tsz (tx w) = w.length + 7 := by
  show (4 + 1) + ((w.length + 1) + 0) + 1 = _
  omega
theorem tsz_nm (w : List Nat) : tsz (nm w) = w.length + 7 := by
  show (4 + 1) + ((w.length + 1) + 0) + 1 = _
  omega
theorem tsz_rn (cs : List Tr) : tsz (rn cs) = tszs cs + 6 := by
  show (3 + 1) + ((tszs cs + 1) + 0) + 1 = _
  omega
theorem merge_more {R : List Tr → Prop} {k j : Nat} {rows : List Tr} {p : Tr} (hr : ∀ x ∈ rows, PcW R k x ∧ isE x = false) (hp : PcW R j p ∧ isE p = false) : (∀ x ∈ merge rows p, isE x = false) ∧ tszs (merge rows p) ≤ tszs rows + tsz p := by
  have app : merge rows p = rows ++ [p] → (∀ x ∈ merge rows p, isE x = false) ∧ tszs (merge rows p) ≤ tszs rows + tsz p := fun e => by
    rw [e, tszs_app]
    refine ⟨fun x hx => ?_, by show _ + (tsz p + 0) ≤ _; omega⟩
    rcases List.mem_append.mp hx with h | h
    · exact (hr x h).2
    · rw [List.mem_singleton.mp h]; exact hp.2
  rcases snoc_or_nil rows with rfl | ⟨jr, q0, rfl⟩
  · exact app rfl
  · by_cases hb : (∃ u, q0 = tx u) ∧ ∃ w, p = tx w
    · obtain ⟨⟨u, rfl⟩, w, rfl⟩ := hb
      rw [merge_tx, tszs_app, tszs_app]
      refine ⟨fun x hx => ?_, ?_⟩
      · rcases List.mem_append.mp hx with h | h
        · exact (hr x (List.mem_append_left _ h)).2
        · rw [List.mem_singleton.mp h]
          have hw : w ≠ [] := fun z => by
            have := hp.2
            rw [z] at this
            exact absurd this (by decide)
          show (decide (wText = wText) && decide (u ++ w = [])) = false
          rw [decide_eq_false (show ¬ (u ++ w = []) from fun z => hw (List.append_eq_nil_iff.mp z).2)]
          rfl
      · show tszs jr + (tsz (tx (u ++ w)) + 0) ≤ tszs jr + (tsz (tx u) + 0) + tsz (tx w)
        rw [tsz_tx, tsz_tx, tsz_tx, List.length_append]
        omega
    · refine app (merge_no (hr q0 (by simp)).1.isPc hp.1.isPc ?_)
      by_cases h1 : ∃ u, q0 = tx u
      · exact .inl fun w e => hb ⟨h1, w, e⟩
      · exact .inr fun u e => h1 ⟨u, e⟩
theorem fold_more {R : List Tr → Prop} : ∀ (ps rows : List Tr) (k : Nat), (∀ x ∈ rows, PcW R k x ∧ isE x = false) → NA rows → (∀ p ∈ ps, PcW R 1 p ∧ isE p = false) → (∀ x ∈ ps.foldl merge rows, isE x = false) ∧ tszs (ps.foldl merge rows) ≤ tszs rows + tszs ps
  | [], rows, k, hr, _, _ => ⟨fun x hx => (hr x hx).2, by show _ ≤ _ + 0; exact Nat.le_refl _⟩
  | p :: r, rows, k, hr, hn, hp => by
    have h0 := hp p List.mem_cons_self
    obtain ⟨h1, h2⟩ := merge_W (fun x hx => (hr x hx).1) hn h0.1
    obtain ⟨h3, h4⟩ := merge_more hr h0
    obtain ⟨i1, i2⟩ := fold_more r (merge rows p) (k + 1) (fun x hx => ⟨h1 x hx, h3 x hx⟩) h2 fun x hx => hp x (List.mem_cons_of_mem _ hx)
    refine ⟨i1, ?_⟩
    show tszs (r.foldl merge (merge rows p)) ≤ tszs rows + (tsz p + tszs r)
    omega
theorem joinP_all {R : List Tr → Prop} {K : Nat} {ps : List Tr} (hl : ps.length ≤ K) (hp : ∀ p ∈ ps, PcW R 1 p ∧ isE p = false) : WdK R K (.n (joinP ps)) ∧ tszs (joinP ps) ≤ tszs ps := by
  obtain ⟨h1, h2⟩ := foldl_W ps [] 0 (fun _ h => by cases h) trivial fun p h => (hp p h).1
  obtain ⟨h3, h4⟩ := fold_more ps [] 0 (fun _ h => by cases h) trivial hp
  refine ⟨⟨_, rfl, Nat.le_trans (joinP_len ps) hl, fun p hm => (h1 p hm).mono (by omega), h3, h2⟩, ?_⟩
  have : tszs (joinP ps) ≤ 0 + tszs ps := h4
  omega
theorem name_facts {r n r1 : List Nat} (h : nameOf r = some (n, r1)) : 1 ≤ n.length ∧ n.length ≤ 8 ∧ (∀ c ∈ n, low c = true) ∧ n.length + r1.length ≤ r.length ∧ ∀ c ∈ r1, c ∈ r := by
  have tw : ∀ (l : List Nat), (∀ c ∈ l.takeWhile low, low c = true) ∧ (l.takeWhile low).length + (l.dropWhile low).length = l.length ∧ ∀ c ∈ l.dropWhile low, c ∈ l := fun l => by
    refine ⟨fun c hc => ?_, ?_, fun c hc => ?_⟩
    · have : ∀ (l : List Nat), ∀ c ∈ l.takeWhile low, low c = true := by
        intro l
        induction l with
        | nil => intro c h; cases h
        | cons a r ih =>
          intro c h
          rw [List.takeWhile_cons] at h
          cases ha : low a with
          | false => rw [ha] at h; cases h
          | true =>
            rw [ha] at h
            rcases List.mem_cons.mp h with rfl | h
            · exact ha
            · exact ih c h
      exact this l c hc
    · have := congrArg List.length (List.takeWhile_append_dropWhile (p := low) (l := l))
      rw [List.length_append] at this
      exact this
    · rw [← List.takeWhile_append_dropWhile (p := low) (l := l)]
      exact List.mem_append_right _ hc
  unfold nameOf at h
  split at h
  · rename_i r0
    obtain ⟨t1, t2, t3⟩ := tw r0
    split at h
    · rename_i hl
      split at h
      · rename_i r2 e
        cases h
        rw [e] at t2 t3
        refine ⟨hl.1, hl.2, t1, ?_, fun c hc => List.mem_cons_of_mem _ (t3 c (List.mem_cons_of_mem _ hc))⟩
        simp at t2 ⊢
        omega
      · cases h
    · cases h
  · split at h
    · rename_i hl
      cases h
      obtain ⟨t1, t2, t3⟩ := tw r
      exact ⟨hl.1, hl.2, t1, by omega, t3⟩
    · cases h
theorem dropRem_all (l : List Nat) : (dropRem l).length ≤ l.length ∧ ∀ c ∈ dropRem l, c ∈ l := by
  induction l with
  | nil => exact ⟨Nat.le_refl _, fun c h => h⟩
  | cons a r ih =>
    unfold dropRem
    split
    · exact ⟨Nat.le_refl _, fun c h => h⟩
    · exact ⟨by simp; omega, fun c h => List.mem_cons_of_mem _ (ih.2 c h)⟩
section
variable (K : Nat)
def M1 (w : Nat) (l : List Nat) (o : Out) : Prop := ∀ cs r, o = .ok cs r → w ≤ 12 → OkS l → l.length ≤ K → RunK K (13 - w) cs ∧ cs.length + r.length ≤ l.length ∧ tszs cs + 10 * r.length ≤ 10 * l.length ∧ ∀ c ∈ r, c ∈ l
def M2 (w : Nat) (l : List Nat) (o : Out) : Prop := ∀ ws r, o = .ok ws r → w ≤ 12 → OkS l → l.length ≤ K → (∀ x ∈ ws, WdK (RunK K (12 - w)) K x) ∧ ws.length + r.length ≤ l.length ∧ tszs ws + ws.length + 10 * r.length ≤ 10 * l.length ∧ (∀ c ∈ r, c ∈ l) ∧ (bW w l = false → 1 ≤ ws.length)
def M3 (w : Nat) (l : List Nat) (o : Out) : Prop := ∀ ts r, o = .ok ts r → w ≤ 12 → OkS l → l.length ≤ K → bW w l = false → ∃ t, ts = [t] ∧ WdK (RunK K (12 - w)) K t ∧ r.length < l.length ∧ tsz t + 1 + 10 * r.length ≤ 10 * l.length ∧ ∀ c ∈ r, c ∈ l
def M4 (w : Nat) (l : List Nat) (o : Out) : Prop := ∀ ps r, o = .ok ps r → w ≤ 12 → OkS l → l.length ≤ K → (∀ p ∈ ps, PcW (RunK K (12 - w)) 1 p ∧ isE p = false) ∧ ps.length + r.length + 1 ≤ l.length ∧ tszs ps + 10 * r.length + 10 ≤ 10 * l.length ∧ ∀ c ∈ r, c ∈ l
def M5 (w : Nat) (l : List Nat) (o : Out) : Prop := ∀ ps r, o = .ok ps r → w ≤ 12 → OkS l → l.length ≤ K → (∀ p ∈ ps, PcW (RunK K (12 - w)) 1 p ∧ isE p = false) ∧ ps.length + r.length ≤ l.length ∧ tszs ps + 2 * ps.length + 10 * r.length ≤ 10 * l.length ∧ (∀ c ∈ r, c ∈ l) ∧ (bW w l = false → 1 ≤ ps.length)
def M6 (w : Nat) (l : List Nat) (o : Out) : Prop := ∀ ts r, o = .ok ts r → w ≤ 12 → OkS l → l.length ≤ K → ∃ p, ts = [p] ∧ PcW (RunK K (12 - w)) 1 p ∧ isE p = false ∧ r.length < l.length ∧ tsz p + 2 + 10 * r.length ≤ 10 * l.length ∧ ∀ c ∈ r, c ∈ l
end
theorem isE_sg (c : Nat) : isE (tx [c]) = false := by
  show (decide (wText = wText) && decide ([c] = [])) = false
  simp
theorem isE_nm (n : List Nat) : isE (nm n) = false := by
  show (decide (wName = wText) && decide (n = [])) = false
  rw [decide_eq_false nNT]
  rfl
theorem cons_ok {t : Tr} {o : Out} {ts r} (h : o.cons t = .ok ts r) : ∃ ts', o = .ok ts' r ∧ ts = t :: ts' := by
  cases o with
  | ok a b => cases h; exact ⟨a, rfl, rfl⟩
  | er k => cases h
theorem told_all (K : Nat) {w : Nat} {l : List Nat} {o : Out} (d : DScr w l o) : M1 K w l o := by
  refine DScr.rec (motive_1 := fun w l o _ => M1 K w l o) (motive_2 := fun w l o _ => M2 K w l o) (motive_3 := fun w l o _ => M3 K w l o) (motive_4 := fun w _ l o _ => M4 K w l o) (motive_5 := fun w l o _ => M5 K w l o) (motive_6 := fun w l o _ => M6 K w l o)
    ?s1 ?s2 ?s3 ?s4 ?s5 ?c1 ?c2 ?c3 ?c4 ?w1 ?w2 ?w3 ?w4 ?w5 ?w6 ?w7 ?w8 ?q1 ?q2 ?q3 ?q4 ?b1 ?b2 ?b3 ?p1 ?p2 ?p3 ?p4 ?p5 ?p6 ?p7 ?p8 ?p9 d
  case s5 | c4 | w2 | w3 | w5 | w6 | w8 | q2 | q4 | b3 | p2 | p4 | p6 | p7 | p8 => all_goals (intros; intro a b e; cases e)
  case s1 =>
    intro w r h cs r1 e hw hok hl
    cases e
    refine ⟨?_, by simp, by show 0 + _ ≤ _; omega, fun c h => h⟩
    rw [show 13 - w = (12 - w) + 1 by omega]
    exact ⟨Nat.zero_le _, fun c hc => (by cases hc)⟩
  case s2 =>
    intro w c r o h hc d ih cs r1 e hw hok hl
    obtain ⟨h1, h2, h3, h4⟩ := ih cs r1 e hw (fun x hx => hok x (List.mem_cons_of_mem _ hx)) (by simp at hl; omega)
    exact ⟨h1, by simp; omega, by rw [List.length_cons]; omega, fun c h => List.mem_cons_of_mem _ (h4 c h)⟩
  case s3 =>
    intro w r o h d ih cs r1 e hw hok hl
    obtain ⟨e1, e2⟩ := dropRem_all r
    obtain ⟨h1, h2, h3, h4⟩ := ih cs r1 e hw (fun x hx => hok x (List.mem_cons_of_mem _ (e2 x hx))) (by simp at hl; omega)
    exact ⟨h1, by simp; omega, by rw [List.length_cons]; omega, fun c h => List.mem_cons_of_mem _ (e2 c (h4 c h))⟩
  case s4 =>
    intro w c r r1 ts o h hc d d2 ih1 ih2 cs r2 e hw hok hl
    obtain ⟨cs', rfl, rfl⟩ := cons_ok e
    obtain ⟨g1, g2, g3, g4, g5⟩ := ih1 ts r1 rfl hw hok hl
    obtain ⟨h1, h2, h3, h4⟩ := ih2 cs' r2 rfl hw (fun x hx => hok x (g4 x hx)) (by omega)
    have g6 := g5 h
    refine ⟨?_, by rw [List.length_cons]; omega, ?_, fun c h => g4 c (h4 c h)⟩
    · rw [show 13 - w = (12 - w) + 1 by omega] at h1 ⊢
      refine ⟨by rw [List.length_cons]; omega, fun x hx => ?_⟩
      rcases List.mem_cons.mp hx with rfl | hx
      · exact ⟨ts, rfl, fun z => (by rw [z] at g6; simp at g6), by omega, g1⟩
      · exact h1.2 x hx
    · show (tszs ts + 1) + tszs cs' + _ ≤ _
      omega
  case c1 =>
    intro w r h ws r1 e hw hok hl
    cases e
    refine ⟨fun x hx => (by cases hx), by simp, by show 0 + 0 + _ ≤ _; omega, fun c h => h, fun hb => ?_⟩
    rw [bC_bW h] at hb
    cases hb
  case c2 =>
    intro w c r o h hc d ih ws r1 e hw hok hl
    obtain ⟨h1, h2, h3, h4, h5⟩ := ih ws r1 e hw (fun x hx => hok x (List.mem_cons_of_mem _ hx)) (by simp at hl; omega)
    refine ⟨h1, by simp; omega, by rw [List.length_cons]; omega, fun c h => List.mem_cons_of_mem _ (h4 c h), fun hb => ?_⟩
    rw [hc] at hb
    cases hb
  case c3 =>
    intro w c r r1 t o h d d2 ih1 ih2 ws r2 e hw hok hl
    obtain ⟨ws', rfl, rfl⟩ := cons_ok e
    obtain ⟨t', et, g1, g2, g3, g4⟩ := ih1 [t] r1 rfl hw hok hl h
    cases et
    obtain ⟨h1, h2, h3, h4, h5⟩ := ih2 ws' r2 rfl hw (fun x hx => hok x (g4 x hx)) (by omega)
    refine ⟨fun x hx => ?_, by rw [List.length_cons]; omega, ?_, fun c h => g4 c (h4 c h), fun _ => by simp⟩
    · rcases List.mem_cons.mp hx with rfl | hx
      · exact g1
      · exact h1 x hx
    · show tsz t + tszs ws' + (ws'.length + 1) + _ ≤ _
      omega
  case w1 =>
    intro w e r h he ts r1 ee hw hok hl hb
    cases ee
    have h' : pend (0 + 1) (0 + 1) r = some e := h
    obtain ⟨p1, p2⟩ := pend_lt _ _ _ _ h'
    have hrl : (r.drop e).length = r.length - e := List.length_drop
    have hdm : ∀ c ∈ r.drop e, c ∈ 123 :: r := fun c hc => List.mem_cons_of_mem _ (List.mem_of_mem_drop hc)
    rw [List.length_cons] at hl ⊢
    by_cases h1 : e = 1
    · rw [if_pos h1]
      refine ⟨_, rfl, ⟨[], rfl, Nat.zero_le _, fun p h => (by cases h), fun p h => (by cases h), trivial⟩, by omega, ?_, hdm⟩
      show 0 + 1 + 1 + _ ≤ _
      omega
    · rw [if_neg h1]
      have htl : (r.take (e - 1)).length = e - 1 := by rw [List.length_take]; omega
      refine ⟨_, rfl, ⟨_, rfl, by simp; omega, fun p hp => ?_, fun p hp => ?_, ⟨fun z h => (by cases h), trivial⟩⟩, by omega, ?_, hdm⟩
      · rw [List.mem_singleton.mp hp]
        exact .inl ⟨_, rfl, by omega, fun c hc => hok c (List.mem_cons_of_mem _ (List.mem_of_mem_take hc))⟩
      · rw [List.mem_singleton.mp hp]
        show (decide (wText = wText) && decide (r.take (e - 1) = [])) = false
        rw [decide_eq_false (show ¬ (r.take (e - 1) = []) from fun z => by rw [z] at htl; simp at htl; omega)]
        rfl
      · show (tsz (tx (r.take (e - 1))) + 0) + 1 + 1 + _ ≤ _
        rw [tsz_tx]
        omega
  case w4 =>
    intro w r r1 ps d he ih ts r2 ee hw hok hl hb
    cases ee
    rw [List.length_cons] at hl ⊢
    obtain ⟨h1, h2, h3, h4⟩ := ih ps r1 rfl hw (fun x hx => hok x (List.mem_cons_of_mem _ hx)) (by omega)
    obtain ⟨j1, j2⟩ := joinP_all (K := K) (by omega) h1
    refine ⟨_, rfl, j1, by omega, ?_, fun c h => List.mem_cons_of_mem _ (h4 c h)⟩
    show tszs (joinP ps) + 1 + 1 + _ ≤ _
    omega
  case w7 =>
    intro w c r r1 ps n1 n2 d he ih ts r2 ee hw hok hl hb
    cases ee
    obtain ⟨h1, h2, h3, h4, h5⟩ := ih ps r1 rfl hw hok hl
    have h6 := h5 hb
    obtain ⟨j1, j2⟩ := joinP_all (K := K) (by omega) h1
    refine ⟨_, rfl, j1, by omega, ?_, h4⟩
    show tszs (joinP ps) + 1 + 1 + _ ≤ _
    omega
  case q1 =>
    intro w q r ps r1 e hw hok hl
    cases e
    exact ⟨fun p h => (by cases h), by simp, by show 0 + _ + 10 ≤ _; rw [List.length_cons]; omega, fun c h => List.mem_cons_of_mem _ h⟩
  case q3 =>
    intro w q c r r1 t o h d d2 ih1 ih2 ps r2 e hw hok hl
    obtain ⟨ps', rfl, rfl⟩ := cons_ok e
    obtain ⟨p, ep, g1, g2, g3, g4, g5⟩ := ih1 [t] r1 rfl hw hok hl
    cases ep
    obtain ⟨h1, h2, h3, h4⟩ := ih2 ps' r2 rfl hw (fun x hx => hok x (g5 x hx)) (by omega)
    refine ⟨fun x hx => ?_, by rw [List.length_cons]; omega, ?_, fun c h => g5 c (h4 c h)⟩
    · rcases List.mem_cons.mp hx with rfl | hx
      · exact ⟨g1, g2⟩
      · exact h1 x hx
    · show tsz t + tszs ps' + _ + 10 ≤ _
      omega
  case b1 =>
    intro w r h ps r1 e hw hok hl
    cases e
    refine ⟨fun p h => (by cases h), by simp, by show 0 + 0 + _ ≤ _; omega, fun c h => h, fun hb => ?_⟩
    rw [h] at hb
    cases hb
  case b2 =>
    intro w c r r1 t o h d d2 ih1 ih2 ps r2 e hw hok hl
    obtain ⟨ps', rfl, rfl⟩ := cons_ok e
    obtain ⟨p, ep, g1, g2, g3, g4, g5⟩ := ih1 [t] r1 rfl hw hok hl
    cases ep
    obtain ⟨h1, h2, h3, h4, h5⟩ := ih2 ps' r2 rfl hw (fun x hx => hok x (g5 x hx)) (by omega)
    refine ⟨fun x hx => ?_, by rw [List.length_cons]; omega, ?_, fun c h => g5 c (h4 c h), fun _ => by simp⟩
    · rcases List.mem_cons.mp hx with rfl | hx
      · exact ⟨g1, g2⟩
      · exact h1 x hx
    · show tsz t + tszs ps' + 2 * (ps'.length + 1) + _ ≤ _
      omega
  case p1 =>
    intro w d r ts r1 e hw hok hl
    cases e
    have hd : d < 1114112 := hok d (by simp)
    have hm : mean d < 1114112 := by unfold mean; split <;> omega
    refine ⟨_, rfl, .inl ⟨_, rfl, Nat.le_refl _, fun c hc => by rw [List.mem_singleton.mp hc]; exact hm⟩, isE_sg _, by simp; omega, ?_, fun c h => List.mem_cons_of_mem _ (List.mem_cons_of_mem _ h)⟩
    rw [tsz_tx]
    simp
    omega
  case p3 =>
    intro w r n r1 h ts r2 e hw hok hl
    cases e
    obtain ⟨f1, f2, f3, f4, f5⟩ := name_facts h
    refine ⟨_, rfl, .inr (.inl ⟨n, rfl, f1, f2, f3⟩), isE_nm n, by simp; omega, ?_, fun c h => List.mem_cons_of_mem _ (f5 c h)⟩
    rw [tsz_nm]
    simp
    omega
  case p5 =>
    intro w r r1 cs h d ih ts r2 e hw hok hl
    cases e
    rw [List.length_cons] at hl ⊢
    obtain ⟨h1, h2, h3, h4⟩ := ih cs (93 :: r1) rfl (by omega) (fun x hx => hok x (List.mem_cons_of_mem _ hx)) (by omega)
    rw [List.length_cons] at h2 h3
    rw [show 13 - (w + 1) = 12 - w by omega] at h1
    refine ⟨_, rfl, .inr (.inr ⟨cs, rfl, h1⟩), rfl, by omega, ?_, fun c h => List.mem_cons_of_mem _ (h4 c (List.mem_cons_of_mem _ h))⟩
    rw [tsz_rn]
    omega
  case p9 =>
    intro w c r n1 n2 n3 ts r1 e hw hok hl
    cases e
    refine ⟨_, rfl, .inl ⟨_, rfl, Nat.le_refl _, fun x hx => by rw [List.mem_singleton.mp hx]; exact hok c (by simp)⟩, isE_sg _, by simp, ?_, fun c h => List.mem_cons_of_mem _ h⟩
    rw [tsz_tx]
    simp
    omega
/-- what is told of reading a text is written to a text that is read to the same -/
theorem read_write {l : List Nat} {cs : List Tr} {r : List Nat} (h : DScr 0 l (.ok cs r)) (hok : OkS l) : RunK l.length 13 cs ∧ tszs cs ≤ 10 * l.length ∧ DScr 0 (wr 13 cs) (.ok cs []) := by
  obtain ⟨h1, h2, h3, h4⟩ := told_all l.length h cs r rfl (by decide) hok (Nat.le_refl _)
  have h1' : RunK l.length 13 cs := h1
  refine ⟨h1', by omega, ?_⟩
  have := (wr_read l.length 13 cs (wr 13 cs) h1' rfl).2 0 [] (by decide) rfl
  rwa [List.append_nil] at this
end My
namespace My
open PySem L2 SX C8
/-! ### how deep does not matter -/
theorem pcT_more {R : List Tr → Prop} {k : Nat} {T U : List Tr → List Nat} (h : ∀ cs, R cs → T cs = U cs) {p : Tr} (hp : PcW R k p) (l : List Nat) : pcT T l p = pcT U l p := by
  rcases hp with ⟨w, rfl, _⟩ | ⟨n, rfl, _⟩ | ⟨cs, rfl, hR⟩
  · rw [pcT_tx, pcT_tx]
  · rw [pcT_nm, pcT_nm]
  · rw [pcT_rn, pcT_rn, h cs hR]
theorem pcsT_more {R : List Tr → Prop} {k : Nat} {T U : List Tr → List Nat} (h : ∀ cs, R cs → T cs = U cs) : ∀ ps : List Tr, (∀ p ∈ ps, PcW R k p) → pcsT T ps = pcsT U ps
  | [], _ => rfl
  | p :: r, hp => by
    have ih := pcsT_more h r fun x hx => hp x (List.mem_cons_of_mem _ hx)
    show pcT T (pcsT T r) p ++ pcsT T r = pcT U (pcsT U r) p ++ pcsT U r
    rw [ih, pcT_more h (hp p List.mem_cons_self)]
theorem wdT_more {R : List Tr → Prop} {k : Nat} {T U : List Tr → List Nat} (h : ∀ cs, R cs → T cs = U cs) {t : Tr} (ht : WdK R k t) : wdT T t = wdT U t := by
  obtain ⟨ps, rfl, _, hP, _⟩ := ht
  show wdL T ps = wdL U ps
  unfold wdL
  rw [pcsT_more h ps hP]
theorem cmT_more {R : List Tr → Prop} {k : Nat} {T U : List Tr → List Nat} (h : ∀ cs, R cs → T cs = U cs) {t : Tr} (ht : CmK R k t) : cmT T t = cmT U t := by
  obtain ⟨ws, rfl, _, _, hW⟩ := ht
  show TL.joinL [32] (ws.map (wdT T)) = TL.joinL [32] (ws.map (wdT U))
  rw [List.map_congr_left fun x hx => wdT_more h (hW x hx)]
theorem wr_more (k : Nat) : ∀ (d e : Nat) (cs : List Tr), RunK k d cs → d ≤ e → wr d cs = wr e cs
  | 0, _, _, h, _ => h.elim
  | d + 1, 0, _, _, hl => absurd hl (by omega)
  | d + 1, e + 1, cs, h, hl => by
    show TL.joinL [59, 32] (cs.map (cmT (wr d))) = TL.joinL [59, 32] (cs.map (cmT (wr e)))
    rw [List.map_congr_left fun x hx => cmT_more (fun cs' h' => wr_more k d e cs' h' (by omega)) (h.2 x hx)]
theorem runK_more (k : Nat) : ∀ (d e : Nat) (cs : List Tr), RunK k d cs → d ≤ e → RunK k e cs
  | 0, _, _, h, _ => h.elim
  | d + 1, 0, _, _, hl => absurd hl (by omega)
  | d + 1, e + 1, cs, h, hl => ⟨h.1, fun c hc => by
    obtain ⟨ws, rfl, hne, hw, hW⟩ := h.2 c hc
    refine ⟨ws, rfl, hne, hw, fun x hx => ?_⟩
    obtain ⟨ps, rfl, hp9, hP, hE, hN⟩ := hW x hx
    refine ⟨ps, rfl, hp9, fun p hp => ?_, hE, hN⟩
    rcases hP p hp with h1 | h1 | ⟨cs', rfl, hR⟩
    · exact .inl h1
    · exact .inr (.inl h1)
    · exact .inr (.inr ⟨cs', rfl, runK_more k d e cs' hR (by omega)⟩)⟩
theorem runW_K : ∀ (d : Nat) (cs : List Tr), RunW d cs → RunK 15 d cs
  | 0, _, h => h
  | d + 1, cs, h => ⟨by have := h.1; omega, fun c hc => by
    obtain ⟨ws, rfl, h3, h1, hW⟩ := h.2 c hc
    refine ⟨ws, rfl, fun z => (by rw [z] at h1; simp at h1), by omega, fun x hx => ?_⟩
    obtain ⟨ps, rfl, h9, hP, hE, hN⟩ := hW x hx
    refine ⟨ps, rfl, by omega, fun p hp => ?_, hE, hN⟩
    rcases hP p hp with h1 | h1 | ⟨cs', rfl, hR⟩
    · exact .inl h1
    · exact .inr (.inl h1)
    · exact .inr (.inr ⟨cs', rfl, runW_K d cs' hR⟩)⟩
/-! ### how long -/
theorem tszs_mem : ∀ {l : List Tr} {t : Tr}, t ∈ l → tsz t ≤ tszs l
  | x :: r, t, h => by
    show tsz t ≤ tsz x + tszs r
    rcases List.mem_cons.mp h with rfl | h
    · omega
    · have := tszs_mem h; omega
theorem tszs_pos : ∀ (l : List Tr), l.length ≤ tszs l
  | [] => Nat.le_refl _
  | x :: r => by
    have ih := tszs_pos r
    have : 1 ≤ tsz x := by cases x <;> (unfold tsz; omega)
    show r.length + 1 ≤ tsz x + tszs r
    omega
theorem sum_join {sep : List Nat} {f : Tr → List Nat} {s : Nat} : ∀ (l : List Tr), (∀ t ∈ l, (f t).length + s ≤ 4 * tsz t) → sep.length ≤ s → (TL.joinL sep (l.map f)).length ≤ 4 * tszs l
  | [], _, _ => Nat.zero_le _
  | [t], h, _ => by
    have := h t (by simp)
    show (f t).length ≤ 4 * (tsz t + 0)
    omega
  | t :: u :: r, h, hs => by
    have ih := sum_join (sep := sep) (f := f) (u :: r) (fun x hx => h x (List.mem_cons_of_mem _ hx)) hs
    have := h t (by simp)
    have e : TL.joinL sep ((t :: u :: r).map f) = f t ++ (sep ++ TL.joinL sep ((u :: r).map f)) := rfl
    rw [e, List.length_append, List.length_append]
    show _ ≤ 4 * (tsz t + tszs (u :: r))
    omega
theorem pcT_le4 {R : List Tr → Prop} {k : Nat} {T : List Tr → List Nat} (h : ∀ cs, R cs → (T cs).length ≤ 4 * tszs cs) {p : Tr} (hp : PcW R k p) (l : List Nat) : (pcT T l p).length ≤ 4 * tsz p := by
  rcases hp with ⟨w, rfl, _⟩ | ⟨n, rfl, _⟩ | ⟨cs, rfl, hR⟩
  · rw [pcT_tx, tsz_tx]
    have := turn_len w
    omega
  · rw [pcT_nm, tsz_nm]
    split <;> simp <;> omega
  · rw [pcT_rn, tsz_rn]
    have := h cs hR
    simp
    omega
theorem pcsT_le4 {R : List Tr → Prop} {k : Nat} {T : List Tr → List Nat} (h : ∀ cs, R cs → (T cs).length ≤ 4 * tszs cs) : ∀ ps : List Tr, (∀ p ∈ ps, PcW R k p) → (pcsT T ps).length ≤ 4 * tszs ps
  | [], _ => Nat.zero_le _
  | p :: r, hp => by
    have ih := pcsT_le4 h r fun x hx => hp x (List.mem_cons_of_mem _ hx)
    have := pcT_le4 h (hp p List.mem_cons_self) (pcsT T r)
    show (pcT T (pcsT T r) p ++ pcsT T r).length ≤ 4 * (tsz p + tszs r)
    rw [List.length_append]
    omega
theorem txl_le4 {R : List Tr → Prop} {k : Nat} : ∀ ps : List Tr, (∀ p ∈ ps, PcW R k p) → (txl ps).flatten.length ≤ tszs ps
  | [], _ => Nat.zero_le _
  | p :: r, h => by
    have ih := txl_le4 r fun x hx => h x (List.mem_cons_of_mem _ hx)
    unfold txl at ih ⊢
    rw [List.filterMap_cons]
    show _ ≤ tsz p + tszs r
    rcases h p List.mem_cons_self with ⟨w, rfl, _⟩ | ⟨n, rfl, _⟩ | ⟨cs, rfl, _⟩
    · rw [txo_tx, List.flatten_cons, List.length_append, tsz_tx]
      omega
    · rw [show txo (nm n) = none by simp [txo, nm, nNT]]
      show (List.filterMap txo r).flatten.length ≤ _
      omega
    · rw [show txo (rn cs) = none from rfl]
      show (List.filterMap txo r).flatten.length ≤ _
      omega
theorem wdT_le4 {R : List Tr → Prop} {k : Nat} {T : List Tr → List Nat} (h : ∀ cs, R cs → (T cs).length ≤ 4 * tszs cs) {t : Tr} (ht : WdK R k t) : (wdT T t).length + 1 ≤ 4 * tsz t := by
  obtain ⟨ps, rfl, _, hP, _⟩ := ht
  show (wdL T ps).length + 1 ≤ 4 * (tszs ps + 1)
  unfold wdL
  split
  · have h1 := wtext_le9 (txl ps).flatten
    have h2 := txl_le4 ps hP
    omega
  · have := pcsT_le4 h ps hP
    omega
theorem cmT_le4 {R : List Tr → Prop} {k : Nat} {T : List Tr → List Nat} (h : ∀ cs, R cs → (T cs).length ≤ 4 * tszs cs) {t : Tr} (ht : CmK R k t) : (cmT T t).length + 2 ≤ 4 * tsz t := by
  obtain ⟨ws, rfl, _, _, hW⟩ := ht
  have := sum_join (sep := [32]) (f := wdT T) (s := 1) ws (fun x hx => wdT_le4 h (hW x hx)) (Nat.le_refl _)
  show (TL.joinL [32] (ws.map (wdT T))).length + 2 ≤ 4 * (tszs ws + 1)
  omega
theorem wr_le4 (k : Nat) : ∀ (d : Nat) (cs : List Tr), RunK k d cs → (wr d cs).length ≤ 4 * tszs cs
  | 0, _, h => h.elim
  | d + 1, cs, h => sum_join (sep := [59, 32]) (f := cmT (wr d)) (s := 2) cs (fun x hx => cmT_le4 (wr_le4 k d) (h.2 x hx)) (Nat.le_refl _)
def Sz : Nat → Nat
  | 0 => 0
  | d + 1 => 18 * Sz d + 410
theorem tszs_le {k : Nat} : ∀ (l : List Tr), (∀ t ∈ l, tsz t ≤ k) → tszs l ≤ l.length * k
  | [], _ => Nat.zero_le _
  | t :: r, h => by
    have ih := tszs_le r fun x hx => h x (List.mem_cons_of_mem _ hx)
    have := h t List.mem_cons_self
    rw [List.length_cons, Nat.succ_mul]
    show tsz t + tszs r ≤ _
    omega
theorem tszs_W : ∀ (d : Nat) (cs : List Tr), RunW d cs → tszs cs ≤ Sz d
  | 0, _, h => h.elim
  | d + 1, cs, h => by
    have h1 := tszs_le (k := 4 + 9 * (Sz d + 22)) cs fun c hc => by
      obtain ⟨ws, rfl, h3, _, hW⟩ := h.2 c hc
      have h2 := tszs_le (k := 1 + 3 * (Sz d + 22)) ws fun x hx => by
        obtain ⟨ps, rfl, h3, hP, _⟩ := hW x hx
        have h4 := tszs_le (k := Sz d + 22) ps fun p hp => by
          rcases hP p hp with ⟨w, rfl, h5, _⟩ | ⟨n, rfl, _, h5, _⟩ | ⟨cs', rfl, hR⟩
          · rw [tsz_tx]; omega
          · rw [tsz_nm]; omega
          · rw [tsz_rn]
            have := tszs_W d cs' hR
            omega
        have h5 : ps.length * (Sz d + 22) ≤ 3 * (Sz d + 22) := Nat.mul_le_mul_right _ h3
        show tszs ps + 1 ≤ _
        omega
      have h5 : ws.length * (1 + 3 * (Sz d + 22)) ≤ 3 * (1 + 3 * (Sz d + 22)) := Nat.mul_le_mul_right _ h3
      show tszs ws + 1 ≤ _
      omega
    have h5 : cs.length * (4 + 9 * (Sz d + 22)) ≤ 2 * (4 + 9 * (Sz d + 22)) := Nat.mul_le_mul_right _ h.1
    show _ ≤ 18 * Sz d + 410
    omega
theorem good_K {k : Nat} (hk : k ≤ 3000) : ∀ (d : Nat) (cs : List Tr), RunK k d cs → Good (4 * d) (.n cs)
  | 0, _, h => h.elim
  | d + 1, cs, h => by
    rw [show 4 * (d + 1) = 4 * d + 3 + 1 by omega]
    refine ⟨by have := h.1; omega, fun c hc => ?_⟩
    obtain ⟨ws, rfl, _, hw, hW⟩ := h.2 c hc
    refine ⟨by omega, fun x hx => ?_⟩
    obtain ⟨ps, rfl, hp9, hP, _⟩ := hW x hx
    refine ⟨by omega, fun p hp => ?_⟩
    rcases hP p hp with ⟨w, rfl, _, h2⟩ | ⟨n, rfl, _, _, h2⟩ | ⟨cs', rfl, h2⟩
    · exact good_tx h2
    · refine ⟨(by show 2 ≤ 3000; decide), fun t ht => ?_⟩
      have e1 : ∀ c ∈ wName, c < 1114112 := by decide
      have e2 : ∀ c ∈ n, c < 1114112 := fun c hc => by
        have := h2 c hc
        unfold low at this
        simp at this
        omega
      rcases List.mem_cons.mp ht with rfl | ht
      · cases d <;> exact e1
      · rw [List.mem_singleton.mp ht]
        cases d <;> exact e2
    · have ih := good_K hk d cs' h2
      refine ⟨(by show 2 ≤ 3000; decide), fun t ht => ?_⟩
      have e1 : ∀ c ∈ wRun, c < 1114112 := by decide
      rcases List.mem_cons.mp ht with rfl | ht
      · cases d <;> exact e1
      · rw [List.mem_singleton.mp ht]
        exact ih
/-- the promise of a def that writes scripts: a list of commands, runs at most twelve deep -/
def spWritG : Sp := fun vs H Q _ => ∃ (a : Addr) (us : List V) (cs : List Tr) (k : Nat), vs = [.ref a] ∧ H a = some (.lst us) ∧ TrsAt H us cs ∧ RunK k 13 cs ∧ k ≤ 3000 ∧ tszs cs ≤ 3000000 ∧ ∀ H', Same H H' → Q (.str (S (wr 13 cs))) H'
end My
namespace My
open PySem L2 SX C8
theorem lit_boP : (Str.ofString "[") = S [91] := by decide +kernel
theorem lit_bcP : (Str.ofString "]") = S [93] := by decide +kernel
theorem lit_dlP : (Str.ofString "$") = S [36] := by decide +kernel
theorem lit_doP : (Str.ofString "${") = S [36, 123] := by decide +kernel
theorem lit_blP : (Str.ofString " ") = S [32] := by decide +kernel
theorem lit_scP : (Str.ofString "; ") = S [59, 32] := by decide +kernel
theorem sum_SP (ws : List (List Nat)) : ((ws.map S).map (·.length)).sum = ws.flatten.length := by
  induction ws with
  | nil => rfl
  | cons w r ih => rw [List.map_cons, List.map_cons, List.sum_cons, ih, S_len, List.flatten_cons, List.length_append]
theorem sqT_sameP {K : PySem.W.Frag} {H H' : Hp} {a : Addr} {xs : List V} (e : Same H H') (h : SqT K H a xs) : SqT K H' a xs := by
  rcases h with (h | ⟨o, h⟩) | h
  · exact .inl (.inl (e _ _ h))
  · exact .inl (.inr ⟨o, e _ _ h⟩)
  · exact .inr h
/-- what a piece's tuple holds -/
def PcV (R : List Tr → Prop) (k : Nat) (H : Hp) (kd : List Nat) (y : V) (t : Tr) : Prop :=
  (kd = wText ∧ ∃ w, t = tx w ∧ y = .str (S w) ∧ w.length ≤ k) ∨ (kd = wName ∧ ∃ n, t = nm n ∧ y = .str (S n) ∧ n.length ≤ 8) ∨ (kd = wRun ∧ ∃ cs, t = rn cs ∧ TrAt H y (.n cs) ∧ R cs)
theorem pc_twoP {R : List Tr → Prop} {k : Nat} {H : Hp} {v : V} {t : Tr} (h : TrAt H v t) (hp : PcW R k t) : ∃ a kd y, v = .ref a ∧ H a = some (.tup [.str (S kd), y]) ∧ PcV R k H kd y t := by
  rcases hp with ⟨w, rfl, h1, h2⟩ | ⟨n, rfl, h1, h2, h3⟩ | ⟨cs, rfl, h1⟩
  · obtain ⟨a, y, h3, h4, h5⟩ := TrAt.two h
    exact ⟨a, wText, y, h3, h4, .inl ⟨rfl, w, rfl, h5.inv_s, h1⟩⟩
  · obtain ⟨a, y, h4, h5, h6⟩ := TrAt.two h
    exact ⟨a, wName, y, h4, h5, .inr (.inl ⟨rfl, n, rfl, h6.inv_s, h2⟩)⟩
  · obtain ⟨a, y, h4, h5, h6⟩ := TrAt.two h
    exact ⟨a, wRun, y, h4, h5, .inr (.inr ⟨rfl, cs, rfl, h6, h1⟩)⟩
theorem PcV.mono {R : List Tr → Prop} {k : Nat} {H H' : Hp} {kd : List Nat} {y : V} {t : Tr} (e : Same H H') (h : PcV R k H kd y t) : PcV R k H' kd y t := by
  rcases h with h | h | ⟨h1, cs, h2, h3, h4⟩
  · exact .inl h
  · exact .inr (.inl h)
  · exact .inr (.inr ⟨h1, cs, h2, h3.mono (Same.tups e), h4⟩)
def CmAtP (H : Hp) (v : V) (cs : List Tr) : Prop := ∃ a us, v = .ref a ∧ (H a = some (.lst us) ∨ H a = some (.tup us)) ∧ TrsAt H us cs
def spPcP (n : Nat) : Sp := fun vs H Q _ => ∃ (kd : List Nat) (y : V) (p : Tr) (l : List Nat) (d k : Nat), vs = [.str (S kd), y, .str (S l)] ∧ PcV (RunK k d) k H kd y p ∧ d ≤ n ∧ k ≤ 3000 ∧ tsz p ≤ 3000000 ∧ l.length ≤ 13000000 ∧ ∀ H', Same H H' → Q (.str (S (pcT (wr d) l p))) H'
def spWdP (n : Nat) : Sp := fun vs H Q _ => ∃ (v : V) (t : Tr) (d k : Nat), vs = [v] ∧ TrAt H v t ∧ WdK (RunK k d) k t ∧ d ≤ n ∧ k ≤ 3000 ∧ tsz t ≤ 3000000 ∧ ∀ H', Same H H' → Q (.str (S (wdT (wr d) t))) H'
def spCmP (n : Nat) : Sp := fun vs H Q _ => ∃ (v : V) (t : Tr) (d k : Nat), vs = [v] ∧ TrAt H v t ∧ CmK (RunK k d) k t ∧ d ≤ n ∧ k ≤ 3000 ∧ tsz t ≤ 3000000 ∧ ∀ H', Same H H' → Q (.str (S (cmT (wr d) t))) H'
def spWrP : Nat → Sp
  | 0 => fun _ _ _ _ => False
  | n + 1 => fun vs H Q _ => ∃ (v : V) (cs : List Tr) (d k : Nat), vs = [v] ∧ CmAtP H v cs ∧ d ≤ n ∧ k ≤ 3000 ∧ RunK k (d + 1) cs ∧ tszs cs ≤ 3000000 ∧ ∀ H', Same H H' → Q (.str (S (wr (d + 1) cs))) H'
theorem pcT_hd (R : List Tr → List Nat) {l l' : List Nat} (h : hdLow l = hdLow l') {Q : List Tr → Prop} {k : Nat} {p : Tr} (hp : PcW Q k p) : pcT R l p = pcT R l' p := by
  rcases hp with ⟨w, rfl, _⟩ | ⟨n, rfl, _⟩ | ⟨cs, rfl, _⟩
  · rw [pcT_tx, pcT_tx]
  · rw [pcT_nm, pcT_nm, h]
  · rw [pcT_rn, pcT_rn]
theorem tsig_ne (c : Nat) : tsig c ≠ [] := by
  unfold tsig
  split
  · simp
  · split <;> simp
theorem pcT_ne (R : List Tr → List Nat) (l : List Nat) {Q : List Tr → Prop} {k : Nat} {p : Tr} (hp : PcW Q k p) (hE : isE p = false) : pcT R l p ≠ [] := by
  rcases hp with ⟨w, rfl, _⟩ | ⟨n, rfl, _⟩ | ⟨cs, rfl, _⟩
  · rw [pcT_tx]
    cases w with
    | nil => simp [isE, tx] at hE
    | cons c r =>
      show (tsig c ++ turn r) ≠ []
      intro z
      exact tsig_ne c (List.append_eq_nil_iff.mp z).1
  · rw [pcT_nm]
    split <;> simp
  · rw [pcT_rn]
    simp
theorem hdLow_app {a b : List Nat} (h : a ≠ []) : hdLow (a ++ b) = hdLow a := by
  cases a with
  | nil => exact absurd rfl h
  | cons c r => rfl
theorem tszs_drop : ∀ (l : List Tr) (j : Nat), tszs (l.drop j) ≤ tszs l
  | [], j => by simp
  | t :: r, 0 => Nat.le_refl _
  | t :: r, j + 1 => by
    have := tszs_drop r j
    show tszs (r.drop j) ≤ tsz t + tszs r
    omega
theorem sum_flat {f : Tr → List Nat} {s : Nat} : ∀ (l : List Tr), (∀ t ∈ l, (f t).length + s ≤ 4 * tsz t) → (l.map f).flatten.length + l.length * s ≤ 4 * tszs l
  | [], _ => by simp [tszs]
  | t :: r, h => by
    have ih := sum_flat (s := s) r fun x hx => h x (List.mem_cons_of_mem _ hx)
    have := h t (by simp)
    rw [List.map_cons, List.flatten_cons, List.length_append, List.length_cons, Nat.succ_mul]
    show _ ≤ 4 * (tsz t + tszs r)
    omega
section
variable {P : Program} {w : World} {K : PySem.W.Frag} {mg : Str → Option Value} {base : Heap}
theorem ok_piece_text {f : Addr} {fd : FuncData} (F : Def K mg "piece_text" s_piece_text f fd) (b : Binds K fd ["kind", "worth", "behind"] []) (T : Txt mg) (c_turned : Cal P w K mg base 2 "turned" spTurned []) (c_is_letter : Cal P w K mg base 1 "is_letter" spLetterP []) {n : Nat} (c_written : Cal P w K mg base (3 + 4 * n) "written" (spWrP n) []) : Cal P w K mg base (4 + 4 * n) "piece_text" (spPcP n) [] := by
  rw [show 4 + 4 * n = (3 + 4 * n) + 1 by omega]
  refine cal0 F b .nil sc_piece_text (fun vs H Q E h => ?_) (fun cdv A outer s H vs Q E hr h => ?_)
  · obtain ⟨kd, y, p, l, d, k, rfl, _⟩ := h
    rfl
  obtain ⟨kd, y, p, l, d, k, rfl, hk, hd, hk3, hz, hl, q⟩ := h
  refine ⟨_, pss_cons (ps_if (pt_cmpR op_eq (pv 0) pe_str (nomark _))
      (pss_one (ps_ret (pe_c c_turned hr (by first | decide | assumption | omega) rfl (pa_cons (pv 1) pa_nil))))
      (pss_nil))
    (pss_cons (ps_if (pt_cmpR op_eq (pv 0) pe_str (nomark _))
      (pss_one (ps_ret (pe_op op_add_str (pe_op op_add_str pe_str (pe_c c_written hr (by first | decide | assumption | omega) rfl (pa_cons (pv 1) pa_nil))) pe_str)))
      (pss_nil))
    (pss_cons (ps_if (PW.pt (pw_and (pt_cmpR op_ne (pv 2) pe_str (nomark _)) (pw_and1 (pt_val (pe_c c_is_letter hr (by first | decide | assumption | omega) rfl (pa_cons (pe_ix ix_str (pv 2) pe_int (fun _ _ => rfl)) pa_nil))))))
      (pss_one (ps_ret (pe_op op_add_str (pe_op op_add_str pe_str (pv 1)) pe_str)))
      (pss_nil))
    (pss_one (ps_ret (pe_op op_add_str pe_str (pv 1)))))), ?_⟩
  have szA : ∀ {x y : List Nat}, x.length + y.length ≤ 14000000 → (S x).length + (S y).length ≤ sizeLine := fun {x y} h => by rw [S_len, S_len]; exact Nat.le_trans h (by decide)
  refine ⟨_, rfl, rfl, _, rfl, ite_S lit_text (fun ek => ?_) (fun nk => ?_)⟩
  · rcases hk with ⟨_, w, rfl, rfl, hw⟩ | ⟨h, _⟩ | ⟨h, _⟩
    · refine ⟨_, rfl, w, rfl, by omega, fun H' s' => ?_⟩
      have := q H' s'
      rw [pcT_tx] at this
      exact this
    · rw [h] at ek; exact absurd ek (by decide)
    · rw [h] at ek; exact absurd ek (by decide)
  · refine ⟨_, rfl, rfl, _, rfl, ite_S lit_run (fun ek => ?_) (fun nk2 => ?_)⟩
    · rcases hk with ⟨h, _⟩ | ⟨h, _⟩ | ⟨_, cs, rfl, hy, hR⟩
      · exact absurd h nk
      · rw [h] at ek; exact absurd ek (by decide)
      · obtain ⟨d', rfl⟩ : ∃ d', d = d' + 1 := by
          cases d with
          | zero => exact hR.elim
          | succ d' => exact ⟨d', rfl⟩
        obtain ⟨n', rfl⟩ : ∃ n', n = n' + 1 := ⟨n - 1, by omega⟩
        obtain ⟨a2, us2, rfl, ha2, hT2⟩ := hy.inv_n
        rw [tsz_rn] at hz
        refine ⟨_, rfl, _, cs, d', k, rfl, ⟨a2, us2, rfl, .inr ha2, hT2⟩, by omega, hk3, hR, by omega, fun H' s' => ?_⟩
        have hlen := wr_le4 k (d' + 1) cs hR
        refine ⟨_, _, rfl, rfl, ?_, _, _, rfl, rfl, ?_, ?_⟩
        · rw [lit_boP]; exact szA (by simp; omega)
        · rw [lit_boP, lit_bcP, S_cat]; exact szA (by simp; omega)
        · rw [lit_boP, lit_bcP, S_cat, S_cat]
          have := q H' s'
          rw [pcT_rn] at this
          simpa using this
    · rcases hk with ⟨h, _⟩ | ⟨_, nn, rfl, rfl, hn8⟩ | ⟨h, _⟩
      · exact absurd h nk
      · have qn := q H (Same.refl H)
        rw [pcT_nm] at qn
        have plain : hdLow l = false → ∃ v, some (some (V.str (S nn))) = some (some v) ∧ ∃ i j, V.str (Str.ofString "$") = .str i ∧ v = .str j ∧ i.length + j.length ≤ sizeLine ∧ Q (.str (i ++ j)) H := fun h => by
          refine ⟨_, rfl, _, _, rfl, rfl, ?_, ?_⟩
          · rw [lit_dlP]; exact szA (by simp; omega)
          · rw [lit_dlP, S_cat]
            rw [h] at qn
            exact qn
        cases l with
        | nil =>
          refine ⟨_, rfl, rfl, _, rfl, My.iteNS lit_e (fun h => absurd rfl h) (fun _ => ?_)⟩
          exact iteF (A := False) (plain rfl)
        | cons c r =>
          refine ⟨_, rfl, rfl, _, rfl, My.iteNS lit_e (fun _ => ?_) (fun h => by cases h)⟩
          have hsz : (S (c :: r)).length ≤ sizeLine := by rw [S_len]; exact Nat.le_trans hl (by decide)
          refine ⟨_, rfl, _, 0, c, rfl, rfl, hsz, at_S (l := c :: r) (i := 0) rfl, c, rfl, _, rfl, ?_⟩
          cases hlo : low c with
          | true =>
            refine iteT (B := False) ⟨_, rfl, _, _, rfl, rfl, ?_, _, _, rfl, rfl, ?_, ?_⟩
            · rw [lit_doP]; exact szA (by simp; omega)
            · rw [lit_doP, lit_cb, S_cat]; exact szA (by simp; omega)
            · rw [lit_doP, lit_cb, S_cat, S_cat]
              have e : hdLow (c :: r) = true := hlo
              rw [e] at qn
              simpa using qn
          | false => exact iteF (A := False) (plain hlo)
      · exact absurd (by rw [h]) nk2
theorem ok_pieces_text {f : Addr} {fd : FuncData} (F : Def K mg "pieces_text" s_pieces_text f fd) (b : Binds K fd ["pieces"] []) (T : Txt mg) (c_word_text : Cal P w K mg base 3 "word_text" spWtext []) {n : Nat} (c_piece_text : Cal P w K mg base (4 + 4 * n) "piece_text" (spPcP n) []) : Cal P w K mg base (5 + 4 * n) "pieces_text" (spWdP n) [] := by
  rw [show 5 + 4 * n = (4 + 4 * n) + 1 by omega]
  refine cal0 F b .nil sc_pieces_text (fun vs H Q E h => ?_) (fun cdv A outer s H vs Q E hr h => ?_)
  · obtain ⟨v, t, d, k, rfl, _⟩ := h
    rfl
  obtain ⟨v, t, d, k, rfl, hv, hW, hd, hk3, hz, q⟩ := h
  refine ⟨_, pss_cons (ps_if (pt_val (pe_callB (cr_all rfl) (by rfl) T.all (by decide +kernel) (pa_cons (pe_lc (own := [("kind", 2), ("_", 5)]) (g := gTup K 2 (gCons (gName 2) (gCons (gName 5) gNil))) (by rfl) sc_pieces_text.nd (pi_tup (pv 0)) (blkOk_by (own := [("kind", 2), ("_", 5)]) (N := N_pieces_text) (sc := fnScope s_pieces_text) (by decide +kernel)) (fun _ _ _ _ _ => (show PG _ _ (gTup K 2 (gCons (gName 2) (gCons (gName 5) gNil))) from pg_tup rfl ((pgs_cons (pg_name (i := 2) sc_pieces_text.nd rfl (Or.inl rfl)) (pgs_cons (pg_name (i := 5) sc_pieces_text.nd rfl (Or.inl rfl)) pgs_nil))))) (fun _ _ _ _ _ => pts_nil) (fun _ _ _ _ _ => (pe_cmpR op_eq (pv 2) pe_str (nomark _)))) pa_nil)))
      (pss_one (ps_ret (pe_c c_word_text hr (by first | decide | assumption | omega) rfl (pa_cons (pe_join pe_str (pe_lc (own := [("_", 5), ("worth", 3)]) (g := gTup K 2 (gCons (gName 5) (gCons (gName 3) gNil))) (by rfl) sc_pieces_text.nd (pi_tup (pv 0)) (blkOk_by (own := [("_", 5), ("worth", 3)]) (N := N_pieces_text) (sc := fnScope s_pieces_text) (by decide +kernel)) (fun _ _ _ _ _ => (show PG _ _ (gTup K 2 (gCons (gName 5) (gCons (gName 3) gNil))) from pg_tup rfl ((pgs_cons (pg_name (i := 5) sc_pieces_text.nd rfl (Or.inl rfl)) (pgs_cons (pg_name (i := 3) sc_pieces_text.nd rfl (Or.inl rfl)) pgs_nil))))) (fun _ _ _ _ _ => pts_nil) (fun _ _ _ _ _ => (pv 3)))) pa_nil))))
      (pss_nil))
    (pss_cons (ps_set (i := 1) sc_pieces_text.nd rfl (Or.inl rfl) (pe_lst pa_nil))
    (pss_cons (ps_for PassesOwn.never rfl (RT.pi_revA rfl T.reversed (pv 0)) (pg_tup rfl (pgs_cons (pg_name (i := 2) sc_pieces_text.nd rfl (Or.inl rfl)) (pgs_cons (pg_name (i := 3) sc_pieces_text.nd rfl (Or.inl rfl)) pgs_nil)))
      (pss_cons (ps_set (i := 4) sc_pieces_text.nd rfl (Or.inl rfl) (pe_ifExp (pt_truth (pv 1) (fun _ => rfl)) (pe_ix ix_list (pv 1) (pe_un un_neg pe_int) (fun _ _ => rfl)) pe_str))
      (pss_one (ps_expr (pe_bm PySem.F.plainAttrs_list PySem.F.slot_list_append PySem.F.type_list_append mt_append (pv 1) (pa_cons (pe_c c_piece_text hr (by first | decide | assumption | omega) rfl (pa_cons (pv 2) (pa_cons (pv 3) (pa_cons (pv 4) pa_nil)))) pa_nil))))))
    (pss_one (ps_ret (pe_join pe_str (pe_lstRev rfl (by rfl) T.list (by rfl) T.reversed (pv 1))))))), ?_⟩
  obtain ⟨ps, rfl, hl3, hP, hE, hN⟩ := hW
  obtain ⟨a, us, rfl, ha, hT⟩ := hv.inv_n
  have hlu := hT.1
  have hzs : tszs ps + 1 ≤ 3000000 := hz
  have hLp := pcsT_le4 (wr_le4 k d) ps hP
  have szA : ∀ {x y : List Nat}, x.length + y.length ≤ 14000000 → (S x).length + (S y).length ≤ sizeLine := fun {x y} h => by rw [S_len, S_len]; exact Nat.le_trans h (by decide)
  refine ⟨_, rfl, a, rfl, ⟨us, SqT.of ha⟩, fun D hD => ?_⟩
  refine lc_tup (K := K) (a := a) (xs := us) (fun i H3 => Same H H3 ∧ H3 D = some (.lst (((ps.take i).map isT).map V.bl))) ⟨same_new hD _, upd_same⟩ (fun i H3 _ h => SqT.of (h.1 _ _ ha)) ?_ ?_
  · rintro i v H3 hi ⟨s3, hd3⟩
    have hi1 : i < ps.length := by have := (List.getElem?_eq_some_iff.mp hi).1; omega
    have hpi : ps[i]? = some ps[i] := List.getElem?_eq_getElem hi1
    obtain ⟨pa, kd, y, rfl, hpa, hk⟩ := pc_twoP ((hT.2 i v _ hi hpi).mono (Same.tups s3)) (hP _ (List.mem_of_getElem? hpi))
    refine ⟨pa, _, rfl, SqT.of hpa, rfl, _, _, rfl, _, _, rfl, rfl, rfl, _, rfl, rfl, _, hd3, ?_, same_mut s3 hD, ?_⟩
    · rw [List.length_map, List.length_map, List.length_take]
      exact Nat.lt_of_le_of_lt (show _ ≤ 3000 by omega) (by decide)
    · have ek : decide (kd = wText) = isT ps[i] := by
        rcases hk with ⟨rfl, w, e, _⟩ | ⟨rfl, n, e, _⟩ | ⟨rfl, cs, e, _⟩
        · rw [e, isT_tx]; rfl
        · rw [e, isT_nm]; rfl
        · rw [e, isT_rn]; rfl
      rw [upd_same, lit_text, dec_S, ek, List.take_add_one, hpi, List.map_append, List.map_append]
      rfl
  · rintro H3 ⟨s3, hd3⟩
    rw [hlu, List.take_length] at hd3
    refine ⟨D, _, rfl, SqL.of hd3, _, rfl, ?_⟩
    have ha3 := s3 _ _ ha
    have hT3 := hT.mono (Same.tups s3)
    cases hall : (ps.map isT).all id with
    | true =>
      have allT : ∀ p ∈ ps, isT p = true := fun p hp => by
        rw [List.all_eq_true] at hall
        exact hall (isT p) (List.mem_map.mpr ⟨p, hp, rfl⟩)
      have hfl : (txl ps).flatten.length ≤ 3000 := by
        have one : ps.length ≤ 1 := by
          match ps, allT, hN with
          | [], _, _ => simp
          | [x], _, _ => simp
          | x :: y :: r, h, hN => exact (hN.1 y rfl (h x (by simp)) (h y (by simp))).elim
        match ps, hP, one with
        | [], _, _ => simp [txl]
        | [x], hP, _ =>
          rcases hP x (by simp) with ⟨w, rfl, h1, _⟩ | ⟨n, rfl, _⟩ | ⟨cs, rfl, _⟩
          · unfold txl
            rw [List.filterMap_cons, txo_tx]
            simp
            omega
          · unfold txl
            rw [List.filterMap_cons, show txo (nm n) = none by simp [txo, nm, nNT]]
            simp
          · unfold txl
            rw [List.filterMap_cons, show txo (rn cs) = none from rfl]
            simp
      refine iteT (B := False) ⟨⟨_, rfl⟩, _, rfl, a, rfl, ⟨us, SqT.of ha3⟩, fun D2 hD2 => ?_⟩
      refine lc_tup (K := K) (a := a) (xs := us) (fun i H4 => Same H3 H4 ∧ H4 D2 = some (.lst (txs (txl (ps.take i)))) ∧ (txl (ps.take i)).length ≤ i) ⟨same_new hD2 _, upd_same, Nat.le_refl _⟩ (fun i H4 _ h => SqT.of (h.1 _ _ ha3)) ?_ ?_
      · rintro i v H4 hi ⟨s4, hd4, hle⟩
        have hi1 : i < ps.length := by have := (List.getElem?_eq_some_iff.mp hi).1; omega
        have hpi : ps[i]? = some ps[i] := List.getElem?_eq_getElem hi1
        have htp := allT _ (List.mem_of_getElem? hpi)
        obtain ⟨pa, kd, y, rfl, hpa, hk⟩ := pc_twoP ((hT3.2 i v _ hi hpi).mono (Same.tups s4)) (hP _ (List.mem_of_getElem? hpi))
        rcases hk with ⟨rfl, w, e, rfl, _⟩ | ⟨rfl, n, e, _⟩ | ⟨rfl, cs, e, _⟩
        · have etake : txl (ps.take (i + 1)) = txl (ps.take i) ++ [w] := by
            unfold txl
            rw [List.take_add_one, hpi, List.filterMap_append, e]
            congr 1 <;> simp [List.filterMap_cons, txo_tx]
          refine ⟨pa, _, rfl, SqT.of hpa, rfl, _, _, rfl, _, _, rfl, rfl, rfl, _, rfl, _, hd4, ?_, same_mut s4 hD2, ?_, ?_⟩
          · rw [txs_len]
            exact Nat.lt_of_le_of_lt (show _ ≤ 3000 by omega) (by decide)
          · rw [upd_same, etake]
            exact congrArg (fun x => some (HO.lst x)) (txs_snoc _ _).symm
          · rw [etake, List.length_append]
            simp
            omega
        · rw [e, isT_nm] at htp; cases htp
        · rw [e, isT_rn] at htp; cases htp
      · rintro H4 ⟨s4, hd4, _⟩
        rw [hlu, List.take_length] at hd4
        refine ⟨_, D2, (txl ps).map S, rfl, rfl, .inl (SqL.of (by rw [hd4, txs_map])), ?_, ?_⟩
        · rw [lit_e, show (S ([] : List Nat)).length = 0 from rfl, Nat.mul_zero, sum_SP]
          exact Nat.le_trans (show _ ≤ 3000 by omega) (by decide)
        rw [join0 lit_e]
        refine ⟨_, rfl, by omega, fun H5 s5 => ?_⟩
        have := q H5 ((s3.trans s4).trans s5)
        have e : wdT (wr d) (.n ps) = wtext (txl ps).flatten := by
          show wdL (wr d) ps = _
          unfold wdL
          rw [if_pos hall]
        rw [e] at this
        exact this
    | false =>
      refine iteF (A := False) ?_
      have ew : wdT (wr d) (.n ps) = pcsT (wr d) ps := by
        show wdL (wr d) ps = _
        unfold wdL
        rw [if_neg (by rw [hall]; exact Bool.false_ne_true)]
      refine ⟨(by show 0 ≤ sizeLine; decide), fun x hx => ?_⟩
      have s5 := same_new hx (HO.lst [])
      have hx5 : (upd H3 x (.lst [])) x = some (.lst []) := upd_same
      have ha5 := s5 _ _ ha3
      have hT5 := hT3.mono (Same.tups s5)
      have s05 := s3.trans s5
      have nax : a ≠ x := ne_of_none ha3 hx
      generalize upd H3 x (.lst []) = H5 at s5 hx5 ha5 hT5 s05 ⊢
      have szj : ∀ j, (pcsT (wr d) (ps.drop j)).length ≤ 12000000 := fun j => by
        have h1 := pcsT_le4 (wr_le4 k d) (ps.drop j) fun p hp => hP p (List.mem_of_mem_drop hp)
        have h2 := tszs_drop ps j
        omega
      refine ⟨_, rfl, a, us, rfl, .inr ⟨SqT.of ha5, RT.for_ItvT (K := K) (a := a) (xs := us) (fun i σ H6 => ∃ (v2 v3 v4 : Option V) (zs : List (List Nat)), σ = [some (.ref a), some (.ref x), v2, v3, v4, none] ∧ Same H H6 ∧ H6 x = some (.lst (txs zs)) ∧ zs.length = i ∧ i ≤ ps.length ∧ zs.reverse.flatten = pcsT (wr d) (ps.drop (ps.length - i)) ∧ hdLow (zs.getLastD []) = hdLow (pcsT (wr d) (ps.drop (ps.length - i))) ∧ (zs.getLastD []).length ≤ 12000000)
        ⟨none, none, none, [], rfl, s05, hx5, rfl, Nat.zero_le _, by rw [Nat.sub_zero, List.drop_length]; rfl, by rw [Nat.sub_zero, List.drop_length]; rfl, Nat.zero_le _⟩ (fun i σ H6 h => ?_) ?_ ?_⟩⟩
      · obtain ⟨_, _, _, zs, _, s6, _⟩ := h
        exact SqT.of (s6 _ _ ha)
      · rintro i v σ H6 hi1 hvj ⟨v2, v3, v4, zs, rfl, s6, hx6, hzl, hil, hfl, hhd, hll⟩
        have hj : ps.length - (i + 1) < ps.length := by omega
        have hpj : ps[ps.length - (i + 1)]? = some ps[ps.length - (i + 1)] := List.getElem?_eq_getElem hj
        have hvj' : us[ps.length - (i + 1)]? = some v := by
          rw [← hvj, hlu]
          congr 1
          omega
        have edrop : ps.drop (ps.length - (i + 1)) = ps[ps.length - (i + 1)] :: ps.drop (ps.length - i) := by
          rw [List.drop_eq_getElem_cons hj, show ps.length - (i + 1) + 1 = ps.length - i by omega]
        have hvT := (hT.2 _ v _ hvj' hpj).mono (Same.tups s6)
        have hmem := List.mem_of_getElem? hpj
        have hPj := hP _ hmem
        have hEj := hE _ hmem
        generalize ps[ps.length - (i + 1)] = p at hpj edrop hvT hPj hEj hmem
        obtain ⟨pa, kd, y, rfl, hpa, hk⟩ := pc_twoP hvT hPj
        have hzp : tsz p ≤ 3000000 := by have := tszs_mem hmem; omega
        have epc := pcT_hd (wr d) hhd hPj
        have hne := pcT_ne (wr d) (zs.getLastD []) hPj hEj
        have hlp := pcT_le4 (wr_le4 k d) hPj (zs.getLastD [])
        refine ⟨pa, _, rfl, SqT.of hpa, rfl, _, _, rfl, _, _, rfl, rfl, ?_⟩
        have fin : ∀ (z : List Nat) H7, z = pcT (wr d) (zs.getLastD []) p → Same H6 H7 → ∃ (v2 v3 v4 : Option V) (zs' : List (List Nat)), [some (V.ref a), some (.ref x), some (.str (S kd)), some y, some (.str (S (zs.getLastD []))), none] = [some (.ref a), some (.ref x), v2, v3, v4, none] ∧ Same H (upd H7 x (.lst (txs zs ++ [.str (S z)]))) ∧ (upd H7 x (.lst (txs zs ++ [.str (S z)]))) x = some (.lst (txs zs')) ∧ zs'.length = i + 1 ∧ i + 1 ≤ ps.length ∧ zs'.reverse.flatten = pcsT (wr d) (ps.drop (ps.length - (i + 1))) ∧ hdLow (zs'.getLastD []) = hdLow (pcsT (wr d) (ps.drop (ps.length - (i + 1)))) ∧ (zs'.getLastD []).length ≤ 12000000 := fun z H7 hz' s7 => by
          have e1 : pcsT (wr d) (ps.drop (ps.length - (i + 1))) = z ++ pcsT (wr d) (ps.drop (ps.length - i)) := by
            rw [edrop, hz', epc]
            rfl
          refine ⟨_, _, _, zs ++ [z], rfl, ?_, ?_, by simp [hzl], by omega, ?_, ?_, ?_⟩
          · intro c o hc
            rw [upd_ne (fun e => ?_)]
            · exact s7 _ _ (s6 _ _ hc)
            · have := Same.free s3 hx
              rw [e, this] at hc; cases hc
          · rw [upd_same, txs_snoc]
          · rw [List.reverse_append, e1, ← hfl]
            simp
          · rw [e1, hdLow_app (by rw [hz']; exact hne)]
            simp
          · simp
            rw [hz']
            omega
        have hll' : (zs.getLastD []).length ≤ 13000000 := by omega
        have hzl3 : (txs zs).length < sizeLine := by
          rw [txs_len, hzl]
          exact Nat.lt_of_le_of_lt (show _ ≤ 3000 by omega) (by decide)
        refine ⟨_, rfl, _, .inl ⟨_, SqL.of hx6, rfl⟩, ?_⟩
        rcases List.eq_nil_or_concat zs with e | ⟨zs', z', e⟩
        · subst e
          refine iteF (A := False) ⟨_, rfl, .inl ⟨rfl, _, SqL.of hx6⟩, _, rfl, _, rfl, _, rfl, kd, y, p, [], d, k, rfl, hk, hd, hk3, hzp, hll', fun H7 s7 => ⟨x, _, _, rfl, rfl, s7 _ _ hx6, hzl3, ?_⟩⟩
          exact fin _ H7 rfl s7
        · rw [List.concat_eq_append] at e
          subst e
          have hx7 := hx6
          rw [txs_snoc] at hx7
          rw [show (txs (zs' ++ [z'])).isEmpty = false by rw [txs_snoc]; cases txs zs' <;> rfl]
          refine iteT (B := False) ⟨_, rfl, _, rfl, x, _, _, _, rfl, rfl, SqL.of hx7, atI_last _ _, ?_⟩
          have eL : (zs' ++ [z']).getLastD [] = z' := by simp
          rw [eL] at fin hll'
          refine ⟨_, rfl, .inl ⟨rfl, _, SqL.of hx6⟩, _, rfl, _, rfl, _, rfl, kd, y, p, z', d, k, rfl, hk, hd, hk3, hzp, hll', fun H7 s7 => ⟨x, _, _, rfl, rfl, s7 _ _ hx6, hzl3, ?_⟩⟩
          exact fin _ H7 rfl s7
      · rintro σ H6 ⟨v2, v3, v4, zs, rfl, s6, hx6, hzl, hil, hfl, hhd, hll⟩
        have hlen : zs.length = ps.length := by omega
        refine ⟨⟨_, rfl⟩, _, rfl, x, _, rfl, SqL.of hx6, fun r hr0 => ?_⟩
        have s7 := same_new hr0 (HO.lst (txs zs).reverse)
        have erev : (txs zs).reverse = txs zs.reverse := by unfold txs; rw [List.map_reverse]
        rw [hlu, Nat.sub_self, List.drop_zero] at hfl
        refine ⟨_, r, zs.reverse.map S, rfl, rfl, .inl (SqL.of (by rw [upd_same, erev, txs_map])), ?_, ?_⟩
        · rw [lit_e, show (S ([] : List Nat)).length = 0 from rfl, Nat.mul_zero, sum_SP, hfl]
          exact Nat.le_trans (show _ ≤ 12000000 by omega) (by decide)
        · rw [join0 lit_e, hfl]
          have := q _ (s6.trans s7)
          rw [ew] at this
          exact this
theorem ok_command_text {f : Addr} {fd : FuncData} (F : Def K mg "command_text" s_command_text f fd) (b : Binds K fd ["words"] []) (T : Txt mg) {n : Nat} (c_pieces_text : Cal P w K mg base (5 + 4 * n) "pieces_text" (spWdP n) []) : Cal P w K mg base (6 + 4 * n) "command_text" (spCmP n) [] := by
  rw [show 6 + 4 * n = (5 + 4 * n) + 1 by omega]
  refine cal0 F b .nil sc_command_text (fun vs H Q E h => ?_) (fun cdv A outer s H vs Q E hr h => ?_)
  · obtain ⟨v, t, d, k, rfl, _⟩ := h
    rfl
  obtain ⟨v, t, d, k, rfl, hv, hC, hd, hk3, hz, q⟩ := h
  refine ⟨_, pss_one (ps_ret (pe_join pe_str (pe_lc (own := [("pieces", 1)]) (g := gName 1) (by rfl) sc_command_text.nd (pi_tup (pv 0)) (blkOk_by (own := [("pieces", 1)]) (N := N_command_text) (sc := fnScope s_command_text) (by decide +kernel)) (fun _ _ _ _ _ => pg_name (i := 1) sc_command_text.nd rfl (Or.inl rfl)) (fun _ _ _ _ _ => pts_nil) (fun _ _ _ _ _ => (pe_c c_pieces_text hr (by first | decide | assumption | omega) rfl (pa_cons (pv 1) pa_nil)))))), ?_⟩
  obtain ⟨ws, rfl, hne, hwl, hW⟩ := hC
  obtain ⟨c, vs, rfl, hc, hTw⟩ := hv.inv_n
  have hlw := hTw.1
  have hzs : tszs ws + 1 ≤ 3000000 := hz
  refine ⟨⟨_, rfl⟩, _, rfl, c, rfl, ⟨vs, SqT.of hc⟩, fun D2 hD2 => ?_⟩
  refine lc_tup (K := K) (a := c) (xs := vs) (fun j H4 => Same H H4 ∧ H4 D2 = some (.lst (txs ((ws.take j).map (wdT (wr d)))))) ⟨same_new hD2 _, upd_same⟩ (fun j H4 _ h => SqT.of (h.1 _ _ hc)) ?_ ?_
  · rintro j v H4 hj ⟨s4, hd4⟩
    have hj1 : j < ws.length := by have := (List.getElem?_eq_some_iff.mp hj).1; omega
    have hpj : ws[j]? = some ws[j] := List.getElem?_eq_getElem hj1
    have hvt := (hTw.2 j v _ hj hpj).mono (Same.tups s4)
    have hzw : tsz ws[j] ≤ 3000000 := by have := tszs_mem (List.mem_of_getElem? hpj); omega
    refine ⟨rfl, _, rfl, v, ws[j], d, k, rfl, hvt, hW _ (List.mem_of_getElem? hpj), hd, hk3, hzw, fun H5 s5 => ?_⟩
    refine ⟨_, s5 _ _ hd4, ?_, same_mut (s4.trans s5) hD2, ?_⟩
    · rw [txs_len, List.length_map, List.length_take]
      exact Nat.lt_of_le_of_lt (show _ ≤ 3000 by omega) (by decide)
    · rw [upd_same, List.take_add_one, hpj, List.map_append]
      exact congrArg (fun x => some (HO.lst x)) (txs_snoc _ _).symm
  · rintro H4 ⟨s4, hd4⟩
    rw [hlw, List.take_length] at hd4
    have hfl := sum_flat (f := wdT (wr d)) (s := 1) ws (fun x hx => wdT_le4 (wr_le4 k d) (hW x hx))
    refine ⟨_, D2, (ws.map (wdT (wr d))).map S, rfl, rfl, .inl (SqL.of (by rw [hd4, txs_map])), ?_, ?_⟩
    · rw [lit_blP, S_len, sum_SP, List.length_map, List.length_map]
      show _ + ws.length * 1 ≤ _
      exact Nat.le_trans (show _ ≤ 12000000 by omega) (by decide)
    · rw [lit_blP, join_S]
      exact q H4 s4
theorem ok_written {f : Addr} {fd : FuncData} (F : Def K mg "written" s_written f fd) (b : Binds K fd ["commands"] []) (T : Txt mg) {n : Nat} (c_command_text : Cal P w K mg base (6 + 4 * n) "command_text" (spCmP n) []) : Cal P w K mg base (7 + 4 * n) "written" (spWrP (n + 1)) [] := by
  rw [show 7 + 4 * n = (6 + 4 * n) + 1 by omega]
  refine cal0 F b .nil sc_written (fun vs H Q E h => ?_) (fun cdv A outer s H vs Q E hr h => ?_)
  · obtain ⟨v, cs, d, k, rfl, _⟩ := h
    rfl
  obtain ⟨v, cs, d, k, rfl, hv, hd, hk3, hR, hz, q⟩ := h
  refine ⟨_, pss_one (ps_ret (pe_join pe_str (pe_lc (own := [("words", 1)]) (g := gName 1) (by rfl) sc_written.nd (pi_seq (pv 0)) (blkOk_by (own := [("words", 1)]) (N := N_written) (sc := fnScope s_written) (by decide +kernel)) (fun _ _ _ _ _ => pg_name (i := 1) sc_written.nd rfl (Or.inl rfl)) (fun _ _ _ _ _ => pts_nil) (fun _ _ _ _ _ => (pe_c c_command_text hr (by first | decide | assumption | omega) rfl (pa_cons (pv 1) pa_nil)))))), ?_⟩
  obtain ⟨a, us, rfl, ha, hT⟩ := hv
  have hlu := hT.1
  obtain ⟨hcl, hC⟩ := hR
  have hk : SqL K H a us ∨ SqT K H a us := ha.elim (fun h => .inl (SqL.of h)) (fun h => .inr (SqT.of h))
  refine ⟨⟨_, rfl⟩, _, rfl, a, rfl, lc_seq (K := K) (a := a) (xs := us) (fun D i H3 => Same H H3 ∧ H3 D = some (.lst (txs ((cs.take i).map (cmT (wr d)))))) hk (fun D hD => ⟨same_new hD _, upd_same⟩) (fun D i H3 hD h => ⟨fun k => Same.seq h.1 k, fun k => sqT_sameP h.1 k⟩) ?_ ?_⟩
  · rintro D hD i v H3 hi ⟨s3, hd3⟩
    have hi1 : i < cs.length := by have := (List.getElem?_eq_some_iff.mp hi).1; omega
    have hpi : cs[i]? = some cs[i] := List.getElem?_eq_getElem hi1
    have hvT := (hT.2 i v _ hi hpi).mono (Same.tups s3)
    have hzc : tsz cs[i] ≤ 3000000 := by have := tszs_mem (List.mem_of_getElem? hpi); omega
    refine ⟨rfl, _, rfl, v, cs[i], d, k, rfl, hvT, hC _ (List.mem_of_getElem? hpi), hd, hk3, hzc, fun H5 s5 => ?_⟩
    refine ⟨_, s5 _ _ hd3, ?_, same_mut (s3.trans s5) hD, ?_⟩
    · rw [txs_len, List.length_map, List.length_take]
      exact Nat.lt_of_le_of_lt (show _ ≤ 3000 by omega) (by decide)
    · rw [upd_same, List.take_add_one, hpi, List.map_append]
      exact congrArg (fun x => some (HO.lst x)) (txs_snoc _ _).symm
  · rintro D hD H3 ⟨s3, hd3⟩
    rw [hlu, List.take_length] at hd3
    have hfl := sum_flat (f := cmT (wr d)) (s := 2) cs (fun x hx => cmT_le4 (wr_le4 k d) (hC x hx))
    refine ⟨_, D, (cs.map (cmT (wr d))).map S, rfl, rfl, .inl (SqL.of (by rw [hd3, txs_map])), ?_, ?_⟩
    · rw [lit_scP, S_len, sum_SP, List.length_map, List.length_map]
      show _ + cs.length * 2 ≤ _
      exact Nat.le_trans (show _ ≤ 12000000 by omega) (by decide)
    · rw [lit_scP, join_S]
      exact q H3 s3
structure WrtF (K : PySem.W.Frag) (mg : Str → Option Value) : Prop where
  piece : ∃ (f : Addr) (fd : FuncData), Def K mg "piece_text" s_piece_text f fd ∧ Binds K fd ["kind", "worth", "behind"] []
  pieces : ∃ (f : Addr) (fd : FuncData), Def K mg "pieces_text" s_pieces_text f fd ∧ Binds K fd ["pieces"] []
  cmd : ∃ (f : Addr) (fd : FuncData), Def K mg "command_text" s_command_text f fd ∧ Binds K fd ["words"] []
  text : ∃ (f : Addr) (fd : FuncData), Def K mg "written" s_written f fd ∧ Binds K fd ["commands"] []
theorem ok_pwritten (M : WrtF K mg) (T : Txt mg) (c_turned : Cal P w K mg base 2 "turned" spTurned []) (c_word_text : Cal P w K mg base 3 "word_text" spWtext []) (c_is_letter : Cal P w K mg base 1 "is_letter" spLetterP []) : ∀ n, Cal P w K mg base (3 + 4 * n) "written" (spWrP n) []
  | 0 => by
    obtain ⟨f, fd, F, b⟩ := M.text
    exact ⟨f, fd, _, [], ⟨fun _ _ _ _ h => h.elim, fun _ _ _ _ _ _ _ _ _ _ _ _ _ h => h.elim⟩, F.mgf, F.kp, b, .nil⟩
  | n + 1 => by
    have ih := ok_pwritten M T c_turned c_word_text c_is_letter n
    obtain ⟨_, _, F1, b1⟩ := M.piece
    have c1 := ok_piece_text (P := P) (w := w) (base := base) F1 b1 T c_turned c_is_letter ih
    obtain ⟨_, _, F2, b2⟩ := M.pieces
    have c2 := ok_pieces_text (P := P) (w := w) (base := base) F2 b2 T c_word_text c1
    obtain ⟨_, _, F3, b3⟩ := M.cmd
    have c3 := ok_command_text (P := P) (w := w) (base := base) F3 b3 T c2
    obtain ⟨_, _, F4, b4⟩ := M.text
    rw [show 3 + 4 * (n + 1) = 7 + 4 * n by omega]
    exact ok_written (P := P) (w := w) (base := base) F4 b4 T c3
theorem ok_writG (M : WrtF K mg) (T : Txt mg) (c_turned : Cal P w K mg base 2 "turned" spTurned []) (c_word_text : Cal P w K mg base 3 "word_text" spWtext []) (c_is_letter : Cal P w K mg base 1 "is_letter" spLetterP []) : Cal P w K mg base 55 "written" spWritG [] := by
  obtain ⟨f, fd, ps, ds, F, hm, kp, b, d⟩ := (ok_pwritten (P := P) (w := w) (base := base) M T c_turned c_word_text c_is_letter 13).ex
  refine ⟨f, fd, ps, ds, F.imp fun vs H Q E h => ?_, hm, kp, b, d⟩
  obtain ⟨a, us, cs, k, rfl, ha, hT, hR, hk, hz, q⟩ := h
  exact ⟨_, cs, 12, k, rfl, ⟨a, us, rfl, .inl ha, hT⟩, Nat.le_refl 12, hk, hR, hz, q⟩
end
end My
namespace My
open PySem L2 SX C8
mutual
theorem eqv_tr : ∀ t : Tr, PyData.eqv (dataTr t) (dataTr t) = true
  | .s w => by
    show (S w == S w) = true
    rw [S_beq_eq]
    exact decide_eq_true rfl
  | .n ts => eqv_trs ts
theorem eqv_trs : ∀ ts : List Tr, PyData.eqvAll (dataTrs ts) (dataTrs ts) = true
  | [] => rfl
  | t :: r => by
    show (PyData.eqv (dataTr t) (dataTr t) && PyData.eqvAll (dataTrs r) (dataTrs r)) = true
    rw [eqv_tr t, eqv_trs r]
    rfl
end
theorem eqv_lst (cs : List Tr) : PyData.eqv (.list (dataTrs cs)) (.list (dataTrs cs)) = true := eqv_trs cs
theorem cut_head (t : List Nat) (j : Nat) : ∃ u : List Nat, cutS (S t) none (some (j : Int)) = S u ∧ u.length ≤ j ∧ ∀ c ∈ u, c ∈ t := by
  refine ⟨_, rfl, ?_, fun c hc => List.mem_of_mem_drop (List.mem_of_mem_take hc)⟩
  rw [S_len, HT.sIx_none, HT.sIx_nat, List.length_take, List.length_drop]
  omega
theorem cut_tail9 (t : List Nat) (j : Nat) : ∃ u : List Nat, cutS (S t) (some (j : Int)) none = S u ∧ u.length ≤ t.length - j ∧ ∀ c ∈ u, c ∈ t := by
  refine ⟨_, rfl, ?_, fun c hc => List.mem_of_mem_drop (List.mem_of_mem_take hc)⟩
  rw [S_len, HT.sIx_nat, HT.sIx_none, List.length_take, List.length_drop]
  omega
theorem bits10 (v : V) (hv : v ∈ ([.str (Str.ofString "{"), .str (Str.ofString "}"), .str (Str.ofString "\\"), .str (Str.ofString "$a"), .str (Str.ofString "["), .str (Str.ofString "]"), .str (Str.ofString "\""), .str (Str.ofString ";"), .str (Str.ofString " ")] : List V)) : ∃ z : List Nat, v = .str (S z) ∧ SB 2 z := by
  have e1 : (Str.ofString " ") = S [32] := by decide +kernel
  have e5 : (Str.ofString ";") = S [59] := by decide +kernel
  have e8 : (Str.ofString "$a") = S [36, 97] := by decide +kernel
  rw [lit_ob, lit_cb, lit_bs, e8, lit_br2, lit_br3, lit_qu, e5, e1] at hv
  simp only [List.mem_cons, List.not_mem_nil, or_false] at hv
  rcases hv with rfl | rfl | rfl | rfl | rfl | rfl | rfl | rfl | rfl
  all_goals exact ⟨_, rfl, by decide, by unfold OkS; decide⟩
section
variable {P : Program} {w : World} {K : PySem.W.Frag} {mg : Str → Option Value} {base : Heap} {CB : Addr}
theorem ok_law {f : Addr} {fd : FuncData} (F : Def K mg "law" s_law f fd) (T : Txt mg) (c__law_bag : Cal P w K mg base 1 "_law_bag" (spBag K) []) (c__law_pull : Cal P w K mg base 1 "_law_pull" spPull []) (c__law_of : Cal P w K mg base 2 "_law_of" (spOf K) [])
    (c__law_wild_tree : Cal P w K mg base 11 "_law_wild_tree" (spWT 4) []) (c__law_spelt : Cal P w K mg base 11 "_law_spelt" (spSp 4) []) (c_parsed : CalX P w K mg base 83 "parsed" (spParsed CB)) (c_written : Cal P w K mg base 55 "written" spWritG [])
    (mg_BadScript : mg "BadScript" = some (.ref CB)) (te1 : PySem.W.exmOne K (.ref CB) (.ref CB) = some true) : FnOk P w K mg base C8.CX0 91 f fd ["_law_script"] (spLaw K) := by
  have cm_parsed := c_parsed.calm
  refine fn0 F.fn sc_law (fun vs H Q E h => ?_) (fun cdv A outer s H vs Q E hr h => ?_)
  · obtain ⟨a, ns, rfl, _⟩ := h
    rfl
  obtain ⟨a, ns, rfl, hS, hl, q⟩ := h
  refine ⟨_, pss_cons (ps_set (i := 1) sc_law.nd rfl (Or.inl rfl) (pe_c c__law_bag hr (by first | decide | assumption | omega) rfl (pa_cons (pv 0) pa_nil)))
    (pss_cons (ps_for PassesOwn.never rfl (pi_range1 rfl T.range (pa_cons pe_int pa_nil)) (pg_name (i := 2) sc_law.nd rfl (Or.inl rfl))
      (pss_cons (ps_set (i := 3) sc_law.nd rfl (Or.inl rfl) (pe_c c__law_wild_tree hr (by first | decide | assumption | omega) rfl (pa_cons (pv 1) (pa_cons (pe_c c__law_pull hr (by first | decide | assumption | omega) rfl (pa_cons (pv 1) (pa_cons pe_int pa_nil))) pa_nil))))
      (pss_cons (ps_par (i := 4) (j := 5) rfl sc_law.nd rfl rfl (by decide) rfl rfl (pa_cons (pe_c c__law_spelt hr (by first | decide | assumption | omega) rfl (pa_cons (pv 1) (pa_cons (pv 3) pa_nil))) (pa_cons (pe_c c__law_spelt hr (by first | decide | assumption | omega) rfl (pa_cons (pv 1) (pa_cons (pv 3) pa_nil))) pa_nil)) rfl)
      (pss_cut (ps_if (PW.pt (pw_and (pt_cmpR op_le (pe_callB (call_max2 rfl) (by rfl) T.max (by decide +kernel) (pa_cons (pe_callB call_len (by rfl) T.len (by decide +kernel) (pa_cons (pv 4) pa_nil)) (pa_cons (pe_callB call_len (by rfl) T.len (by decide +kernel) (pa_cons (pv 5) pa_nil)) pa_nil))) pe_int (nomark _)) (pw_and1 (pt_cmpR op_ne (pe_c c_written hr (by first | decide | assumption | omega) rfl (pa_cons (pe_c cm_parsed hr (by first | decide | assumption | omega) rfl (pa_cons (pv 4) pa_nil)) pa_nil)) (pe_c c_written hr (by first | decide | assumption | omega) rfl (pa_cons (pe_c cm_parsed hr (by first | decide | assumption | omega) rfl (pa_cons (pv 5) pa_nil)) pa_nil)) (nomark _)))))
        (pss_one (ps_ret pe_bl))
        (pss_nil))
      (pss_cons (ps_for PassesOwn.never rfl (pi_range1 rfl T.range (pa_cons (pe_c c__law_pull hr (by first | decide | assumption | omega) rfl (pa_cons (pv 1) (pa_cons pe_int pa_nil))) pa_nil)) (pg_name (i := 6) sc_law.nd rfl (Or.inl rfl))
        (pss_cons (ps_set (i := 7) sc_law.nd rfl (Or.inl rfl) (pe_c c__law_pull hr (by first | decide | assumption | omega) rfl (pa_cons (pv 1) (pa_cons (pe_op op_add (pe_callB call_len (by rfl) T.len (by decide +kernel) (pa_cons (pv 4) pa_nil)) pe_int) pa_nil))))
        (pss_one (ps_set (i := 4) sc_law.nd rfl (Or.inl rfl) (pe_op op_add_str (pe_op op_add_str (pe_slice sl_str (pv 4) po_none (po_some (pv 7))) (pe_c c__law_of hr (by first | decide | assumption | omega) rfl (pa_cons (pv 1) (pa_cons (pe_lst (pa_cons pe_str (pa_cons pe_str (pa_cons pe_str (pa_cons pe_str (pa_cons pe_str (pa_cons pe_str (pa_cons pe_str (pa_cons pe_str (pa_cons pe_str pa_nil)))))))))) pa_nil)))) (pe_slice sl_str (pv 4) (po_some (pe_op op_add (pv 7) pe_int)) po_none))))))
      (pss_cut (ps_tryC rfl rfl sc_law.nd
        (fun W pn xe tk => pss_one (ps_set (i := 8) sc_law.nd rfl (Or.inl rfl) (pe_xS c_parsed hr (by first | decide | assumption | omega) rfl tk (pa_cons (pe_slice sl_str (pv 4) po_none (po_some pe_int)) pa_nil))))
        (Cls2.bare ⟨rfl, by decide, Or.inl mg_BadScript⟩ (fun a oe cls d pn hz hf => pss_one (ps_set (i := 8) sc_law.nd rfl (Or.inl rfl) (pe_lst pa_nil))) (Cls2.out takes0)))
      (pss_cons (ps_set (i := 9) sc_law.nd rfl (Or.inl rfl) (pe_c c_written hr (by first | decide | assumption | omega) rfl (pa_cons (pv 8) pa_nil)))
      (pss_one (ps_if (PW.pt (pw_and (pt_cmpR op_le (pe_callB call_len (by rfl) T.len (by decide +kernel) (pa_cons (pv 9) pa_nil)) pe_int (nomark _)) (pw_and1 (PW.pt (pw_or (pt_cmpR (op_neD hr.units) (pe_c cm_parsed hr (by first | decide | assumption | omega) rfl (pa_cons (pv 9) pa_nil)) (pv 8) (nomark _)) (pw_or1 (pt_cmpR op_ne (pe_c c_written hr (by first | decide | assumption | omega) rfl (pa_cons (pe_c cm_parsed hr (by first | decide | assumption | omega) rfl (pa_cons (pv 9) pa_nil)) pa_nil)) (pv 9) (nomark _))))))))
        (pss_one (ps_ret pe_bl))
        (pss_nil))))))))))
    (pss_one (ps_ret pe_bl))), ?_⟩
  refine ⟨_, rfl, a, ns, rfl, hS, hl, fun b l H1 s1 hb B1 => ?_⟩
  refine ⟨6, rfl, by decide, by decide, for_range (n := 6) (fun i σ H2 => ∃ v2 v3 v4 v5 v6 v7 v8 v9, σ = [some (.ref a), some (.ref b), v2, v3, v4, v5, v6, v7, v8, v9] ∧ BagAt H2 b l) ⟨none, none, none, none, none, none, none, none, rfl, B1⟩ ?_ ?_⟩
  · rintro i σ H2 hi ⟨v2, v3, v4, v5, v6, v7, v8, v9, rfl, B2⟩
    refine ⟨_, rfl, _, rfl, b, l, 4, rfl, B2, by decide, by decide, fun m H3 hm b3 B3 => ⟨b, l, m, rfl, B3, (by show m ≤ 3; omega), fun p us cs H4 b4 B4 hp0 hpl hT hR => ?_⟩⟩
    have npb : p ≠ b := (B3.nb hp0).symm
    have hLs : Ls (m + 1) ≤ 6000000 := by
      have h2 : Ls m ≤ 288120 := Ls_le (by omega)
      have h3 : Ls (m + 1) = 18 * Ls m + 840 := rfl
      omega
    refine ⟨_, rfl, _, rfl, b, l, _, cs, m, rfl, B4, ⟨p, us, rfl, npb, .inl hpl, hT⟩, (by show m ≤ 3; omega), hR, fun z H5 hs hsb b5 B5 => ?_⟩
    have hpl5 : H5 p = some (.lst us) := b5 _ _ hpl npb
    have hT5 : TrsAt H5 us cs := hT.mono (b5.tups B4.notup)
    refine ⟨_, rfl, _, rfl, b, l, _, cs, m, rfl, B5, ⟨p, us, rfl, npb, .inl hpl5, hT5⟩, (by show m ≤ 3; omega), hR, fun z2 H6 hs2 hsb2 b6 B6 => ?_⟩
    have szM : ∀ {x : List Nat}, SB (Ls (m + 1)) x → (S x).length ≤ sizeLine := fun {x} h => by rw [S_len]; exact Nat.le_trans (Nat.le_trans h.1 hLs) (by decide)
    have hK := runK_more 15 (m + 1) 13 cs (runW_K (m + 1) cs hR) (by omega)
    have hz3 : tszs cs ≤ 3000000 := by
      have h1 := tszs_W (m + 1) cs hR
      have h2 : Sz (m + 1) ≤ 3000000 := by
        have : m = 0 ∨ m = 1 ∨ m = 2 ∨ m = 3 := by omega
        rcases this with rfl | rfl | rfl | rfl <;> decide
      omega
    have rd : ∀ {x : List Nat}, SpT (m + 1) cs x → DScr 0 x (.ok cs []) := fun {x} h => by
      have := (spelt_read (m + 1) cs x hR h).2 0 [] (by omega) rfl
      rwa [List.append_nil] at this
    refine ⟨_, _, rfl, ?_⟩
    refine ⟨fun σ H7 => σ = [some (.ref a), some (.ref b), some (.int (0 + (i : Int))), some (.ref p), some (.str (S z)), some (.str (S z2)), v6, v7, v8, v9] ∧ BagAt H7 b l, ?_, ?_⟩
    · refine ⟨_, rfl, _, _, rfl, ⟨szM hsb, rfl⟩, _, rfl, _, _, rfl, ⟨szM hsb2, rfl⟩, _, _, rfl, _, _, rfl, rfl, _, rfl, iteD (fun h1 => ?_) (fun _ => iteF (A := False) ⟨rfl, B6⟩)⟩
      rw [S_len, S_len] at h1
      have h12 : z.length ≤ 1000 ∧ z2.length ≤ 1000 := by
        have h2 : (if (z2.length : Int) > (z.length : Int) then (z2.length : Int) else (z.length : Int)) ≤ 1000 := h1
        split at h2 <;> omega
      refine ⟨_, rfl, z, _, rfl, h12.1, rd hs, fun v7' H7 s7 hv7 => ?_⟩
      obtain ⟨a7, us7, rfl, ha7, hT7⟩ := hv7
      refine ⟨a7, us7, cs, 15, rfl, ha7, hT7, hK, by decide, hz3, fun H8 s8 => ?_⟩
      refine ⟨_, rfl, z2, _, rfl, h12.2, rd hs2, fun v9' H9 s9 hv9 => ?_⟩
      obtain ⟨a9, us9, rfl, ha9, hT9⟩ := hv9
      refine ⟨a9, us9, cs, 15, rfl, ha9, hT9, hK, by decide, hz3, fun H10 s10 => ⟨rfl, _, rfl, ?_⟩⟩
      rw [decide_eq_true rfl]
      exact iteF (A := False) (iteF (A := False) ⟨rfl, (((B6.mono s7).mono s8).mono s9).mono s10⟩)
    · rintro σ H7 ⟨rfl, B7⟩
      refine ⟨_, rfl, b, l, 3, rfl, B7, by decide, by decide, fun y H8 hy b8 B8 => ⟨_, rfl, by omega, by omega, ?_⟩⟩
      refine for_range (lo := 0) (n := (y : Int).toNat) (fun j σ H9 => ∃ (t : List Nat) (v6 v7 : Option V), σ = [some (.ref a), some (.ref b), some (.int (0 + (i : Int))), some (.ref p), some (.str (S t)), some (.str (S z2)), v6, v7, v8, v9] ∧ BagAt H9 b l ∧ SB (6000000 + 2 * j) t) ⟨z, v6, v7, rfl, B8, hsb.mono (by omega)⟩ ?_ ?_
      · rintro j σ H9 hj ⟨t, w6, w7, rfl, B9, ht⟩
        have tl := ht.1
        have szt : (S t).length ≤ sizeLine := by rw [S_len]; exact Nat.le_trans (show _ ≤ 7000000 by omega) (by decide)
        refine ⟨_, rfl, _, rfl, _, _, rfl, ⟨szt, rfl⟩, _, _, rfl, rfl, b, l, _, rfl, B9, by omega, by rw [S_len]; omega, fun x H10 hx b10 B10 => ?_⟩
        rw [S_len] at hx
        refine ⟨_, rfl, _, rfl, _, rfl, _, rfl, szt, ?_⟩
        obtain ⟨h1, eh1, hh1, hh2⟩ := cut_head t x
        rw [eh1]
        refine ⟨_, rfl, (by show 9 ≤ sizeLine; decide), fun p9 hp9 => ?_⟩
        refine ⟨b, l, _, rfl, B10.mono (same_new hp9 _), .inl ⟨p9, _, rfl, (B10.nb hp9).symm, SqL.of upd_same, by show 0 < 9; decide, by show 9 ≤ 1000; decide, fun v H11 hv b11 B11 => ?_⟩⟩
        obtain ⟨e, rfl, he⟩ := bits10 v hv
        have hel := he.1
        have szB : ∀ {x y : List Nat}, x.length + y.length ≤ 8000000 → (S x).length + (S y).length ≤ sizeLine := fun {x y} h => by rw [S_len, S_len]; exact Nat.le_trans h (by decide)
        refine ⟨_, _, rfl, rfl, szB (by omega), ?_⟩
        rw [S_cat]
        refine ⟨_, rfl, _, rfl, _, _, rfl, rfl, _, rfl, _, rfl, szt, ?_⟩
        obtain ⟨h3, eh3, hh3, hh4⟩ := cut_tail9 t (x + 1)
        rw [show ((x : Int) + 1) = ((x + 1 : Nat) : Int) by omega, eh3]
        refine ⟨_, _, rfl, rfl, szB (by rw [List.length_append]; omega), ?_⟩
        rw [S_cat]
        refine ⟨_, _, _, rfl, B11, ?_⟩
        exact (((SB.app (j := x) (a := h1) ⟨hh1, fun c hc => ht.2 c (hh2 c hc)⟩ he).app (k := t.length - (x + 1)) (b := h3) ⟨hh3, fun c hc => ht.2 c (hh4 c hc)⟩).mono (by omega))
      · rintro σ H9 ⟨t, w6, w7, rfl, B9, ht⟩
        have tl : t.length ≤ 6000010 := by have := ht.1; omega
        have szt : (S t).length ≤ sizeLine := by rw [S_len]; exact Nat.le_trans tl (by decide)
        refine ⟨fun σ H10 => ∃ (x : Addr) (us3 : List V) (cs3 : List Tr) (k : Nat), σ = [some (.ref a), some (.ref b), some (.int (0 + (i : Int))), some (.ref p), some (.str (S t)), some (.str (S z2)), w6, w7, some (.ref x), v9] ∧ BagAt H10 b l ∧ H10 x = some (.lst us3) ∧ TrsAt H10 us3 cs3 ∧ k ≤ 1000 ∧ RunK k 13 cs3 ∧ tszs cs3 ≤ 10000 ∧ DScr 0 (wr 13 cs3) (.ok cs3 []), ?_, ?_⟩
        · refine ⟨_, rfl, _, rfl, _, rfl, szt, ?_⟩
          obtain ⟨u, eu, hu1, hu2⟩ := cut_head t 1000
          rw [show ((1000 : Int)) = ((1000 : Nat) : Int) from rfl, eu]
          have oku : OkS u := fun c hc => ht.2 c (hu2 c hc)
          obtain ⟨o, hD⟩ := scr_tot u
          refine ⟨u, o, rfl, hu1, hD, ?_⟩
          cases o with
          | ok cs3 r =>
            intro v H10 s10 hv
            obtain ⟨x, us3, rfl, hx, hT3⟩ := hv
            obtain ⟨k1, k2, k3⟩ := read_write hD oku
            exact ⟨x, us3, cs3, u.length, rfl, B9.mono s10, hx, hT3, hu1, k1, by omega, k3⟩
          | er k =>
            intro d H10 s10 hd
            refine ⟨true, te1, fun _ a0 ha0 => ?_, fun z => Bool.noConfusion z⟩
            refine ⟨(by show 0 ≤ sizeLine; decide), fun x hx => ?_⟩
            refine ⟨x, [], [], 0, rfl, (B9.mono s10).mono (same_new hx _), upd_same, TrsAt.nil _, Nat.zero_le _, ⟨Nat.zero_le _, fun c hc => (by cases hc)⟩, Nat.zero_le _, .stop rfl⟩
        · rintro σ H10 ⟨x, us3, cs3, k, rfl, B10, hx, hT3, hk, hK3, hz3', hDw⟩
          refine ⟨_, rfl, x, us3, cs3, k, rfl, hx, hT3, hK3, by omega, by omega, fun H11 s11 => ?_⟩
          have hwl := wr_le4 k 13 cs3 hK3
          have szw : (S (wr 13 cs3)).length ≤ sizeLine := by rw [S_len]; exact Nat.le_trans (show _ ≤ 40000 by omega) (by decide)
          refine ⟨_, rfl, _, _, rfl, ⟨szw, rfl⟩, _, _, rfl, rfl, _, rfl, iteD (fun h1 => ?_) (fun _ => iteF (A := False) ⟨_, _, _, _, _, _, _, _, rfl, B10.mono s11⟩)⟩
          rw [S_len] at h1
          have h1k : (wr 13 cs3).length ≤ 1000 := by
            have : ((wr 13 cs3).length : Int) ≤ 1000 := h1
            omega
          refine ⟨_, rfl, wr 13 cs3, _, rfl, h1k, hDw, fun v H12 s12 hv => ?_⟩
          obtain ⟨x2, us4, rfl, hx2, hT4⟩ := hv
          have s02 := s11.trans s12
          have hg : Good 52 (.n cs3) := good_K (by omega) 13 cs3 hK3
          have hsh := joinP_shaped (d := 50) (by decide) fun t ht => hg.2 t ht
          have dp : ∀ {x : Addr} {us : List V}, H12 x = some (.lst us) → TrsAt H12 us cs3 → Dp K H12 (.ref x) (.list (dataTrs cs3)) := fun h h2 => .lst (SqL.of h) (dp_trs cs3 h2)
          refine ⟨_, rfl, .list (dataTrs cs3), .list (dataTrs cs3), dp hx2 hT4, dp (s02 _ _ hx) (hT3.mono (Same.tups s02)), hsh, hsh, _, rfl, ?_⟩
          rw [eqv_lst]
          refine iteF (A := False) ⟨_, rfl, wr 13 cs3, _, rfl, h1k, hDw, fun v H13 s13 hv => ?_⟩
          obtain ⟨x5, us5, rfl, hx5, hT5'⟩ := hv
          refine ⟨x5, us5, cs3, k, rfl, hx5, hT5', hK3, by omega, by omega, fun H14 s14 => ⟨_, rfl, rfl, _, rfl, ?_⟩⟩
          rw [decide_eq_true rfl]
          exact iteF (A := False) (iteF (A := False) ⟨_, _, _, _, _, _, _, _, rfl, ((B10.mono s02).mono s13).mono s14⟩)
  · rintro σ H2 ⟨v2, v3, v4, v5, v6, v7, v8, v9, rfl, B2⟩
    exact q H2
end
end My
namespace My
open PySem L2 SX C8
section
set_option maxHeartbeats 0 in
theorem all_mk {P : Program} {w : World} {K : PySem.W.Frag} {h : Heap} {mg : Str → Option Value} {fa : Addr} (X : K.In h) (G : h.Ns mainGlobals mg) (hfa : mg "law" = some (.ref fa))
    {f0 : Addr} {od0 an0 : Option Addr} {sl0 : Array (Option Value)} {oc0 kV0 dc0 pm0 cd0 ct0 : Value}
    (a0 : PySem.W.nsIn K mainGlobals "pair_end" = some (some (.ref f0)))
    (l0 : K.lookup f0 = some ⟨oc0, od0, .func (PySem.W.fnOf "pair_end" "pair_end" (fnArgs s_pair_end) (fnBody s_pair_end) (fnScope s_pair_end) .none kV0 dc0 pm0 an0 cd0 ct0), sl0⟩)
    (c0 : PySem.W.codeIn K cd0 "pair_end" = true)
    (k0 : PySem.W.keepIn K (.ref f0) = true)
    {f1 : Addr} {od1 an1 : Option Addr} {sl1 : Array (Option Value)} {oc1 kV1 dc1 pm1 cd1 ct1 : Value}
    (a1 : PySem.W.nsIn K mainGlobals "can_stand_in_braces" = some (some (.ref f1)))
    (l1 : K.lookup f1 = some ⟨oc1, od1, .func (PySem.W.fnOf "can_stand_in_braces" "can_stand_in_braces" (fnArgs s_can_stand_in_braces) (fnBody s_can_stand_in_braces) (fnScope s_can_stand_in_braces) .none kV1 dc1 pm1 an1 cd1 ct1), sl1⟩)
    (c1 : PySem.W.codeIn K cd1 "can_stand_in_braces" = true)
    (k1 : PySem.W.keepIn K (.ref f1) = true)
    {f2 : Addr} {od2 an2 : Option Addr} {sl2 : Array (Option Value)} {oc2 kV2 dc2 pm2 cd2 ct2 : Value}
    (a2 : PySem.W.nsIn K mainGlobals "is_letter" = some (some (.ref f2)))
    (l2 : K.lookup f2 = some ⟨oc2, od2, .func (PySem.W.fnOf "is_letter" "is_letter" (fnArgs s_is_letter) (fnBody s_is_letter) (fnScope s_is_letter) .none kV2 dc2 pm2 an2 cd2 ct2), sl2⟩)
    (c2 : PySem.W.codeIn K cd2 "is_letter" = true)
    (k2 : PySem.W.keepIn K (.ref f2) = true)
    {f3 : Addr} {od3 an3 : Option Addr} {sl3 : Array (Option Value)} {oc3 kV3 dc3 pm3 cd3 ct3 : Value}
    (a3 : PySem.W.nsIn K mainGlobals "is_name" = some (some (.ref f3)))
    (l3 : K.lookup f3 = some ⟨oc3, od3, .func (PySem.W.fnOf "is_name" "is_name" (fnArgs s_is_name) (fnBody s_is_name) (fnScope s_is_name) .none kV3 dc3 pm3 an3 cd3 ct3), sl3⟩)
    (c3 : PySem.W.codeIn K cd3 "is_name" = true)
    (k3 : PySem.W.keepIn K (.ref f3) = true)
    {f4 : Addr} {od4 an4 : Option Addr} {sl4 : Array (Option Value)} {oc4 kV4 dc4 pm4 cd4 ct4 : Value}
    (a4 : PySem.W.nsIn K mainGlobals "refuse_long" = some (some (.ref f4)))
    (l4 : K.lookup f4 = some ⟨oc4, od4, .func (PySem.W.fnOf "refuse_long" "refuse_long" (fnArgs s_refuse_long) (fnBody s_refuse_long) (fnScope s_refuse_long) .none kV4 dc4 pm4 an4 cd4 ct4), sl4⟩)
    (c4 : PySem.W.codeIn K cd4 "refuse_long" = true)
    (k4 : PySem.W.keepIn K (.ref f4) = true)
    {f5 : Addr} {od5 an5 : Option Addr} {sl5 : Array (Option Value)} {oc5 kV5 dc5 pm5 cd5 ct5 : Value}
    (a5 : PySem.W.nsIn K mainGlobals "turned_sign" = some (some (.ref f5)))
    (l5 : K.lookup f5 = some ⟨oc5, od5, .func (PySem.W.fnOf "turned_sign" "turned_sign" (fnArgs s_turned_sign) (fnBody s_turned_sign) (fnScope s_turned_sign) .none kV5 dc5 pm5 an5 cd5 ct5), sl5⟩)
    (c5 : PySem.W.codeIn K cd5 "turned_sign" = true)
    (k5 : PySem.W.keepIn K (.ref f5) = true)
    {f6 : Addr} {od6 an6 : Option Addr} {sl6 : Array (Option Value)} {oc6 kV6 dc6 pm6 cd6 ct6 : Value}
    (a6 : PySem.W.nsIn K mainGlobals "turned" = some (some (.ref f6)))
    (l6 : K.lookup f6 = some ⟨oc6, od6, .func (PySem.W.fnOf "turned" "turned" (fnArgs s_turned) (fnBody s_turned) (fnScope s_turned) .none kV6 dc6 pm6 an6 cd6 ct6), sl6⟩)
    (c6 : PySem.W.codeIn K cd6 "turned" = true)
    (k6 : PySem.W.keepIn K (.ref f6) = true)
    {f7 : Addr} {od7 an7 : Option Addr} {sl7 : Array (Option Value)} {oc7 kV7 dc7 pm7 cd7 ct7 : Value}
    (a7 : PySem.W.nsIn K mainGlobals "meant" = some (some (.ref f7)))
    (l7 : K.lookup f7 = some ⟨oc7, od7, .func (PySem.W.fnOf "meant" "meant" (fnArgs s_meant) (fnBody s_meant) (fnScope s_meant) .none kV7 dc7 pm7 an7 cd7 ct7), sl7⟩)
    (c7 : PySem.W.codeIn K cd7 "meant" = true)
    (k7 : PySem.W.keepIn K (.ref f7) = true)
    {f8 : Addr} {od8 an8 : Option Addr} {sl8 : Array (Option Value)} {oc8 kV8 dc8 pm8 cd8 ct8 : Value}
    (a8 : PySem.W.nsIn K mainGlobals "word_text" = some (some (.ref f8)))
    (l8 : K.lookup f8 = some ⟨oc8, od8, .func (PySem.W.fnOf "word_text" "word_text" (fnArgs s_word_text) (fnBody s_word_text) (fnScope s_word_text) .none kV8 dc8 pm8 an8 cd8 ct8), sl8⟩)
    (c8 : PySem.W.codeIn K cd8 "word_text" = true)
    (k8 : PySem.W.keepIn K (.ref f8) = true)
    {f9 : Addr} {od9 an9 : Option Addr} {sl9 : Array (Option Value)} {oc9 kV9 dc9 pm9 cd9 ct9 : Value}
    (a9 : PySem.W.nsIn K mainGlobals "written" = some (some (.ref f9)))
    (l9 : K.lookup f9 = some ⟨oc9, od9, .func (PySem.W.fnOf "written" "written" (fnArgs s_written) (fnBody s_written) (fnScope s_written) .none kV9 dc9 pm9 an9 cd9 ct9), sl9⟩)
    (c9 : PySem.W.codeIn K cd9 "written" = true)
    (k9 : PySem.W.keepIn K (.ref f9) = true)
    {f10 : Addr} {od10 an10 : Option Addr} {sl10 : Array (Option Value)} {oc10 kV10 dc10 pm10 cd10 ct10 : Value}
    (a10 : PySem.W.nsIn K mainGlobals "command_text" = some (some (.ref f10)))
    (l10 : K.lookup f10 = some ⟨oc10, od10, .func (PySem.W.fnOf "command_text" "command_text" (fnArgs s_command_text) (fnBody s_command_text) (fnScope s_command_text) .none kV10 dc10 pm10 an10 cd10 ct10), sl10⟩)
    (c10 : PySem.W.codeIn K cd10 "command_text" = true)
    (k10 : PySem.W.keepIn K (.ref f10) = true)
    {f11 : Addr} {od11 an11 : Option Addr} {sl11 : Array (Option Value)} {oc11 kV11 dc11 pm11 cd11 ct11 : Value}
    (a11 : PySem.W.nsIn K mainGlobals "pieces_text" = some (some (.ref f11)))
    (l11 : K.lookup f11 = some ⟨oc11, od11, .func (PySem.W.fnOf "pieces_text" "pieces_text" (fnArgs s_pieces_text) (fnBody s_pieces_text) (fnScope s_pieces_text) .none kV11 dc11 pm11 an11 cd11 ct11), sl11⟩)
    (c11 : PySem.W.codeIn K cd11 "pieces_text" = true)
    (k11 : PySem.W.keepIn K (.ref f11) = true)
    {f12 : Addr} {od12 an12 : Option Addr} {sl12 : Array (Option Value)} {oc12 kV12 dc12 pm12 cd12 ct12 : Value}
    (a12 : PySem.W.nsIn K mainGlobals "piece_text" = some (some (.ref f12)))
    (l12 : K.lookup f12 = some ⟨oc12, od12, .func (PySem.W.fnOf "piece_text" "piece_text" (fnArgs s_piece_text) (fnBody s_piece_text) (fnScope s_piece_text) .none kV12 dc12 pm12 an12 cd12 ct12), sl12⟩)
    (c12 : PySem.W.codeIn K cd12 "piece_text" = true)
    (k12 : PySem.W.keepIn K (.ref f12) = true)
    {f13 : Addr} {od13 an13 : Option Addr} {sl13 : Array (Option Value)} {oc13 kV13 dc13 pm13 cd13 ct13 : Value}
    (a13 : PySem.W.nsIn K mainGlobals "parsed" = some (some (.ref f13)))
    (l13 : K.lookup f13 = some ⟨oc13, od13, .func (PySem.W.fnOf "parsed" "parsed" (fnArgs s_parsed) (fnBody s_parsed) (fnScope s_parsed) .none kV13 dc13 pm13 an13 cd13 ct13), sl13⟩)
    (c13 : PySem.W.codeIn K cd13 "parsed" = true)
    (k13 : PySem.W.keepIn K (.ref f13) = true)
    {f14 : Addr} {od14 an14 : Option Addr} {sl14 : Array (Option Value)} {oc14 kV14 dc14 pm14 cd14 ct14 : Value}
    (a14 : PySem.W.nsIn K mainGlobals "joined" = some (some (.ref f14)))
    (l14 : K.lookup f14 = some ⟨oc14, od14, .func (PySem.W.fnOf "joined" "joined" (fnArgs s_joined) (fnBody s_joined) (fnScope s_joined) .none kV14 dc14 pm14 an14 cd14 ct14), sl14⟩)
    (c14 : PySem.W.codeIn K cd14 "joined" = true)
    (k14 : PySem.W.keepIn K (.ref f14) = true)
    {f15 : Addr} {od15 an15 : Option Addr} {sl15 : Array (Option Value)} {oc15 kV15 dc15 pm15 cd15 ct15 : Value}
    (a15 : PySem.W.nsIn K mainGlobals "_law_bag" = some (some (.ref f15)))
    (l15 : K.lookup f15 = some ⟨oc15, od15, .func (PySem.W.fnOf "_law_bag" "_law_bag" (fnArgs s__law_bag) (fnBody s__law_bag) (fnScope s__law_bag) .none kV15 dc15 pm15 an15 cd15 ct15), sl15⟩)
    (c15 : PySem.W.codeIn K cd15 "_law_bag" = true)
    (k15 : PySem.W.keepIn K (.ref f15) = true)
    {f16 : Addr} {od16 an16 : Option Addr} {sl16 : Array (Option Value)} {oc16 kV16 dc16 pm16 cd16 ct16 : Value}
    (a16 : PySem.W.nsIn K mainGlobals "_law_pull" = some (some (.ref f16)))
    (l16 : K.lookup f16 = some ⟨oc16, od16, .func (PySem.W.fnOf "_law_pull" "_law_pull" (fnArgs s__law_pull) (fnBody s__law_pull) (fnScope s__law_pull) .none kV16 dc16 pm16 an16 cd16 ct16), sl16⟩)
    (c16 : PySem.W.codeIn K cd16 "_law_pull" = true)
    (k16 : PySem.W.keepIn K (.ref f16) = true)
    {f17 : Addr} {od17 an17 : Option Addr} {sl17 : Array (Option Value)} {oc17 kV17 dc17 pm17 cd17 ct17 : Value}
    (a17 : PySem.W.nsIn K mainGlobals "_law_of" = some (some (.ref f17)))
    (l17 : K.lookup f17 = some ⟨oc17, od17, .func (PySem.W.fnOf "_law_of" "_law_of" (fnArgs s__law_of) (fnBody s__law_of) (fnScope s__law_of) .none kV17 dc17 pm17 an17 cd17 ct17), sl17⟩)
    (c17 : PySem.W.codeIn K cd17 "_law_of" = true)
    (k17 : PySem.W.keepIn K (.ref f17) = true)
    {f18 : Addr} {od18 an18 : Option Addr} {sl18 : Array (Option Value)} {oc18 kV18 dc18 pm18 cd18 ct18 : Value}
    (a18 : PySem.W.nsIn K mainGlobals "_law_name" = some (some (.ref f18)))
    (l18 : K.lookup f18 = some ⟨oc18, od18, .func (PySem.W.fnOf "_law_name" "_law_name" (fnArgs s__law_name) (fnBody s__law_name) (fnScope s__law_name) .none kV18 dc18 pm18 an18 cd18 ct18), sl18⟩)
    (c18 : PySem.W.codeIn K cd18 "_law_name" = true)
    (k18 : PySem.W.keepIn K (.ref f18) = true)
    {f19 : Addr} {od19 an19 : Option Addr} {sl19 : Array (Option Value)} {oc19 kV19 dc19 pm19 cd19 ct19 : Value}
    (a19 : PySem.W.nsIn K mainGlobals "_law_text" = some (some (.ref f19)))
    (l19 : K.lookup f19 = some ⟨oc19, od19, .func (PySem.W.fnOf "_law_text" "_law_text" (fnArgs s__law_text) (fnBody s__law_text) (fnScope s__law_text) .none kV19 dc19 pm19 an19 cd19 ct19), sl19⟩)
    (c19 : PySem.W.codeIn K cd19 "_law_text" = true)
    (k19 : PySem.W.keepIn K (.ref f19) = true)
    {f20 : Addr} {od20 an20 : Option Addr} {sl20 : Array (Option Value)} {oc20 kV20 dc20 pm20 cd20 ct20 : Value}
    (a20 : PySem.W.nsIn K mainGlobals "_law_pairs" = some (some (.ref f20)))
    (l20 : K.lookup f20 = some ⟨oc20, od20, .func (PySem.W.fnOf "_law_pairs" "_law_pairs" (fnArgs s__law_pairs) (fnBody s__law_pairs) (fnScope s__law_pairs) .none kV20 dc20 pm20 an20 cd20 ct20), sl20⟩)
    (c20 : PySem.W.codeIn K cd20 "_law_pairs" = true)
    (k20 : PySem.W.keepIn K (.ref f20) = true)
    {f21 : Addr} {od21 an21 : Option Addr} {sl21 : Array (Option Value)} {oc21 kV21 dc21 pm21 cd21 ct21 : Value}
    (a21 : PySem.W.nsIn K mainGlobals "_law_merged" = some (some (.ref f21)))
    (l21 : K.lookup f21 = some ⟨oc21, od21, .func (PySem.W.fnOf "_law_merged" "_law_merged" (fnArgs s__law_merged) (fnBody s__law_merged) (fnScope s__law_merged) .none kV21 dc21 pm21 an21 cd21 ct21), sl21⟩)
    (c21 : PySem.W.codeIn K cd21 "_law_merged" = true)
    (k21 : PySem.W.keepIn K (.ref f21) = true)
    {f22 : Addr} {od22 an22 : Option Addr} {sl22 : Array (Option Value)} {oc22 kV22 dc22 pm22 cd22 ct22 : Value}
    (a22 : PySem.W.nsIn K mainGlobals "_law_letters" = some (some (.ref f22)))
    (l22 : K.lookup f22 = some ⟨oc22, od22, .func (PySem.W.fnOf "_law_letters" "_law_letters" (fnArgs s__law_letters) (fnBody s__law_letters) (fnScope s__law_letters) .none kV22 dc22 pm22 an22 cd22 ct22), sl22⟩)
    (c22 : PySem.W.codeIn K cd22 "_law_letters" = true)
    (k22 : PySem.W.keepIn K (.ref f22) = true)
    {f23 : Addr} {od23 an23 : Option Addr} {sl23 : Array (Option Value)} {oc23 kV23 dc23 pm23 cd23 ct23 : Value}
    (a23 : PySem.W.nsIn K mainGlobals "_law_wild_word" = some (some (.ref f23)))
    (l23 : K.lookup f23 = some ⟨oc23, od23, .func (PySem.W.fnOf "_law_wild_word" "_law_wild_word" (fnArgs s__law_wild_word) (fnBody s__law_wild_word) (fnScope s__law_wild_word) .none kV23 dc23 pm23 an23 cd23 ct23), sl23⟩)
    (c23 : PySem.W.codeIn K cd23 "_law_wild_word" = true)
    (k23 : PySem.W.keepIn K (.ref f23) = true)
    {f24 : Addr} {od24 an24 : Option Addr} {sl24 : Array (Option Value)} {oc24 kV24 dc24 pm24 cd24 ct24 : Value}
    (a24 : PySem.W.nsIn K mainGlobals "_law_wild_tree" = some (some (.ref f24)))
    (l24 : K.lookup f24 = some ⟨oc24, od24, .func (PySem.W.fnOf "_law_wild_tree" "_law_wild_tree" (fnArgs s__law_wild_tree) (fnBody s__law_wild_tree) (fnScope s__law_wild_tree) .none kV24 dc24 pm24 an24 cd24 ct24), sl24⟩)
    (c24 : PySem.W.codeIn K cd24 "_law_wild_tree" = true)
    (k24 : PySem.W.keepIn K (.ref f24) = true)
    {f25 : Addr} {od25 an25 : Option Addr} {sl25 : Array (Option Value)} {oc25 kV25 dc25 pm25 cd25 ct25 : Value}
    (a25 : PySem.W.nsIn K mainGlobals "_law_spell" = some (some (.ref f25)))
    (l25 : K.lookup f25 = some ⟨oc25, od25, .func (PySem.W.fnOf "_law_spell" "_law_spell" (fnArgs s__law_spell) (fnBody s__law_spell) (fnScope s__law_spell) .none kV25 dc25 pm25 an25 cd25 ct25), sl25⟩)
    (c25 : PySem.W.codeIn K cd25 "_law_spell" = true)
    (k25 : PySem.W.keepIn K (.ref f25) = true)
    {f26 : Addr} {od26 an26 : Option Addr} {sl26 : Array (Option Value)} {oc26 kV26 dc26 pm26 cd26 ct26 : Value}
    (a26 : PySem.W.nsIn K mainGlobals "_law_spelt_word" = some (some (.ref f26)))
    (l26 : K.lookup f26 = some ⟨oc26, od26, .func (PySem.W.fnOf "_law_spelt_word" "_law_spelt_word" (fnArgs s__law_spelt_word) (fnBody s__law_spelt_word) (fnScope s__law_spelt_word) .none kV26 dc26 pm26 an26 cd26 ct26), sl26⟩)
    (c26 : PySem.W.codeIn K cd26 "_law_spelt_word" = true)
    (k26 : PySem.W.keepIn K (.ref f26) = true)
    {f27 : Addr} {od27 an27 : Option Addr} {sl27 : Array (Option Value)} {oc27 kV27 dc27 pm27 cd27 ct27 : Value}
    (a27 : PySem.W.nsIn K mainGlobals "_law_spelt" = some (some (.ref f27)))
    (l27 : K.lookup f27 = some ⟨oc27, od27, .func (PySem.W.fnOf "_law_spelt" "_law_spelt" (fnArgs s__law_spelt) (fnBody s__law_spelt) (fnScope s__law_spelt) .none kV27 dc27 pm27 an27 cd27 ct27), sl27⟩)
    (c27 : PySem.W.codeIn K cd27 "_law_spelt" = true)
    (k27 : PySem.W.keepIn K (.ref f27) = true)
    {f28 : Addr} {od28 an28 : Option Addr} {sl28 : Array (Option Value)} {oc28 kV28 dc28 pm28 cd28 ct28 : Value}
    (a28 : PySem.W.nsIn K mainGlobals "law" = some (some (.ref f28)))
    (l28 : K.lookup f28 = some ⟨oc28, od28, .func (PySem.W.fnOf "law" "law" (fnArgs s_law) (fnBody s_law) (fnScope s_law) .none kV28 dc28 pm28 an28 cd28 ct28), sl28⟩)
    (c28 : PySem.W.codeIn K cd28 "law" = true)
    (k28 : PySem.W.keepIn K (.ref f28) = true)
    (z0 : PySem.W.nsIn K mainGlobals "range" = some none)
    (z1 : PySem.W.nsIn K mainGlobals "len" = some none)
    (z2 : PySem.W.nsIn K mainGlobals "all" = some none)
    (z3 : PySem.W.nsIn K mainGlobals "reversed" = some none)
    (z4 : PySem.W.nsIn K mainGlobals "list" = some none)
    (z5 : PySem.W.nsIn K mainGlobals "tuple" = some none)
    (z6 : PySem.W.nsIn K mainGlobals "min" = some none)
    (z7 : PySem.W.nsIn K mainGlobals "int" = some none)
    (z8 : PySem.W.nsIn K mainGlobals "max" = some none)
    {t0 : Tok}
    (y0 : PySem.W.nsIn K mainGlobals "LONGEST_NAME" = some (some (.int 8 t0)))
    {t1 : Tok}
    (y1 : PySem.W.nsIn K mainGlobals "LONGEST" = some (some (.int 1000 t1)))
    {t2 : Tok}
    (y2 : PySem.W.nsIn K mainGlobals "TURNED_SIGNS" = some (some (.str (Str.ofString " \\{}\"$[];#") t2)))
    {t3 : Tok}
    (y3 : PySem.W.nsIn K mainGlobals "TURN" = some (some (.str (Str.ofString "\\") t3)))
    {t4 : Tok}
    (y4 : PySem.W.nsIn K mainGlobals "COMMAND_ENDS" = some (some (.str (Str.ofString "\n;") t4)))
    {t5 : Tok}
    (y5 : PySem.W.nsIn K mainGlobals "MOST_RUNS" = some (some (.int 12 t5)))
    {CBadScript : Addr}
    (gBadScript : PySem.W.nsIn K mainGlobals "BadScript" = some (some (.ref CBadScript)))
    {fBadScript___init__ : Addr} {odBadScript___init__ anBadScript___init__ : Option Addr} {slBadScript___init__ : Array (Option Value)} {ocBadScript___init__ kVBadScript___init__ dcBadScript___init__ pmBadScript___init__ cdBadScript___init__ ctBadScript___init__ : Value}
    (aBadScript___init__ : PySem.W.findIn K (.ref CBadScript) "__init__" = some (some (.ref fBadScript___init__)))
    (lBadScript___init__ : K.lookup fBadScript___init__ = some ⟨ocBadScript___init__, odBadScript___init__, .func (PySem.W.fnOf "__init__" "BadScript.__init__" (fnArgs s_BadScript___init__) (fnBody s_BadScript___init__) (fnScope s_BadScript___init__) .none kVBadScript___init__ dcBadScript___init__ pmBadScript___init__ anBadScript___init__ cdBadScript___init__ ctBadScript___init__), slBadScript___init__⟩)
    (cBadScript___init__ : PySem.W.codeIn K cdBadScript___init__ "BadScript.__init__" = true)
    (iBadScript___init__ : PySem.W.typeIn K (.ref fBadScript___init__) = some (.type "function"))
    (nBadScript_place : PySem.W.findIn K (.ref CBadScript) "place" = some none)
    {rBadScript0 : Addr}
    {nmBadScript qBadScript : Str} {NBadScript : Addr} {bsBadScript : List Value} {snBadScript : List Str} {subBadScript : List Value} {abBadScript : Bool} {colBadScript : Option Bool} {ddBadScript : Option Addr} {m0BadScript m1BadScript m2BadScript m3BadScript m5BadScript : Option Value}
    (xBadScript : K.lookup CBadScript = some (excClassObj nmBadScript qBadScript CBadScript NBadScript bsBadScript [.ref rBadScript0, .type "ValueError", .type "Exception", .type "BaseException", .type "object"] true snBadScript subBadScript abBadScript colBadScript ddBadScript m0BadScript m1BadScript m2BadScript m3BadScript m5BadScript "ValueError.__new__"))
    (saBadScript : PySem.W.findIn K (.ref CBadScript) "__setattr__" = some (some (.builtin "object.__setattr__")))
    (gaBadScript : PySem.W.findIn K (.ref CBadScript) "__getattribute__" = some (some (.builtin "BaseException.__getattribute__")))
    (ggBadScript : PySem.W.findIn K (.ref CBadScript) "__getattr__" = some none)
    (exBadScript : PySem.W.subIn K (.ref CBadScript) (.type "BaseException") = some true)
    (tyBadScript : PySem.W.typeIn K (.ref CBadScript) = some (.type "type"))
    (kcBadScript : PySem.W.keepIn K (.ref CBadScript) = true)
    (hdBadScript : PySem.W.hasDictIn K CBadScript = true)
    (icBadScript : PySem.W.isClsIn K CBadScript = true)
    (suBadScript : PySem.W.subIn K (.ref CBadScript) (.ref CBadScript) = some true)
    {CReader : Addr}
    (gReader : PySem.W.nsIn K mainGlobals "Reader" = some (some (.ref CReader)))
    {fReader___init__ : Addr} {odReader___init__ anReader___init__ : Option Addr} {slReader___init__ : Array (Option Value)} {ocReader___init__ kVReader___init__ dcReader___init__ pmReader___init__ cdReader___init__ ctReader___init__ : Value}
    (aReader___init__ : PySem.W.findIn K (.ref CReader) "__init__" = some (some (.ref fReader___init__)))
    (lReader___init__ : K.lookup fReader___init__ = some ⟨ocReader___init__, odReader___init__, .func (PySem.W.fnOf "__init__" "Reader.__init__" (fnArgs s_Reader___init__) (fnBody s_Reader___init__) (fnScope s_Reader___init__) .none kVReader___init__ dcReader___init__ pmReader___init__ anReader___init__ cdReader___init__ ctReader___init__), slReader___init__⟩)
    (cReader___init__ : PySem.W.codeIn K cdReader___init__ "Reader.__init__" = true)
    (iReader___init__ : PySem.W.isFn K (.ref fReader___init__) = true)
    (kReader___init__ : PySem.W.keepIn K (.ref fReader___init__) = true)
    {fReader_ends_text : Addr} {odReader_ends_text anReader_ends_text : Option Addr} {slReader_ends_text : Array (Option Value)} {ocReader_ends_text kVReader_ends_text dcReader_ends_text pmReader_ends_text cdReader_ends_text ctReader_ends_text : Value}
    (aReader_ends_text : PySem.W.findIn K (.ref CReader) "ends_text" = some (some (.ref fReader_ends_text)))
    (lReader_ends_text : K.lookup fReader_ends_text = some ⟨ocReader_ends_text, odReader_ends_text, .func (PySem.W.fnOf "ends_text" "Reader.ends_text" (fnArgs s_Reader_ends_text) (fnBody s_Reader_ends_text) (fnScope s_Reader_ends_text) .none kVReader_ends_text dcReader_ends_text pmReader_ends_text anReader_ends_text cdReader_ends_text ctReader_ends_text), slReader_ends_text⟩)
    (cReader_ends_text : PySem.W.codeIn K cdReader_ends_text "Reader.ends_text" = true)
    (iReader_ends_text : PySem.W.isFn K (.ref fReader_ends_text) = true)
    (kReader_ends_text : PySem.W.keepIn K (.ref fReader_ends_text) = true)
    {fReader_ends_script : Addr} {odReader_ends_script anReader_ends_script : Option Addr} {slReader_ends_script : Array (Option Value)} {ocReader_ends_script kVReader_ends_script dcReader_ends_script pmReader_ends_script cdReader_ends_script ctReader_ends_script : Value}
    (aReader_ends_script : PySem.W.findIn K (.ref CReader) "ends_script" = some (some (.ref fReader_ends_script)))
    (lReader_ends_script : K.lookup fReader_ends_script = some ⟨ocReader_ends_script, odReader_ends_script, .func (PySem.W.fnOf "ends_script" "Reader.ends_script" (fnArgs s_Reader_ends_script) (fnBody s_Reader_ends_script) (fnScope s_Reader_ends_script) .none kVReader_ends_script dcReader_ends_script pmReader_ends_script anReader_ends_script cdReader_ends_script ctReader_ends_script), slReader_ends_script⟩)
    (cReader_ends_script : PySem.W.codeIn K cdReader_ends_script "Reader.ends_script" = true)
    (iReader_ends_script : PySem.W.isFn K (.ref fReader_ends_script) = true)
    (kReader_ends_script : PySem.W.keepIn K (.ref fReader_ends_script) = true)
    {fReader_ends_command : Addr} {odReader_ends_command anReader_ends_command : Option Addr} {slReader_ends_command : Array (Option Value)} {ocReader_ends_command kVReader_ends_command dcReader_ends_command pmReader_ends_command cdReader_ends_command ctReader_ends_command : Value}
    (aReader_ends_command : PySem.W.findIn K (.ref CReader) "ends_command" = some (some (.ref fReader_ends_command)))
    (lReader_ends_command : K.lookup fReader_ends_command = some ⟨ocReader_ends_command, odReader_ends_command, .func (PySem.W.fnOf "ends_command" "Reader.ends_command" (fnArgs s_Reader_ends_command) (fnBody s_Reader_ends_command) (fnScope s_Reader_ends_command) .none kVReader_ends_command dcReader_ends_command pmReader_ends_command anReader_ends_command cdReader_ends_command ctReader_ends_command), slReader_ends_command⟩)
    (cReader_ends_command : PySem.W.codeIn K cdReader_ends_command "Reader.ends_command" = true)
    (iReader_ends_command : PySem.W.isFn K (.ref fReader_ends_command) = true)
    (kReader_ends_command : PySem.W.keepIn K (.ref fReader_ends_command) = true)
    {fReader_ends_word : Addr} {odReader_ends_word anReader_ends_word : Option Addr} {slReader_ends_word : Array (Option Value)} {ocReader_ends_word kVReader_ends_word dcReader_ends_word pmReader_ends_word cdReader_ends_word ctReader_ends_word : Value}
    (aReader_ends_word : PySem.W.findIn K (.ref CReader) "ends_word" = some (some (.ref fReader_ends_word)))
    (lReader_ends_word : K.lookup fReader_ends_word = some ⟨ocReader_ends_word, odReader_ends_word, .func (PySem.W.fnOf "ends_word" "Reader.ends_word" (fnArgs s_Reader_ends_word) (fnBody s_Reader_ends_word) (fnScope s_Reader_ends_word) .none kVReader_ends_word dcReader_ends_word pmReader_ends_word anReader_ends_word cdReader_ends_word ctReader_ends_word), slReader_ends_word⟩)
    (cReader_ends_word : PySem.W.codeIn K cdReader_ends_word "Reader.ends_word" = true)
    (iReader_ends_word : PySem.W.isFn K (.ref fReader_ends_word) = true)
    (kReader_ends_word : PySem.W.keepIn K (.ref fReader_ends_word) = true)
    {fReader_read_script : Addr} {odReader_read_script anReader_read_script : Option Addr} {slReader_read_script : Array (Option Value)} {ocReader_read_script kVReader_read_script dcReader_read_script pmReader_read_script cdReader_read_script ctReader_read_script : Value}
    (aReader_read_script : PySem.W.findIn K (.ref CReader) "read_script" = some (some (.ref fReader_read_script)))
    (lReader_read_script : K.lookup fReader_read_script = some ⟨ocReader_read_script, odReader_read_script, .func (PySem.W.fnOf "read_script" "Reader.read_script" (fnArgs s_Reader_read_script) (fnBody s_Reader_read_script) (fnScope s_Reader_read_script) .none kVReader_read_script dcReader_read_script pmReader_read_script anReader_read_script cdReader_read_script ctReader_read_script), slReader_read_script⟩)
    (cReader_read_script : PySem.W.codeIn K cdReader_read_script "Reader.read_script" = true)
    (iReader_read_script : PySem.W.isFn K (.ref fReader_read_script) = true)
    (kReader_read_script : PySem.W.keepIn K (.ref fReader_read_script) = true)
    {fReader_pass_remark : Addr} {odReader_pass_remark anReader_pass_remark : Option Addr} {slReader_pass_remark : Array (Option Value)} {ocReader_pass_remark kVReader_pass_remark dcReader_pass_remark pmReader_pass_remark cdReader_pass_remark ctReader_pass_remark : Value}
    (aReader_pass_remark : PySem.W.findIn K (.ref CReader) "pass_remark" = some (some (.ref fReader_pass_remark)))
    (lReader_pass_remark : K.lookup fReader_pass_remark = some ⟨ocReader_pass_remark, odReader_pass_remark, .func (PySem.W.fnOf "pass_remark" "Reader.pass_remark" (fnArgs s_Reader_pass_remark) (fnBody s_Reader_pass_remark) (fnScope s_Reader_pass_remark) .none kVReader_pass_remark dcReader_pass_remark pmReader_pass_remark anReader_pass_remark cdReader_pass_remark ctReader_pass_remark), slReader_pass_remark⟩)
    (cReader_pass_remark : PySem.W.codeIn K cdReader_pass_remark "Reader.pass_remark" = true)
    (iReader_pass_remark : PySem.W.isFn K (.ref fReader_pass_remark) = true)
    (kReader_pass_remark : PySem.W.keepIn K (.ref fReader_pass_remark) = true)
    {fReader_read_command : Addr} {odReader_read_command anReader_read_command : Option Addr} {slReader_read_command : Array (Option Value)} {ocReader_read_command kVReader_read_command dcReader_read_command pmReader_read_command cdReader_read_command ctReader_read_command : Value}
    (aReader_read_command : PySem.W.findIn K (.ref CReader) "read_command" = some (some (.ref fReader_read_command)))
    (lReader_read_command : K.lookup fReader_read_command = some ⟨ocReader_read_command, odReader_read_command, .func (PySem.W.fnOf "read_command" "Reader.read_command" (fnArgs s_Reader_read_command) (fnBody s_Reader_read_command) (fnScope s_Reader_read_command) .none kVReader_read_command dcReader_read_command pmReader_read_command anReader_read_command cdReader_read_command ctReader_read_command), slReader_read_command⟩)
    (cReader_read_command : PySem.W.codeIn K cdReader_read_command "Reader.read_command" = true)
    (iReader_read_command : PySem.W.isFn K (.ref fReader_read_command) = true)
    (kReader_read_command : PySem.W.keepIn K (.ref fReader_read_command) = true)
    {fReader_read_word : Addr} {odReader_read_word anReader_read_word : Option Addr} {slReader_read_word : Array (Option Value)} {ocReader_read_word kVReader_read_word dcReader_read_word pmReader_read_word cdReader_read_word ctReader_read_word : Value}
    (aReader_read_word : PySem.W.findIn K (.ref CReader) "read_word" = some (some (.ref fReader_read_word)))
    (lReader_read_word : K.lookup fReader_read_word = some ⟨ocReader_read_word, odReader_read_word, .func (PySem.W.fnOf "read_word" "Reader.read_word" (fnArgs s_Reader_read_word) (fnBody s_Reader_read_word) (fnScope s_Reader_read_word) .none kVReader_read_word dcReader_read_word pmReader_read_word anReader_read_word cdReader_read_word ctReader_read_word), slReader_read_word⟩)
    (cReader_read_word : PySem.W.codeIn K cdReader_read_word "Reader.read_word" = true)
    (iReader_read_word : PySem.W.isFn K (.ref fReader_read_word) = true)
    (kReader_read_word : PySem.W.keepIn K (.ref fReader_read_word) = true)
    {fReader_read_braced : Addr} {odReader_read_braced anReader_read_braced : Option Addr} {slReader_read_braced : Array (Option Value)} {ocReader_read_braced kVReader_read_braced dcReader_read_braced pmReader_read_braced cdReader_read_braced ctReader_read_braced : Value}
    (aReader_read_braced : PySem.W.findIn K (.ref CReader) "read_braced" = some (some (.ref fReader_read_braced)))
    (lReader_read_braced : K.lookup fReader_read_braced = some ⟨ocReader_read_braced, odReader_read_braced, .func (PySem.W.fnOf "read_braced" "Reader.read_braced" (fnArgs s_Reader_read_braced) (fnBody s_Reader_read_braced) (fnScope s_Reader_read_braced) .none kVReader_read_braced dcReader_read_braced pmReader_read_braced anReader_read_braced cdReader_read_braced ctReader_read_braced), slReader_read_braced⟩)
    (cReader_read_braced : PySem.W.codeIn K cdReader_read_braced "Reader.read_braced" = true)
    (iReader_read_braced : PySem.W.isFn K (.ref fReader_read_braced) = true)
    (kReader_read_braced : PySem.W.keepIn K (.ref fReader_read_braced) = true)
    {fReader_read_quoted : Addr} {odReader_read_quoted anReader_read_quoted : Option Addr} {slReader_read_quoted : Array (Option Value)} {ocReader_read_quoted kVReader_read_quoted dcReader_read_quoted pmReader_read_quoted cdReader_read_quoted ctReader_read_quoted : Value}
    (aReader_read_quoted : PySem.W.findIn K (.ref CReader) "read_quoted" = some (some (.ref fReader_read_quoted)))
    (lReader_read_quoted : K.lookup fReader_read_quoted = some ⟨ocReader_read_quoted, odReader_read_quoted, .func (PySem.W.fnOf "read_quoted" "Reader.read_quoted" (fnArgs s_Reader_read_quoted) (fnBody s_Reader_read_quoted) (fnScope s_Reader_read_quoted) .none kVReader_read_quoted dcReader_read_quoted pmReader_read_quoted anReader_read_quoted cdReader_read_quoted ctReader_read_quoted), slReader_read_quoted⟩)
    (cReader_read_quoted : PySem.W.codeIn K cdReader_read_quoted "Reader.read_quoted" = true)
    (iReader_read_quoted : PySem.W.isFn K (.ref fReader_read_quoted) = true)
    (kReader_read_quoted : PySem.W.keepIn K (.ref fReader_read_quoted) = true)
    {fReader_read_bare : Addr} {odReader_read_bare anReader_read_bare : Option Addr} {slReader_read_bare : Array (Option Value)} {ocReader_read_bare kVReader_read_bare dcReader_read_bare pmReader_read_bare cdReader_read_bare ctReader_read_bare : Value}
    (aReader_read_bare : PySem.W.findIn K (.ref CReader) "read_bare" = some (some (.ref fReader_read_bare)))
    (lReader_read_bare : K.lookup fReader_read_bare = some ⟨ocReader_read_bare, odReader_read_bare, .func (PySem.W.fnOf "read_bare" "Reader.read_bare" (fnArgs s_Reader_read_bare) (fnBody s_Reader_read_bare) (fnScope s_Reader_read_bare) .none kVReader_read_bare dcReader_read_bare pmReader_read_bare anReader_read_bare cdReader_read_bare ctReader_read_bare), slReader_read_bare⟩)
    (cReader_read_bare : PySem.W.codeIn K cdReader_read_bare "Reader.read_bare" = true)
    (iReader_read_bare : PySem.W.isFn K (.ref fReader_read_bare) = true)
    (kReader_read_bare : PySem.W.keepIn K (.ref fReader_read_bare) = true)
    {fReader_read_piece : Addr} {odReader_read_piece anReader_read_piece : Option Addr} {slReader_read_piece : Array (Option Value)} {ocReader_read_piece kVReader_read_piece dcReader_read_piece pmReader_read_piece cdReader_read_piece ctReader_read_piece : Value}
    (aReader_read_piece : PySem.W.findIn K (.ref CReader) "read_piece" = some (some (.ref fReader_read_piece)))
    (lReader_read_piece : K.lookup fReader_read_piece = some ⟨ocReader_read_piece, odReader_read_piece, .func (PySem.W.fnOf "read_piece" "Reader.read_piece" (fnArgs s_Reader_read_piece) (fnBody s_Reader_read_piece) (fnScope s_Reader_read_piece) .none kVReader_read_piece dcReader_read_piece pmReader_read_piece anReader_read_piece cdReader_read_piece ctReader_read_piece), slReader_read_piece⟩)
    (cReader_read_piece : PySem.W.codeIn K cdReader_read_piece "Reader.read_piece" = true)
    (iReader_read_piece : PySem.W.isFn K (.ref fReader_read_piece) = true)
    (kReader_read_piece : PySem.W.keepIn K (.ref fReader_read_piece) = true)
    {fReader_read_turned : Addr} {odReader_read_turned anReader_read_turned : Option Addr} {slReader_read_turned : Array (Option Value)} {ocReader_read_turned kVReader_read_turned dcReader_read_turned pmReader_read_turned cdReader_read_turned ctReader_read_turned : Value}
    (aReader_read_turned : PySem.W.findIn K (.ref CReader) "read_turned" = some (some (.ref fReader_read_turned)))
    (lReader_read_turned : K.lookup fReader_read_turned = some ⟨ocReader_read_turned, odReader_read_turned, .func (PySem.W.fnOf "read_turned" "Reader.read_turned" (fnArgs s_Reader_read_turned) (fnBody s_Reader_read_turned) (fnScope s_Reader_read_turned) .none kVReader_read_turned dcReader_read_turned pmReader_read_turned anReader_read_turned cdReader_read_turned ctReader_read_turned), slReader_read_turned⟩)
    (cReader_read_turned : PySem.W.codeIn K cdReader_read_turned "Reader.read_turned" = true)
    (iReader_read_turned : PySem.W.isFn K (.ref fReader_read_turned) = true)
    (kReader_read_turned : PySem.W.keepIn K (.ref fReader_read_turned) = true)
    {fReader_read_name : Addr} {odReader_read_name anReader_read_name : Option Addr} {slReader_read_name : Array (Option Value)} {ocReader_read_name kVReader_read_name dcReader_read_name pmReader_read_name cdReader_read_name ctReader_read_name : Value}
    (aReader_read_name : PySem.W.findIn K (.ref CReader) "read_name" = some (some (.ref fReader_read_name)))
    (lReader_read_name : K.lookup fReader_read_name = some ⟨ocReader_read_name, odReader_read_name, .func (PySem.W.fnOf "read_name" "Reader.read_name" (fnArgs s_Reader_read_name) (fnBody s_Reader_read_name) (fnScope s_Reader_read_name) .none kVReader_read_name dcReader_read_name pmReader_read_name anReader_read_name cdReader_read_name ctReader_read_name), slReader_read_name⟩)
    (cReader_read_name : PySem.W.codeIn K cdReader_read_name "Reader.read_name" = true)
    (iReader_read_name : PySem.W.isFn K (.ref fReader_read_name) = true)
    (kReader_read_name : PySem.W.keepIn K (.ref fReader_read_name) = true)
    {fReader_read_letters : Addr} {odReader_read_letters anReader_read_letters : Option Addr} {slReader_read_letters : Array (Option Value)} {ocReader_read_letters kVReader_read_letters dcReader_read_letters pmReader_read_letters cdReader_read_letters ctReader_read_letters : Value}
    (aReader_read_letters : PySem.W.findIn K (.ref CReader) "read_letters" = some (some (.ref fReader_read_letters)))
    (lReader_read_letters : K.lookup fReader_read_letters = some ⟨ocReader_read_letters, odReader_read_letters, .func (PySem.W.fnOf "read_letters" "Reader.read_letters" (fnArgs s_Reader_read_letters) (fnBody s_Reader_read_letters) (fnScope s_Reader_read_letters) .none kVReader_read_letters dcReader_read_letters pmReader_read_letters anReader_read_letters cdReader_read_letters ctReader_read_letters), slReader_read_letters⟩)
    (cReader_read_letters : PySem.W.codeIn K cdReader_read_letters "Reader.read_letters" = true)
    (iReader_read_letters : PySem.W.isFn K (.ref fReader_read_letters) = true)
    (kReader_read_letters : PySem.W.keepIn K (.ref fReader_read_letters) = true)
    {fReader_read_run : Addr} {odReader_read_run anReader_read_run : Option Addr} {slReader_read_run : Array (Option Value)} {ocReader_read_run kVReader_read_run dcReader_read_run pmReader_read_run cdReader_read_run ctReader_read_run : Value}
    (aReader_read_run : PySem.W.findIn K (.ref CReader) "read_run" = some (some (.ref fReader_read_run)))
    (lReader_read_run : K.lookup fReader_read_run = some ⟨ocReader_read_run, odReader_read_run, .func (PySem.W.fnOf "read_run" "Reader.read_run" (fnArgs s_Reader_read_run) (fnBody s_Reader_read_run) (fnScope s_Reader_read_run) .none kVReader_read_run dcReader_read_run pmReader_read_run anReader_read_run cdReader_read_run ctReader_read_run), slReader_read_run⟩)
    (cReader_read_run : PySem.W.codeIn K cdReader_read_run "Reader.read_run" = true)
    (iReader_read_run : PySem.W.isFn K (.ref fReader_read_run) = true)
    (kReader_read_run : PySem.W.keepIn K (.ref fReader_read_run) = true)
    (nReader_source : PySem.W.findIn K (.ref CReader) "source" = some none)
    (nReader_at : PySem.W.findIn K (.ref CReader) "at" = some none)
    (nReader_within : PySem.W.findIn K (.ref CReader) "within" = some none)
    (pgReader : PySem.W.plainGet K CReader Str.empty = true)
    (hdReader : PySem.W.hasDictIn K CReader = true)
    (poReader : PySem.W.plainOver K CReader = true)
    (saReader : PySem.W.findIn K (.ref CReader) "__setattr__" = some (some (.builtin "object.__setattr__")))
    (mkReader : PySem.W.makesIn K CReader = true)
    (kcReader : PySem.W.keepIn K (.ref CReader) = true)
    : ∃ fd : FuncData, (∀ (s : Shared) (v : Value), BindsTo s fd ⟨[v], []⟩ [("_law_script", v)]) ∧ ∀ base : Heap, K.In base → base.Ns mainGlobals mg → FnOk P w K mg base C8.CX0 91 fa fd ["_law_script"] (spLaw K) := by
  have e := hfa.symm.trans (PySem.W.mg_of X G a28)
  cases e
  have T : Txt mg := ⟨PySem.W.mg_none_of X G z0, PySem.W.mg_none_of X G z1, PySem.W.mg_none_of X G z2, PySem.W.mg_none_of X G z3, PySem.W.mg_none_of X G z4, PySem.W.mg_none_of X G z5, PySem.W.mg_none_of X G z6, PySem.W.mg_none_of X G z7, PySem.W.mg_none_of X G z8, ⟨_, PySem.W.mg_of X G y0, ⟨_, rfl⟩⟩, ⟨_, PySem.W.mg_of X G y1, ⟨_, rfl⟩⟩, ⟨_, PySem.W.mg_of X G y2, ⟨_, rfl⟩⟩, ⟨_, PySem.W.mg_of X G y3, ⟨_, rfl⟩⟩, ⟨_, PySem.W.mg_of X G y4, ⟨_, rfl⟩⟩, ⟨_, PySem.W.mg_of X G y5, ⟨_, rfl⟩⟩⟩
  have F_pair_end : Def K mg "pair_end" s_pair_end f0 _ := ⟨⟨oc0, od0, .none, kV0, dc0, pm0, an0, cd0, ct0, sl0, rfl, l0, c0⟩, PySem.W.mg_of X G a0, k0⟩
  have b_pair_end := F_pair_end.fn.binds (ps := ["text", "start"]) rfl fun _ _ _ _ _ _ us hl => match us, hl with | [_, _], _ => rfl
  have F_can_stand_in_braces : Def K mg "can_stand_in_braces" s_can_stand_in_braces f1 _ := ⟨⟨oc1, od1, .none, kV1, dc1, pm1, an1, cd1, ct1, sl1, rfl, l1, c1⟩, PySem.W.mg_of X G a1, k1⟩
  have b_can_stand_in_braces := F_can_stand_in_braces.fn.binds (ps := ["word"]) rfl fun _ _ _ _ _ _ us hl => match us, hl with | [_], _ => rfl
  have F_is_letter : Def K mg "is_letter" s_is_letter f2 _ := ⟨⟨oc2, od2, .none, kV2, dc2, pm2, an2, cd2, ct2, sl2, rfl, l2, c2⟩, PySem.W.mg_of X G a2, k2⟩
  have b_is_letter := F_is_letter.fn.binds (ps := ["sign"]) rfl fun _ _ _ _ _ _ us hl => match us, hl with | [_], _ => rfl
  have F_is_name : Def K mg "is_name" s_is_name f3 _ := ⟨⟨oc3, od3, .none, kV3, dc3, pm3, an3, cd3, ct3, sl3, rfl, l3, c3⟩, PySem.W.mg_of X G a3, k3⟩
  have b_is_name := F_is_name.fn.binds (ps := ["text"]) rfl fun _ _ _ _ _ _ us hl => match us, hl with | [_], _ => rfl
  have F_refuse_long : Def K mg "refuse_long" s_refuse_long f4 _ := ⟨⟨oc4, od4, .none, kV4, dc4, pm4, an4, cd4, ct4, sl4, rfl, l4, c4⟩, PySem.W.mg_of X G a4, k4⟩
  have b_refuse_long := F_refuse_long.fn.binds (ps := ["text"]) rfl fun _ _ _ _ _ _ us hl => match us, hl with | [_], _ => rfl
  have F_turned_sign : Def K mg "turned_sign" s_turned_sign f5 _ := ⟨⟨oc5, od5, .none, kV5, dc5, pm5, an5, cd5, ct5, sl5, rfl, l5, c5⟩, PySem.W.mg_of X G a5, k5⟩
  have b_turned_sign := F_turned_sign.fn.binds (ps := ["sign"]) rfl fun _ _ _ _ _ _ us hl => match us, hl with | [_], _ => rfl
  have F_turned : Def K mg "turned" s_turned f6 _ := ⟨⟨oc6, od6, .none, kV6, dc6, pm6, an6, cd6, ct6, sl6, rfl, l6, c6⟩, PySem.W.mg_of X G a6, k6⟩
  have b_turned := F_turned.fn.binds (ps := ["text"]) rfl fun _ _ _ _ _ _ us hl => match us, hl with | [_], _ => rfl
  have F_meant : Def K mg "meant" s_meant f7 _ := ⟨⟨oc7, od7, .none, kV7, dc7, pm7, an7, cd7, ct7, sl7, rfl, l7, c7⟩, PySem.W.mg_of X G a7, k7⟩
  have b_meant := F_meant.fn.binds (ps := ["sign"]) rfl fun _ _ _ _ _ _ us hl => match us, hl with | [_], _ => rfl
  have F_word_text : Def K mg "word_text" s_word_text f8 _ := ⟨⟨oc8, od8, .none, kV8, dc8, pm8, an8, cd8, ct8, sl8, rfl, l8, c8⟩, PySem.W.mg_of X G a8, k8⟩
  have b_word_text := F_word_text.fn.binds (ps := ["word"]) rfl fun _ _ _ _ _ _ us hl => match us, hl with | [_], _ => rfl
  have F_written : Def K mg "written" s_written f9 _ := ⟨⟨oc9, od9, .none, kV9, dc9, pm9, an9, cd9, ct9, sl9, rfl, l9, c9⟩, PySem.W.mg_of X G a9, k9⟩
  have b_written := F_written.fn.binds (ps := ["commands"]) rfl fun _ _ _ _ _ _ us hl => match us, hl with | [_], _ => rfl
  have F_command_text : Def K mg "command_text" s_command_text f10 _ := ⟨⟨oc10, od10, .none, kV10, dc10, pm10, an10, cd10, ct10, sl10, rfl, l10, c10⟩, PySem.W.mg_of X G a10, k10⟩
  have b_command_text := F_command_text.fn.binds (ps := ["words"]) rfl fun _ _ _ _ _ _ us hl => match us, hl with | [_], _ => rfl
  have F_pieces_text : Def K mg "pieces_text" s_pieces_text f11 _ := ⟨⟨oc11, od11, .none, kV11, dc11, pm11, an11, cd11, ct11, sl11, rfl, l11, c11⟩, PySem.W.mg_of X G a11, k11⟩
  have b_pieces_text := F_pieces_text.fn.binds (ps := ["pieces"]) rfl fun _ _ _ _ _ _ us hl => match us, hl with | [_], _ => rfl
  have F_piece_text : Def K mg "piece_text" s_piece_text f12 _ := ⟨⟨oc12, od12, .none, kV12, dc12, pm12, an12, cd12, ct12, sl12, rfl, l12, c12⟩, PySem.W.mg_of X G a12, k12⟩
  have b_piece_text := F_piece_text.fn.binds (ps := ["kind", "worth", "behind"]) rfl fun _ _ _ _ _ _ us hl => match us, hl with | [_, _, _], _ => rfl
  have F_parsed : Def K mg "parsed" s_parsed f13 _ := ⟨⟨oc13, od13, .none, kV13, dc13, pm13, an13, cd13, ct13, sl13, rfl, l13, c13⟩, PySem.W.mg_of X G a13, k13⟩
  have b_parsed := F_parsed.fn.binds (ps := ["text"]) rfl fun _ _ _ _ _ _ us hl => match us, hl with | [_], _ => rfl
  have F_joined : Def K mg "joined" s_joined f14 _ := ⟨⟨oc14, od14, .none, kV14, dc14, pm14, an14, cd14, ct14, sl14, rfl, l14, c14⟩, PySem.W.mg_of X G a14, k14⟩
  have b_joined := F_joined.fn.binds (ps := ["pieces"]) rfl fun _ _ _ _ _ _ us hl => match us, hl with | [_], _ => rfl
  have F__law_bag : Def K mg "_law_bag" s__law_bag f15 _ := ⟨⟨oc15, od15, .none, kV15, dc15, pm15, an15, cd15, ct15, sl15, rfl, l15, c15⟩, PySem.W.mg_of X G a15, k15⟩
  have b__law_bag := F__law_bag.fn.binds (ps := ["_law_script"]) rfl fun _ _ _ _ _ _ us hl => match us, hl with | [_], _ => rfl
  have F__law_pull : Def K mg "_law_pull" s__law_pull f16 _ := ⟨⟨oc16, od16, .none, kV16, dc16, pm16, an16, cd16, ct16, sl16, rfl, l16, c16⟩, PySem.W.mg_of X G a16, k16⟩
  have b__law_pull := F__law_pull.fn.binds (ps := ["_law_bag_here", "_law_amount"]) rfl fun _ _ _ _ _ _ us hl => match us, hl with | [_, _], _ => rfl
  have F__law_of : Def K mg "_law_of" s__law_of f17 _ := ⟨⟨oc17, od17, .none, kV17, dc17, pm17, an17, cd17, ct17, sl17, rfl, l17, c17⟩, PySem.W.mg_of X G a17, k17⟩
  have b__law_of := F__law_of.fn.binds (ps := ["_law_bag_here", "_law_things"]) rfl fun _ _ _ _ _ _ us hl => match us, hl with | [_, _], _ => rfl
  have F__law_name : Def K mg "_law_name" s__law_name f18 _ := ⟨⟨oc18, od18, .none, kV18, dc18, pm18, an18, cd18, ct18, sl18, rfl, l18, c18⟩, PySem.W.mg_of X G a18, k18⟩
  have b__law_name := F__law_name.fn.binds (ps := ["_law_bag_here"]) rfl fun _ _ _ _ _ _ us hl => match us, hl with | [_], _ => rfl
  have F__law_text : Def K mg "_law_text" s__law_text f19 _ := ⟨⟨oc19, od19, .none, kV19, dc19, pm19, an19, cd19, ct19, sl19, rfl, l19, c19⟩, PySem.W.mg_of X G a19, k19⟩
  have b__law_text := F__law_text.fn.binds (ps := ["_law_bag_here", "_law_top"]) rfl fun _ _ _ _ _ _ us hl => match us, hl with | [_, _], _ => rfl
  have F__law_pairs : Def K mg "_law_pairs" s__law_pairs f20 _ := ⟨⟨oc20, od20, .none, kV20, dc20, pm20, an20, cd20, ct20, sl20, rfl, l20, c20⟩, PySem.W.mg_of X G a20, k20⟩
  have b__law_pairs := F__law_pairs.fn.binds (ps := ["_law_text_here"]) rfl fun _ _ _ _ _ _ us hl => match us, hl with | [_], _ => rfl
  have F__law_merged : Def K mg "_law_merged" s__law_merged f21 _ := ⟨⟨oc21, od21, .none, kV21, dc21, pm21, an21, cd21, ct21, sl21, rfl, l21, c21⟩, PySem.W.mg_of X G a21, k21⟩
  have b__law_merged := F__law_merged.fn.binds (ps := ["_law_pieces"]) rfl fun _ _ _ _ _ _ us hl => match us, hl with | [_], _ => rfl
  have F__law_letters : Def K mg "_law_letters" s__law_letters f22 _ := ⟨⟨oc22, od22, .none, kV22, dc22, pm22, an22, cd22, ct22, sl22, rfl, l22, c22⟩, PySem.W.mg_of X G a22, k22⟩
  have b__law_letters := F__law_letters.fn.binds (ps := ["_law_text_here"]) rfl fun _ _ _ _ _ _ us hl => match us, hl with | [_], _ => rfl
  have F__law_wild_word : Def K mg "_law_wild_word" s__law_wild_word f23 _ := ⟨⟨oc23, od23, .none, kV23, dc23, pm23, an23, cd23, ct23, sl23, rfl, l23, c23⟩, PySem.W.mg_of X G a23, k23⟩
  have b__law_wild_word := F__law_wild_word.fn.binds (ps := ["_law_bag_here", "_law_deep"]) rfl fun _ _ _ _ _ _ us hl => match us, hl with | [_, _], _ => rfl
  have F__law_wild_tree : Def K mg "_law_wild_tree" s__law_wild_tree f24 _ := ⟨⟨oc24, od24, .none, kV24, dc24, pm24, an24, cd24, ct24, sl24, rfl, l24, c24⟩, PySem.W.mg_of X G a24, k24⟩
  have b__law_wild_tree := F__law_wild_tree.fn.binds (ps := ["_law_bag_here", "_law_deep"]) rfl fun _ _ _ _ _ _ us hl => match us, hl with | [_, _], _ => rfl
  have F__law_spell : Def K mg "_law_spell" s__law_spell f25 _ := ⟨⟨oc25, od25, .none, kV25, dc25, pm25, an25, cd25, ct25, sl25, rfl, l25, c25⟩, PySem.W.mg_of X G a25, k25⟩
  have b__law_spell := F__law_spell.fn.binds (ps := ["_law_bag_here", "_law_text_here", "_law_quoted"]) rfl fun _ _ _ _ _ _ us hl => match us, hl with | [_, _, _], _ => rfl
  have F__law_spelt_word : Def K mg "_law_spelt_word" s__law_spelt_word f26 _ := ⟨⟨oc26, od26, .none, kV26, dc26, pm26, an26, cd26, ct26, sl26, rfl, l26, c26⟩, PySem.W.mg_of X G a26, k26⟩
  have b__law_spelt_word := F__law_spelt_word.fn.binds (ps := ["_law_bag_here", "_law_word"]) rfl fun _ _ _ _ _ _ us hl => match us, hl with | [_, _], _ => rfl
  have F__law_spelt : Def K mg "_law_spelt" s__law_spelt f27 _ := ⟨⟨oc27, od27, .none, kV27, dc27, pm27, an27, cd27, ct27, sl27, rfl, l27, c27⟩, PySem.W.mg_of X G a27, k27⟩
  have b__law_spelt := F__law_spelt.fn.binds (ps := ["_law_bag_here", "_law_commands"]) rfl fun _ _ _ _ _ _ us hl => match us, hl with | [_, _], _ => rfl
  have F_law : Def K mg "law" s_law fa _ := ⟨⟨oc28, od28, .none, kV28, dc28, pm28, an28, cd28, ct28, sl28, rfl, l28, c28⟩, PySem.W.mg_of X G a28, k28⟩
  have b_law := F_law.fn.binds (ps := ["_law_script"]) rfl fun _ _ _ _ _ _ us hl => match us, hl with | [_], _ => rfl
  have mg_BadScript := PySem.W.mg_of X G gBadScript
  have F_BadScript___init__ : C8.Fun K "__init__" "BadScript.__init__" s_BadScript___init__ fBadScript___init__ _ := ⟨ocBadScript___init__, odBadScript___init__, .none, kVBadScript___init__, dcBadScript___init__, pmBadScript___init__, anBadScript___init__, cdBadScript___init__, ctBadScript___init__, slBadScript___init__, rfl, lBadScript___init__, cBadScript___init__⟩
  have b_BadScript___init__ := F_BadScript___init__.binds (ps := ["self", "place"]) rfl fun _ _ _ _ _ _ us hl => match us, hl with | [_, _], _ => rfl
  have ox_BadScript : OexC K CBadScript := ⟨⟨_, _, _, _, _, _, _, _, _, _, _, _, _, _, _, xBadScript, by show PySem.HandSPX.refsVE PySem.HandSPX.veTail = true; decide +kernel⟩, saBadScript, exBadScript, tyBadScript, kcBadScript⟩
  have xf_BadScript : XfC K CBadScript := ⟨gaBadScript, ggBadScript, exBadScript, hdBadScript⟩
  have te_BadScript := exm_self exBadScript icBadScript tyBadScript suBadScript
  have mg_Reader := PySem.W.mg_of X G gReader
  have F_Reader___init__ : C8.Fun K "__init__" "Reader.__init__" s_Reader___init__ fReader___init__ _ := ⟨ocReader___init__, odReader___init__, .none, kVReader___init__, dcReader___init__, pmReader___init__, anReader___init__, cdReader___init__, ctReader___init__, slReader___init__, rfl, lReader___init__, cReader___init__⟩
  have b_Reader___init__ := F_Reader___init__.binds (ps := ["self", "source"]) rfl fun _ _ _ _ _ _ us hl => match us, hl with | [_, _], _ => rfl
  have F_Reader_ends_text : C8.Fun K "ends_text" "Reader.ends_text" s_Reader_ends_text fReader_ends_text _ := ⟨ocReader_ends_text, odReader_ends_text, .none, kVReader_ends_text, dcReader_ends_text, pmReader_ends_text, anReader_ends_text, cdReader_ends_text, ctReader_ends_text, slReader_ends_text, rfl, lReader_ends_text, cReader_ends_text⟩
  have b_Reader_ends_text := F_Reader_ends_text.binds (ps := ["self"]) rfl fun _ _ _ _ _ _ us hl => match us, hl with | [_], _ => rfl
  have me_Reader_ends_text : Meth K CReader "ends_text" fReader_ends_text := ⟨aReader_ends_text, iReader_ends_text, kReader_ends_text⟩
  have F_Reader_ends_script : C8.Fun K "ends_script" "Reader.ends_script" s_Reader_ends_script fReader_ends_script _ := ⟨ocReader_ends_script, odReader_ends_script, .none, kVReader_ends_script, dcReader_ends_script, pmReader_ends_script, anReader_ends_script, cdReader_ends_script, ctReader_ends_script, slReader_ends_script, rfl, lReader_ends_script, cReader_ends_script⟩
  have b_Reader_ends_script := F_Reader_ends_script.binds (ps := ["self"]) rfl fun _ _ _ _ _ _ us hl => match us, hl with | [_], _ => rfl
  have me_Reader_ends_script : Meth K CReader "ends_script" fReader_ends_script := ⟨aReader_ends_script, iReader_ends_script, kReader_ends_script⟩
  have F_Reader_ends_command : C8.Fun K "ends_command" "Reader.ends_command" s_Reader_ends_command fReader_ends_command _ := ⟨ocReader_ends_command, odReader_ends_command, .none, kVReader_ends_command, dcReader_ends_command, pmReader_ends_command, anReader_ends_command, cdReader_ends_command, ctReader_ends_command, slReader_ends_command, rfl, lReader_ends_command, cReader_ends_command⟩
  have b_Reader_ends_command := F_Reader_ends_command.binds (ps := ["self"]) rfl fun _ _ _ _ _ _ us hl => match us, hl with | [_], _ => rfl
  have me_Reader_ends_command : Meth K CReader "ends_command" fReader_ends_command := ⟨aReader_ends_command, iReader_ends_command, kReader_ends_command⟩
  have F_Reader_ends_word : C8.Fun K "ends_word" "Reader.ends_word" s_Reader_ends_word fReader_ends_word _ := ⟨ocReader_ends_word, odReader_ends_word, .none, kVReader_ends_word, dcReader_ends_word, pmReader_ends_word, anReader_ends_word, cdReader_ends_word, ctReader_ends_word, slReader_ends_word, rfl, lReader_ends_word, cReader_ends_word⟩
  have b_Reader_ends_word := F_Reader_ends_word.binds (ps := ["self"]) rfl fun _ _ _ _ _ _ us hl => match us, hl with | [_], _ => rfl
  have me_Reader_ends_word : Meth K CReader "ends_word" fReader_ends_word := ⟨aReader_ends_word, iReader_ends_word, kReader_ends_word⟩
  have F_Reader_read_script : C8.Fun K "read_script" "Reader.read_script" s_Reader_read_script fReader_read_script _ := ⟨ocReader_read_script, odReader_read_script, .none, kVReader_read_script, dcReader_read_script, pmReader_read_script, anReader_read_script, cdReader_read_script, ctReader_read_script, slReader_read_script, rfl, lReader_read_script, cReader_read_script⟩
  have b_Reader_read_script := F_Reader_read_script.binds (ps := ["self"]) rfl fun _ _ _ _ _ _ us hl => match us, hl with | [_], _ => rfl
  have me_Reader_read_script : Meth K CReader "read_script" fReader_read_script := ⟨aReader_read_script, iReader_read_script, kReader_read_script⟩
  have F_Reader_pass_remark : C8.Fun K "pass_remark" "Reader.pass_remark" s_Reader_pass_remark fReader_pass_remark _ := ⟨ocReader_pass_remark, odReader_pass_remark, .none, kVReader_pass_remark, dcReader_pass_remark, pmReader_pass_remark, anReader_pass_remark, cdReader_pass_remark, ctReader_pass_remark, slReader_pass_remark, rfl, lReader_pass_remark, cReader_pass_remark⟩
  have b_Reader_pass_remark := F_Reader_pass_remark.binds (ps := ["self"]) rfl fun _ _ _ _ _ _ us hl => match us, hl with | [_], _ => rfl
  have me_Reader_pass_remark : Meth K CReader "pass_remark" fReader_pass_remark := ⟨aReader_pass_remark, iReader_pass_remark, kReader_pass_remark⟩
  have F_Reader_read_command : C8.Fun K "read_command" "Reader.read_command" s_Reader_read_command fReader_read_command _ := ⟨ocReader_read_command, odReader_read_command, .none, kVReader_read_command, dcReader_read_command, pmReader_read_command, anReader_read_command, cdReader_read_command, ctReader_read_command, slReader_read_command, rfl, lReader_read_command, cReader_read_command⟩
  have b_Reader_read_command := F_Reader_read_command.binds (ps := ["self"]) rfl fun _ _ _ _ _ _ us hl => match us, hl with | [_], _ => rfl
  have me_Reader_read_command : Meth K CReader "read_command" fReader_read_command := ⟨aReader_read_command, iReader_read_command, kReader_read_command⟩
  have F_Reader_read_word : C8.Fun K "read_word" "Reader.read_word" s_Reader_read_word fReader_read_word _ := ⟨ocReader_read_word, odReader_read_word, .none, kVReader_read_word, dcReader_read_word, pmReader_read_word, anReader_read_word, cdReader_read_word, ctReader_read_word, slReader_read_word, rfl, lReader_read_word, cReader_read_word⟩
  have b_Reader_read_word := F_Reader_read_word.binds (ps := ["self"]) rfl fun _ _ _ _ _ _ us hl => match us, hl with | [_], _ => rfl
  have me_Reader_read_word : Meth K CReader "read_word" fReader_read_word := ⟨aReader_read_word, iReader_read_word, kReader_read_word⟩
  have F_Reader_read_braced : C8.Fun K "read_braced" "Reader.read_braced" s_Reader_read_braced fReader_read_braced _ := ⟨ocReader_read_braced, odReader_read_braced, .none, kVReader_read_braced, dcReader_read_braced, pmReader_read_braced, anReader_read_braced, cdReader_read_braced, ctReader_read_braced, slReader_read_braced, rfl, lReader_read_braced, cReader_read_braced⟩
  have b_Reader_read_braced := F_Reader_read_braced.binds (ps := ["self"]) rfl fun _ _ _ _ _ _ us hl => match us, hl with | [_], _ => rfl
  have me_Reader_read_braced : Meth K CReader "read_braced" fReader_read_braced := ⟨aReader_read_braced, iReader_read_braced, kReader_read_braced⟩
  have F_Reader_read_quoted : C8.Fun K "read_quoted" "Reader.read_quoted" s_Reader_read_quoted fReader_read_quoted _ := ⟨ocReader_read_quoted, odReader_read_quoted, .none, kVReader_read_quoted, dcReader_read_quoted, pmReader_read_quoted, anReader_read_quoted, cdReader_read_quoted, ctReader_read_quoted, slReader_read_quoted, rfl, lReader_read_quoted, cReader_read_quoted⟩
  have b_Reader_read_quoted := F_Reader_read_quoted.binds (ps := ["self"]) rfl fun _ _ _ _ _ _ us hl => match us, hl with | [_], _ => rfl
  have me_Reader_read_quoted : Meth K CReader "read_quoted" fReader_read_quoted := ⟨aReader_read_quoted, iReader_read_quoted, kReader_read_quoted⟩
  have F_Reader_read_bare : C8.Fun K "read_bare" "Reader.read_bare" s_Reader_read_bare fReader_read_bare _ := ⟨ocReader_read_bare, odReader_read_bare, .none, kVReader_read_bare, dcReader_read_bare, pmReader_read_bare, anReader_read_bare, cdReader_read_bare, ctReader_read_bare, slReader_read_bare, rfl, lReader_read_bare, cReader_read_bare⟩
  have b_Reader_read_bare := F_Reader_read_bare.binds (ps := ["self"]) rfl fun _ _ _ _ _ _ us hl => match us, hl with | [_], _ => rfl
  have me_Reader_read_bare : Meth K CReader "read_bare" fReader_read_bare := ⟨aReader_read_bare, iReader_read_bare, kReader_read_bare⟩
  have F_Reader_read_piece : C8.Fun K "read_piece" "Reader.read_piece" s_Reader_read_piece fReader_read_piece _ := ⟨ocReader_read_piece, odReader_read_piece, .none, kVReader_read_piece, dcReader_read_piece, pmReader_read_piece, anReader_read_piece, cdReader_read_piece, ctReader_read_piece, slReader_read_piece, rfl, lReader_read_piece, cReader_read_piece⟩
  have b_Reader_read_piece := F_Reader_read_piece.binds (ps := ["self"]) rfl fun _ _ _ _ _ _ us hl => match us, hl with | [_], _ => rfl
  have me_Reader_read_piece : Meth K CReader "read_piece" fReader_read_piece := ⟨aReader_read_piece, iReader_read_piece, kReader_read_piece⟩
  have F_Reader_read_turned : C8.Fun K "read_turned" "Reader.read_turned" s_Reader_read_turned fReader_read_turned _ := ⟨ocReader_read_turned, odReader_read_turned, .none, kVReader_read_turned, dcReader_read_turned, pmReader_read_turned, anReader_read_turned, cdReader_read_turned, ctReader_read_turned, slReader_read_turned, rfl, lReader_read_turned, cReader_read_turned⟩
  have b_Reader_read_turned := F_Reader_read_turned.binds (ps := ["self"]) rfl fun _ _ _ _ _ _ us hl => match us, hl with | [_], _ => rfl
  have me_Reader_read_turned : Meth K CReader "read_turned" fReader_read_turned := ⟨aReader_read_turned, iReader_read_turned, kReader_read_turned⟩
  have F_Reader_read_name : C8.Fun K "read_name" "Reader.read_name" s_Reader_read_name fReader_read_name _ := ⟨ocReader_read_name, odReader_read_name, .none, kVReader_read_name, dcReader_read_name, pmReader_read_name, anReader_read_name, cdReader_read_name, ctReader_read_name, slReader_read_name, rfl, lReader_read_name, cReader_read_name⟩
  have b_Reader_read_name := F_Reader_read_name.binds (ps := ["self"]) rfl fun _ _ _ _ _ _ us hl => match us, hl with | [_], _ => rfl
  have me_Reader_read_name : Meth K CReader "read_name" fReader_read_name := ⟨aReader_read_name, iReader_read_name, kReader_read_name⟩
  have F_Reader_read_letters : C8.Fun K "read_letters" "Reader.read_letters" s_Reader_read_letters fReader_read_letters _ := ⟨ocReader_read_letters, odReader_read_letters, .none, kVReader_read_letters, dcReader_read_letters, pmReader_read_letters, anReader_read_letters, cdReader_read_letters, ctReader_read_letters, slReader_read_letters, rfl, lReader_read_letters, cReader_read_letters⟩
  have b_Reader_read_letters := F_Reader_read_letters.binds (ps := ["self"]) rfl fun _ _ _ _ _ _ us hl => match us, hl with | [_], _ => rfl
  have me_Reader_read_letters : Meth K CReader "read_letters" fReader_read_letters := ⟨aReader_read_letters, iReader_read_letters, kReader_read_letters⟩
  have F_Reader_read_run : C8.Fun K "read_run" "Reader.read_run" s_Reader_read_run fReader_read_run _ := ⟨ocReader_read_run, odReader_read_run, .none, kVReader_read_run, dcReader_read_run, pmReader_read_run, anReader_read_run, cdReader_read_run, ctReader_read_run, slReader_read_run, rfl, lReader_read_run, cReader_read_run⟩
  have b_Reader_read_run := F_Reader_read_run.binds (ps := ["self"]) rfl fun _ _ _ _ _ _ us hl => match us, hl with | [_], _ => rfl
  have me_Reader_read_run : Meth K CReader "read_run" fReader_read_run := ⟨aReader_read_run, iReader_read_run, kReader_read_run⟩
  have cls_Reader : Cls K CReader := ⟨pgReader, hdReader, poReader, saReader⟩
  have mk_Reader : Mk K CReader fReader___init__ := ⟨mkReader, aReader___init__, iReader___init__, kcReader⟩
  refine ⟨PySem.W.fnOf "law" "law" (fnArgs s_law) (fnBody s_law) (fnScope s_law) .none kV28 dc28 pm28 an28 cd28 ct28, fun s v => .of_eq rfl, fun base _ _ => ?_⟩
  have c_pair_end := ok_pair_end (P := P) (w := w) (base := base) F_pair_end b_pair_end T 
  have c_can_stand_in_braces := ok_can_stand_in_braces (P := P) (w := w) (base := base) F_can_stand_in_braces b_can_stand_in_braces T c_pair_end
  have c_is_letter := ok_is_letter (P := P) (w := w) (base := base) F_is_letter b_is_letter T 
  have c_is_name := ok_is_name (P := P) (w := w) (base := base) F_is_name b_is_name T c_is_letter
  have c_refuse_long := ok_refuse_long (P := P) (w := w) (base := base) F_refuse_long b_refuse_long T 
  have c_turned_sign := ok_turned_sign (P := P) (w := w) (base := base) F_turned_sign b_turned_sign T 
  have c_turned := ok_turned (P := P) (w := w) (base := base) F_turned b_turned T c_turned_sign
  have c_word_text := ok_word_text (P := P) (w := w) (base := base) F_word_text b_word_text T c_turned c_can_stand_in_braces
  have c_meant := ok_meant (P := P) (w := w) (base := base) F_meant b_meant T 
  have c_joined := ok_joined (P := P) (w := w) (base := base) F_joined b_joined T 
  have R : RdC K mg CReader := ⟨cls_Reader, nReader_source, nReader_at, nReader_within, mg_Reader⟩
  have M : RdM K CReader := ⟨⟨_, _, me_Reader_ends_text, F_Reader_ends_text, b_Reader_ends_text⟩, ⟨_, _, me_Reader_ends_script, F_Reader_ends_script, b_Reader_ends_script⟩, ⟨_, _, me_Reader_ends_command, F_Reader_ends_command, b_Reader_ends_command⟩, ⟨_, _, me_Reader_ends_word, F_Reader_ends_word, b_Reader_ends_word⟩, ⟨_, _, me_Reader_read_script, F_Reader_read_script, b_Reader_read_script⟩, ⟨_, _, me_Reader_pass_remark, F_Reader_pass_remark, b_Reader_pass_remark⟩, ⟨_, _, me_Reader_read_command, F_Reader_read_command, b_Reader_read_command⟩, ⟨_, _, me_Reader_read_word, F_Reader_read_word, b_Reader_read_word⟩, ⟨_, _, me_Reader_read_braced, F_Reader_read_braced, b_Reader_read_braced⟩, ⟨_, _, me_Reader_read_quoted, F_Reader_read_quoted, b_Reader_read_quoted⟩, ⟨_, _, me_Reader_read_bare, F_Reader_read_bare, b_Reader_read_bare⟩, ⟨_, _, me_Reader_read_piece, F_Reader_read_piece, b_Reader_read_piece⟩, ⟨_, _, me_Reader_read_turned, F_Reader_read_turned, b_Reader_read_turned⟩, ⟨_, _, me_Reader_read_name, F_Reader_read_name, b_Reader_read_name⟩, ⟨_, _, me_Reader_read_letters, F_Reader_read_letters, b_Reader_read_letters⟩, ⟨_, _, me_Reader_read_run, F_Reader_read_run, b_Reader_read_run⟩⟩
  have xB : PlaceC P w K mg base "BadScript" CBadScript := ⟨ox_BadScript, mg_BadScript, _, _, _, aBadScript___init__, iBadScript___init__, ok_place_init ox_BadScript nBadScript_place F_BadScript___init__, b_BadScript___init__⟩
  have c_Reader := ok_rd_init (P := P) (w := w) (base := base) R F_Reader___init__ b_Reader___init__ mk_Reader
  have c_read_script := ok_reader (P := P) (w := w) (base := base) R M T xB c_pair_end c_meant c_is_letter c_is_name c_joined 13
  have c_parsed := ok_parsed (P := P) (w := w) (base := base) F_parsed b_parsed T R c_refuse_long c_Reader c_read_script
  have c_is_letterP := okp_is_letter (P := P) (w := w) (base := base) F_is_letter b_is_letter T
  have MP : WrtF K mg := ⟨⟨_, _, F_piece_text, b_piece_text⟩, ⟨_, _, F_pieces_text, b_pieces_text⟩, ⟨_, _, F_command_text, b_command_text⟩, ⟨_, _, F_written, b_written⟩⟩
  have c_written := ok_writG (P := P) (w := w) (base := base) MP T c_turned c_word_text c_is_letterP
  have c__law_bag := ok__law_bag (P := P) (w := w) (base := base) F__law_bag b__law_bag T 
  have c__law_pull := ok__law_pull (P := P) (w := w) (base := base) F__law_pull b__law_pull T 
  have c__law_of := ok__law_of (P := P) (w := w) (base := base) F__law_of b__law_of T c__law_pull
  have c__law_name := ok__law_name (P := P) (w := w) (base := base) F__law_name b__law_name T c__law_pull c__law_of
  have c__law_text := ok__law_text (P := P) (w := w) (base := base) F__law_text b__law_text T c__law_pull c__law_of
  have c__law_pairs := ok__law_pairs (P := P) (w := w) (base := base) F__law_pairs b__law_pairs T 
  have c__law_merged := ok__law_merged (P := P) (w := w) (base := base) F__law_merged b__law_merged T 
  have c__law_letters := ok__law_letters (P := P) (w := w) (base := base) F__law_letters b__law_letters T 
  have MW : WildF K mg := ⟨⟨_, _, F__law_wild_word, b__law_wild_word⟩, ⟨_, _, F__law_wild_tree, b__law_wild_tree⟩⟩
  have c__law_wild_tree := ok_wild (P := P) (w := w) (base := base) MW T c__law_pull c__law_text c__law_name c__law_merged 4 (by decide)
  have c__law_spell := ok__law_spell (P := P) (w := w) (base := base) F__law_spell b__law_spell T c__law_pull
  have MS : SpeltF K mg := ⟨⟨_, _, F__law_spelt_word, b__law_spelt_word⟩, ⟨_, _, F__law_spelt, b__law_spelt⟩⟩
  have c__law_spelt := ok_spelt (P := P) (w := w) (base := base) MS T c__law_pull c__law_of c__law_pairs c__law_spell c__law_letters 4 (by decide)
  exact ok_law F_law T c__law_bag c__law_pull c__law_of c__law_wild_tree c__law_spelt c_parsed c_written mg_BadScript te_BadScript
theorem walk {l : PySem.W.OpenLaw} {q : Program} {loose : List Str} {XP : (Str → Option Value) → Heap → Prop} {YP : World → Heap → Prop} {d : DefRec} {K : Params → PySem.W.Frag} (hn : l.most = some 63) (hdf : d.params.defaults = [])
    (hY : ∀ (w : World) (h : Heap), YP w h → (K w.params).In h)
    (F : ∀ (w : World) (mg : Str → Option Value) (fa : Addr) (h : Heap), (K w.params).In h → h.Ns mainGlobals mg → mg d.name = some (.ref fa) →
      ∃ fd : FuncData, (∀ (s : Shared) (u : Value), BindsTo s fd ⟨[u], []⟩ [("_law_script", u)]) ∧ ∀ base : Heap, (K w.params).In base → base.Ns mainGlobals mg → FnOk l.prog w (K w.params) mg base C8.CX0 91 fa fd ["_law_script"] (spLaw (K w.params))) :
    PySem.W.WalkO q loose XP YP l.row.toRowW d [] (fun f vs => PySem.call f vs) :=
  L2.walk_of (n := 63) (k := 91) (x := "_law_script") (CX := fun _ => C8.CX0) (sp := fun w => spLaw (K w.params)) hn (by decide) hdf ⟨rfl, by decide, by decide⟩ hY F (fun _ _ a ns hl _ hS => ⟨a, ns, rfl, hS, hl, fun _ => rfl⟩) fun _ _ _ _ _ z => z
end
end My
open PySem PySem.W PyProof.Rows
set_option maxRecDepth 100000 in
set_option maxHeartbeats 0 in
theorem PySem.Challenge.cw_wordrooms_k10_whole_read_written_and_rea_holds : PySem.Challenge.rw_wordrooms_k10_whole_read_written_and_rea.Holds := by
  w_on; o_law; k_head; (case hw => w_witness2)
  k_fill
  refine My.walk (l := PySem.Challenge.rw_wordrooms_k10_whole_read_written_and_rea) rfl rfl (fun w h Y => PySem.W.kIn_of Y) ?F
  case F =>
    intro w mg fa h KX G hmg
    refine' My.all_mk KX G hmg ?a0 ?l0 ?c0 ?k0 ?a1 ?l1 ?c1 ?k1 ?a2 ?l2 ?c2 ?k2 ?a3 ?l3 ?c3 ?k3 ?a4 ?l4 ?c4 ?k4 ?a5 ?l5 ?c5 ?k5 ?a6 ?l6 ?c6 ?k6 ?a7 ?l7 ?c7 ?k7 ?a8 ?l8 ?c8 ?k8 ?a9 ?l9 ?c9 ?k9 ?a10 ?l10 ?c10 ?k10 ?a11 ?l11 ?c11 ?k11 ?a12 ?l12 ?c12 ?k12 ?a13 ?l13 ?c13 ?k13 ?a14 ?l14 ?c14 ?k14 ?a15 ?l15 ?c15 ?k15 ?a16 ?l16 ?c16 ?k16 ?a17 ?l17 ?c17 ?k17 ?a18 ?l18 ?c18 ?k18 ?a19 ?l19 ?c19 ?k19 ?a20 ?l20 ?c20 ?k20 ?a21 ?l21 ?c21 ?k21 ?a22 ?l22 ?c22 ?k22 ?a23 ?l23 ?c23 ?k23 ?a24 ?l24 ?c24 ?k24 ?a25 ?l25 ?c25 ?k25 ?a26 ?l26 ?c26 ?k26 ?a27 ?l27 ?c27 ?k27 ?a28 ?l28 ?c28 ?k28 ?z0 ?z1 ?z2 ?z3 ?z4 ?z5 ?z6 ?z7 ?z8 ?y0 ?y1 ?y2 ?y3 ?y4 ?y5 ?gBadScript ?aBadScript___init__ ?lBadScript___init__ ?cBadScript___init__ ?iBadScript___init__ ?nBadScript_place ?xBadScript ?saBadScript ?gaBadScript ?ggBadScript ?exBadScript ?tyBadScript ?kcBadScript ?hdBadScript ?icBadScript ?suBadScript ?gReader ?aReader___init__ ?lReader___init__ ?cReader___init__ ?iReader___init__ ?kReader___init__ ?aReader_ends_text ?lReader_ends_text ?cReader_ends_text ?iReader_ends_text ?kReader_ends_text ?aReader_ends_script ?lReader_ends_script ?cReader_ends_script ?iReader_ends_script ?kReader_ends_script ?aReader_ends_command ?lReader_ends_command ?cReader_ends_command ?iReader_ends_command ?kReader_ends_command ?aReader_ends_word ?lReader_ends_word ?cReader_ends_word ?iReader_ends_word ?kReader_ends_word ?aReader_read_script ?lReader_read_script ?cReader_read_script ?iReader_read_script ?kReader_read_script ?aReader_pass_remark ?lReader_pass_remark ?cReader_pass_remark ?iReader_pass_remark ?kReader_pass_remark ?aReader_read_command ?lReader_read_command ?cReader_read_command ?iReader_read_command ?kReader_read_command ?aReader_read_word ?lReader_read_word ?cReader_read_word ?iReader_read_word ?kReader_read_word ?aReader_read_braced ?lReader_read_braced ?cReader_read_braced ?iReader_read_braced ?kReader_read_braced ?aReader_read_quoted ?lReader_read_quoted ?cReader_read_quoted ?iReader_read_quoted ?kReader_read_quoted ?aReader_read_bare ?lReader_read_bare ?cReader_read_bare ?iReader_read_bare ?kReader_read_bare ?aReader_read_piece ?lReader_read_piece ?cReader_read_piece ?iReader_read_piece ?kReader_read_piece ?aReader_read_turned ?lReader_read_turned ?cReader_read_turned ?iReader_read_turned ?kReader_read_turned ?aReader_read_name ?lReader_read_name ?cReader_read_name ?iReader_read_name ?kReader_read_name ?aReader_read_letters ?lReader_read_letters ?cReader_read_letters ?iReader_read_letters ?kReader_read_letters ?aReader_read_run ?lReader_read_run ?cReader_read_run ?iReader_read_run ?kReader_read_run ?nReader_source ?nReader_at ?nReader_within ?pgReader ?hdReader ?poReader ?saReader ?mkReader ?kcReader
    (case a0 => k_is); (case l0 => k_is); (case c0 => k_is); (case k0 => k_is); (case a1 => k_is); (case l1 => k_is)
    (case c1 => k_is); (case k1 => k_is); (case a2 => k_is); (case l2 => k_is); (case c2 => k_is); (case k2 => k_is)
    (case a3 => k_is); (case l3 => k_is); (case c3 => k_is); (case k3 => k_is); (case a4 => k_is); (case l4 => k_is)
    (case c4 => k_is); (case k4 => k_is); (case a5 => k_is); (case l5 => k_is); (case c5 => k_is); (case k5 => k_is)
    (case a6 => k_is); (case l6 => k_is); (case c6 => k_is); (case k6 => k_is); (case a7 => k_is); (case l7 => k_is)
    (case c7 => k_is); (case k7 => k_is); (case a8 => k_is); (case l8 => k_is); (case c8 => k_is); (case k8 => k_is)
    (case a9 => k_is); (case l9 => k_is); (case c9 => k_is); (case k9 => k_is); (case a10 => k_is); (case l10 => k_is)
    (case c10 => k_is); (case k10 => k_is); (case a11 => k_is); (case l11 => k_is); (case c11 => k_is); (case k11 => k_is)
    (case a12 => k_is); (case l12 => k_is); (case c12 => k_is); (case k12 => k_is); (case a13 => k_is); (case l13 => k_is)
    (case c13 => k_is); (case k13 => k_is); (case a14 => k_is); (case l14 => k_is); (case c14 => k_is); (case k14 => k_is)
    (case a15 => k_is); (case l15 => k_is); (case c15 => k_is); (case k15 => k_is); (case a16 => k_is); (case l16 => k_is)
    (case c16 => k_is); (case k16 => k_is); (case a17 => k_is); (case l17 => k_is); (case c17 => k_is); (case k17 => k_is)
    (case a18 => k_is); (case l18 => k_is); (case c18 => k_is); (case k18 => k_is); (case a19 => k_is); (case l19 => k_is)
    (case c19 => k_is); (case k19 => k_is); (case a20 => k_is); (case l20 => k_is); (case c20 => k_is); (case k20 => k_is)
    (case a21 => k_is); (case l21 => k_is); (case c21 => k_is); (case k21 => k_is); (case a22 => k_is); (case l22 => k_is)
    (case c22 => k_is); (case k22 => k_is); (case a23 => k_is); (case l23 => k_is); (case c23 => k_is); (case k23 => k_is)
    (case a24 => k_is); (case l24 => k_is); (case c24 => k_is); (case k24 => k_is); (case a25 => k_is); (case l25 => k_is)
    (case c25 => k_is); (case k25 => k_is); (case a26 => k_is); (case l26 => k_is); (case c26 => k_is); (case k26 => k_is)
    (case a27 => k_is); (case l27 => k_is); (case c27 => k_is); (case k27 => k_is); (case a28 => k_is); (case l28 => k_is)
    (case c28 => k_is); (case k28 => k_is); (case z0 => k_is); (case z1 => k_is); (case z2 => k_is); (case z3 => k_is)
    (case z4 => k_is); (case z5 => k_is); (case z6 => k_is); (case z7 => k_is); (case z8 => k_is); (case y0 => k_is)
    (case y1 => k_is); (case y2 => k_is); (case y3 => k_is); (case y4 => k_is); (case y5 => k_is); (case gBadScript => k_is)
    (case aBadScript___init__ => k_is); (case lBadScript___init__ => k_is); (case cBadScript___init__ => k_is); (case iBadScript___init__ => k_is); (case nBadScript_place => k_is); (case xBadScript => k_is)
    (case saBadScript => k_is); (case gaBadScript => k_is); (case ggBadScript => k_is); (case exBadScript => k_is); (case tyBadScript => k_is); (case kcBadScript => k_is)
    (case hdBadScript => k_is); (case icBadScript => k_is); (case suBadScript => first | rfl | k_is); (case gReader => k_is); (case aReader___init__ => k_is); (case lReader___init__ => k_is)
    (case cReader___init__ => k_is); (case iReader___init__ => k_is); (case kReader___init__ => k_is); (case aReader_ends_text => k_is); (case lReader_ends_text => k_is); (case cReader_ends_text => k_is)
    (case iReader_ends_text => k_is); (case kReader_ends_text => k_is); (case aReader_ends_script => k_is); (case lReader_ends_script => k_is); (case cReader_ends_script => k_is); (case iReader_ends_script => k_is)
    (case kReader_ends_script => k_is); (case aReader_ends_command => k_is); (case lReader_ends_command => k_is); (case cReader_ends_command => k_is); (case iReader_ends_command => k_is); (case kReader_ends_command => k_is)
    (case aReader_ends_word => k_is); (case lReader_ends_word => k_is); (case cReader_ends_word => k_is); (case iReader_ends_word => k_is); (case kReader_ends_word => k_is); (case aReader_read_script => k_is)
    (case lReader_read_script => k_is); (case cReader_read_script => k_is); (case iReader_read_script => k_is); (case kReader_read_script => k_is); (case aReader_pass_remark => k_is); (case lReader_pass_remark => k_is)
    (case cReader_pass_remark => k_is); (case iReader_pass_remark => k_is); (case kReader_pass_remark => k_is); (case aReader_read_command => k_is); (case lReader_read_command => k_is); (case cReader_read_command => k_is)
    (case iReader_read_command => k_is); (case kReader_read_command => k_is); (case aReader_read_word => k_is); (case lReader_read_word => k_is); (case cReader_read_word => k_is); (case iReader_read_word => k_is)
    (case kReader_read_word => k_is); (case aReader_read_braced => k_is); (case lReader_read_braced => k_is); (case cReader_read_braced => k_is); (case iReader_read_braced => k_is); (case kReader_read_braced => k_is)
    (case aReader_read_quoted => k_is); (case lReader_read_quoted => k_is); (case cReader_read_quoted => k_is); (case iReader_read_quoted => k_is); (case kReader_read_quoted => k_is); (case aReader_read_bare => k_is)
    (case lReader_read_bare => k_is); (case cReader_read_bare => k_is); (case iReader_read_bare => k_is); (case kReader_read_bare => k_is); (case aReader_read_piece => k_is); (case lReader_read_piece => k_is)
    (case cReader_read_piece => k_is); (case iReader_read_piece => k_is); (case kReader_read_piece => k_is); (case aReader_read_turned => k_is); (case lReader_read_turned => k_is); (case cReader_read_turned => k_is)
    (case iReader_read_turned => k_is); (case kReader_read_turned => k_is); (case aReader_read_name => k_is); (case lReader_read_name => k_is); (case cReader_read_name => k_is); (case iReader_read_name => k_is)
    (case kReader_read_name => k_is); (case aReader_read_letters => k_is); (case lReader_read_letters => k_is); (case cReader_read_letters => k_is); (case iReader_read_letters => k_is); (case kReader_read_letters => k_is)
    (case aReader_read_run => k_is); (case lReader_read_run => k_is); (case cReader_read_run => k_is); (case iReader_read_run => k_is); (case kReader_read_run => k_is); (case nReader_source => k_is)
    (case nReader_at => k_is); (case nReader_within => k_is); (case pgReader => k_is); (case hdReader => k_is); (case poReader => k_is); (case saReader => k_is)
    (case mkReader => k_is); (case kcReader => k_is)
#print axioms PySem.Challenge.cw_wordrooms_k10_whole_read_written_and_rea_holds
