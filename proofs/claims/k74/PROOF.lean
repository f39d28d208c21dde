import PyProof.Rows.All
import Wide.All
import OpenK.AllK
import Wide.FinOn
import HandS.ForMost
import HandS.Codes
import HandS.IsInst
import HandS.TupAny
import HandS.Style
import HandS.Walk
import HandS.Zip
import HandS.EndBits
import HandS.Dict
import HandS.More
import PyProof.CollectIter
import PyProof.WalksMore
import HandS.NoneIn
import HandS.Text
import HandS.Slots
import HandS.SlotsOwn
import HandS.Star
import HandS.ClsMeth
import HandS.Strs
import HandS.DeepEq
import PySem.Challenge.RW_bothlots_k74_ledgers_that_are_equal
set_option Elab.async false
set_option maxRecDepth 100000
set_option maxHeartbeats 4000000
/-! the box of draws, kept apart from all else; data by its shape -/
namespace Bl
open PySem L2
theorem same_new {H : Hp} {p : Addr} (h : H p = none) (o : HO) : Same H (upd H p o) := fun b u q => by
  rw [upd_ne (ne_of_none q h)]
  exact q
theorem Same.tup {K : PySem.W.Frag} {H H' : Hp} {a : Addr} {xs : List V} (e : Same H H') (h : SqT K H a xs) : SqT K H' a xs := by
  rcases h with (h | ⟨o, h⟩) | h
  · exact .inl (.inl (e _ _ h))
  · exact .inl (.inr ⟨o, e _ _ h⟩)
  · exact .inr h
/-- the heap without what stands at p -/
def hide (p : Addr) (H : Hp) : Hp := fun b => if b = p then none else H b
theorem hide_ne {p b : Addr} {H : Hp} (h : b ≠ p) : hide p H b = H b := if_neg h
theorem hide_at {p : Addr} {H : Hp} : hide p H p = none := if_pos rfl
theorem hide_le {p : Addr} {H : Hp} : Same (hide p H) H := fun b o h => by
  by_cases e : b = p
  · subst e
    rw [hide_at] at h
    cases h
  · rw [hide_ne e] at h
    exact h
theorem hide_upd {p : Addr} {H : Hp} {o : HO} : hide p (upd H p o) = hide p H := by
  funext b
  by_cases e : b = p
  · rw [e, hide_at, hide_at]
  · rw [hide_ne e, hide_ne e, upd_ne e]
theorem hide_new {p q : Addr} {H : Hp} {o : HO} (h : q ≠ p) : hide p (upd H q o) = upd (hide p H) q o := by
  funext b
  by_cases e : b = p
  · rw [e, hide_at, upd_ne (Ne.symm h), hide_at]
  · rw [hide_ne e]
    by_cases f : b = q
    · rw [f, upd_same, upd_same]
    · rw [upd_ne f, upd_ne f, hide_ne e]
theorem hide_free {p q : Addr} {H : Hp} (h : H q = none) : hide p H q = none := by
  by_cases e : q = p
  · rw [e, hide_at]
  · rw [hide_ne e]
    exact h
theorem hide_mono {p : Addr} {H H' : Hp} (e : Same H H') : Same (hide p H) (hide p H') := fun b o h => by
  by_cases f : b = p
  · subst f
    rw [hide_at] at h
    cases h
  · rw [hide_ne f] at h ⊢
    exact e b o h
/-- all that was tracked, but what stands at p, is as it was -/
abbrev But (p : Addr) (H H' : Hp) : Prop := Same (hide p H) (hide p H')
theorem But.put {p : Addr} {H H1 : Hp} {o : HO} (a : But p H H1) : But p H (upd H1 p o) := by
  unfold But
  rw [hide_upd]
  exact a
theorem But.of {p : Addr} {H H1 : Hp} (a : Same H H1) : But p H H1 := hide_mono a
theorem But.new {p q : Addr} {H H1 : Hp} (a : But p H H1) (h : H1 q = none) (o : HO) : But p H (upd H1 q o) := Same.trans a (hide_mono (same_new h o))
/-- the law's box of draws -/
def boxL (l : Addr) (i w m c : Int) : List V := [.ref l, .int i, .int w, .int m, .int c]
structure BoxAt (H : Hp) (p l : Addr) : Prop where
  ex : ∃ (ns : List Int) (i w m c : Int), H p = some (.lst (boxL l i w m c)) ∧ hide p H l = some (.lst (ns.map V.int)) ∧ 0 ≤ i ∧ 0 ≤ m ∧ m < 2147483629
theorem BoxAt.mono {H H' : Hp} {p l : Addr} (b : BoxAt H p l) (e : Same H H') : BoxAt H' p l := by
  obtain ⟨ns, i, w, m, c, hp, hl, r⟩ := b
  exact ⟨ns, i, w, m, c, e _ _ hp, hide_mono e _ _ hl, r⟩
theorem BoxAt.new {H : Hp} {p q l : Addr} (b : BoxAt H p l) (h : H q = none) (o : HO) : BoxAt (upd H q o) p l := b.mono (same_new h o)
theorem BoxAt.ne {H : Hp} {p q l : Addr} (b : BoxAt H p l) (h : H q = none) : q ≠ p := by
  obtain ⟨ns, i, w, m, c, hp, _⟩ := b
  exact (ne_of_none hp h).symm
theorem BoxAt.nl {H : Hp} {p q l : Addr} (b : BoxAt H p l) (h : H q = none) : q ≠ l := by
  obtain ⟨ns, i, w, m, c, hp, hl, _⟩ := b
  exact (ne_of_none (hide_le _ _ hl) h).symm
/-- an object that is neither the box nor its cells may change -/
theorem BoxAt.mut {H : Hp} {p q l : Addr} (b : BoxAt H p l) (h : q ≠ p) (h2 : q ≠ l) (o : HO) : BoxAt (upd H q o) p l := by
  obtain ⟨ns, i, w, m, c, hp, hl, r⟩ := b
  exact ⟨ns, i, w, m, c, by rw [upd_ne h.symm]; exact hp, by rw [hide_new h, upd_ne h2.symm]; exact hl, r⟩
/-- an object that was not there may change -/
theorem But.mut {p q : Addr} {H H1 : Hp} (a : But p H H1) (h : H q = none) (o : HO) : But p H (upd H1 q o) := fun b u e => by
  have n1 : b ≠ p := by
    rintro rfl
    rw [hide_at] at e
    cases e
  have e1 := a b u e
  rw [hide_ne n1] at e e1 ⊢
  rw [upd_ne (ne_of_none e h)]
  exact e1
theorem Same.mut {q : Addr} {H H1 : Hp} (a : Same H H1) (h : H q = none) (o : HO) : Same H (upd H1 q o) := fun b u e => by
  rw [upd_ne (ne_of_none e h)]
  exact a b u e
/-- a new object is no box -/
theorem hid_same {p q : Addr} {H : Hp} {o : HO} (h : q ≠ p) : hide p (upd H q o) q = some o := by
  rw [hide_ne h, upd_same]

/-! what the draws promise -/
def spPull (K : PySem.W.Frag) : Sp := fun vs H Q _ => ∃ (p l : Addr) (n : Int), vs = [.ref p, .int n] ∧ BoxAt H p l ∧ 0 < n ∧ n < 1073741824 ∧
  ∀ (d : Int) (H' : Hp), 0 ≤ d → d < n → BoxAt H' p l → But p H H' → Q (.int d) H'
def spBox (K : PySem.W.Frag) : Sp := fun vs H Q _ => ∃ (a : Addr) (ns : List Int), vs = [.ref a] ∧ SqL K H a (ns.map V.int) ∧ ns.length ≤ 63 ∧
  ∀ (p l : Addr) (H' : Hp), H p = none → BoxAt H' p l → Same H H' → Q (.ref p) H'
/-- an item of a list, of a tuple, of a text -/
def spOf (K : PySem.W.Frag) : Sp := fun vs H Q _ => ∃ (p l : Addr) (v : V), vs = [.ref p, v] ∧ BoxAt H p l ∧
  ((∃ a xs, v = .ref a ∧ (SqL K (hide p H) a xs ∨ SqT K (hide p H) a xs) ∧ 0 < xs.length ∧ xs.length < 1000000 ∧ ∀ (i : Nat) (x : V) (H' : Hp), xs[i]? = some x → BoxAt H' p l → But p H H' → Q x H') ∨
    ∃ z : Str, v = .str z ∧ 0 < z.length ∧ z.length < 1000000 ∧ ∀ (c : Nat) (H' : Hp), c ∈ z.cps.toList → BoxAt H' p l → But p H H' → Q (.str ⟨#[c]⟩) H')

/-! small things -/
theorem atI_int {ns : List Int} {i : Int} (h0 : 0 ≤ i) (h : i < ns.length) : ∃ v : Int, atI (ns.map V.int) i = some (.int v) := by
  obtain ⟨n, rfl⟩ := Int.eq_ofNat_of_zero_le h0
  have hk : n < ns.length := by omega
  exact ⟨ns[n], atI_nat (by rw [List.getElem?_map, List.getElem?_eq_getElem hk] <;> rfl)⟩
theorem atI_some {xs : List V} {i : Int} (h0 : 0 ≤ i) (h : i < xs.length) : ∃ (n : Nat) (v : V), xs[n]? = some v ∧ atI xs i = some v := by
  obtain ⟨n, rfl⟩ := Int.eq_ofNat_of_zero_le h0
  have hk : n < xs.length := by omega
  exact ⟨n, xs[n], List.getElem?_eq_getElem hk, atI_nat (List.getElem?_eq_getElem hk)⟩
theorem mod_lt' {a b : Int} (h : 0 < b) : 0 ≤ a % b ∧ a % b < b := ⟨Int.emod_nonneg a (by omega), Int.emod_lt_of_pos a h⟩
theorem small {n : Nat} (h : n ≤ 1000000) : n ≤ sizeLine := Nat.le_trans h (by decide)
theorem small' {n : Nat} (h : n < 1000000) : n < sizeLine := Nat.lt_of_lt_of_le h (by decide)
theorem cutV_63 {ns : List Int} (h : ns.length ≤ 63) : cutV (ns.map V.int) none (some 63) = ns.map V.int := by
  unfold cutV
  rw [HT.sIx_none, show ((some 63 : Option Int)) = some ((63 : Nat) : Int) from rfl, HT.sIx_nat, List.length_map, List.drop_zero, List.take_of_length_le (by rw [List.length_map]; omega)]

/-! data -/
mutual
theorem Dp.mono {K : PySem.W.Frag} {H H' : Hp} (e : Same H H') : ∀ (d : PyData) (v : V), Dp K H v d → Dp K H' v d
  | .none, _, h => by cases h; exact .non
  | .bool _, _, h => by cases h; exact .bl _
  | .int _, _, h => by cases h; exact .int _
  | .str _, _, h => by cases h; exact .str _
  | .list ds, _, h => by
    cases h with
    | lst hs ha => exact .lst (e.seq hs) (DpAll.mono e ds _ ha)
  | .tuple ds, _, h => by
    cases h with
    | tup hs ha => exact .tup (Same.tup e hs) (DpAll.mono e ds _ ha)
  | .dict _, _, h => by cases h
theorem DpAll.mono {K : PySem.W.Frag} {H H' : Hp} (e : Same H H') : ∀ (ds : List PyData) (vs : List V), DpAll K H vs ds → DpAll K H' vs ds
  | [], _, h => by cases h; exact .nil
  | d :: ds, _, h => by
    cases h with
    | cons h1 h2 => exact .cons (Dp.mono e d _ h1) (DpAll.mono e ds _ h2)
end
theorem DpAll.len {K : PySem.W.Frag} {H : Hp} : ∀ {ds : List PyData} {vs : List V}, DpAll K H vs ds → vs.length = ds.length
  | [], _, h => by cases h; rfl
  | _ :: _, _, h => by
    cases h with
    | cons _ h2 => rw [List.length_cons, List.length_cons, DpAll.len h2]
theorem DpAll.get {K : PySem.W.Frag} {H : Hp} : ∀ {ds : List PyData} {vs : List V} {i : Nat} {v : V}, DpAll K H vs ds → vs[i]? = some v → ∃ d, ds[i]? = some d ∧ Dp K H v d
  | [], _, _, _, h, e => by cases h; simp at e
  | d :: ds, _, 0, v, h, e => by
    cases h with
    | cons h1 h2 =>
      simp at e
      subst e
      exact ⟨d, rfl, h1⟩
  | d :: ds, _, i + 1, v, h, e => by
    cases h with
    | cons h1 h2 => exact DpAll.get (i := i) h2 (by simpa using e)
theorem DpAll.app {K : PySem.W.Frag} {H : Hp} : ∀ {ds es : List PyData} {vs us : List V}, DpAll K H vs ds → DpAll K H us es → DpAll K H (vs ++ us) (ds ++ es)
  | [], _, _, _, h, k => by cases h; exact k
  | _ :: _, _, _, _, h, k => by
    cases h with
    | cons h1 h2 => exact .cons h1 (DpAll.app h2 k)
theorem tyL {K : PySem.W.Frag} {H : Hp} {a : Addr} {xs : List V} (h : SqL K H a xs) : TyX K H (.ref a) (.type "list") := by
  rcases h with (h | ⟨o, h⟩) | ⟨o, _, _, h, hc, _⟩
  · exact .base (.lst h)
  · exact .base (.frz h)
  · exact .kList h hc
theorem tyT {K : PySem.W.Frag} {H : Hp} {a : Addr} {xs : List V} (h : SqT K H a xs) : TyX K H (.ref a) (.type "tuple") := by
  rcases h with (h | ⟨o, h⟩) | ⟨o, _, _, h, hc, _⟩
  · exact .base (.tup h)
  · exact .fTuple h
  · exact .kTuple h hc
/-- the built-in type's name -/
def tyN : PyData → String
  | .none => "NoneType"
  | .bool _ => "bool"
  | .int _ => "int"
  | .str _ => "str"
  | .list _ => "list"
  | .tuple _ => "tuple"
  | .dict _ => "dict"
theorem Dp.ty {K : PySem.W.Frag} {H : Hp} : ∀ {d : PyData} {v : V}, Dp K H v d → TyX K H v (.type (tyN d))
  | .none, _, h => by cases h; exact .base .non
  | .bool _, _, h => by cases h; exact .base (.bl _)
  | .int _, _, h => by cases h; exact .base (.int _)
  | .str _, _, h => by cases h; exact .base (.str _)
  | .list ds, _, h => by
    cases h with
    | lst hs _ => exact tyL hs
  | .tuple ds, _, h => by
    cases h with
    | tup hs _ => exact tyT hs
  | .dict _, _, h => by cases h
def isD (T : String) (d : PyData) : Bool := (kitB (tyN d) T).getD false
theorem kit_d {K : PySem.W.Frag} {T : String} {d : PyData} (h : ∀ d : PyData, (kitB (tyN d) T).isSome = true) : PySem.W.kitOne K (.type (tyN d)) (.type T) = some (isD T d) := by
  refine kit_ty ?_
  have := h d
  unfold isD
  cases e : kitB (tyN d) T with
  | none => rw [e] at this; cases this
  | some b => rfl
theorem some_str (d : PyData) : (kitB (tyN d) "str").isSome = true := by cases d <;> (dsimp only [tyN]; decide +kernel)
theorem some_int (d : PyData) : (kitB (tyN d) "int").isSome = true := by cases d <;> (dsimp only [tyN]; decide +kernel)
theorem some_bool (d : PyData) : (kitB (tyN d) "bool").isSome = true := by cases d <;> (dsimp only [tyN]; decide +kernel)
theorem some_list (d : PyData) : (kitB (tyN d) "list").isSome = true := by cases d <;> (dsimp only [tyN]; decide +kernel)
theorem some_tuple (d : PyData) : (kitB (tyN d) "tuple").isSome = true := by cases d <;> (dsimp only [tyN]; decide +kernel)
theorem isStr_eq (d : PyData) : isD "str" d = (match d with | .str _ => true | _ => false) := by cases d <;> (dsimp only [isD, tyN]; decide +kernel)
theorem isInt_eq (d : PyData) : isD "int" d = (match d with | .int _ => true | .bool _ => true | _ => false) := by cases d <;> (dsimp only [isD, tyN]; decide +kernel)
theorem isBool_eq (d : PyData) : isD "bool" d = (match d with | .bool _ => true | _ => false) := by cases d <;> (dsimp only [isD, tyN]; decide +kernel)
theorem isList_eq (d : PyData) : isD "list" d = (match d with | .list _ => true | _ => false) := by cases d <;> (dsimp only [isD, tyN]; decide +kernel)
theorem isTuple_eq (d : PyData) : isD "tuple" d = (match d with | .tuple _ => true | _ => false) := by cases d <;> (dsimp only [isD, tyN]; decide +kernel)
/-- nested less than n deep, without dicts -/
def Fits : Nat → PyData → Prop
  | 0, _ => False
  | _ + 1, .none => True
  | _ + 1, .bool _ => True
  | _ + 1, .int _ => True
  | _ + 1, .str _ => True
  | n + 1, .list ds => ds.length < 1000000 ∧ ∀ d ∈ ds, Fits n d
  | n + 1, .tuple ds => ds.length < 1000000 ∧ ∀ d ∈ ds, Fits n d
  | _ + 1, .dict _ => False
/-- names -/
def alpha : List Nat := [97, 98, 99, 100, 101, 102, 103, 104, 105, 106, 107, 108, 109, 110, 111, 112, 113, 114, 115, 116, 117, 118, 119, 120, 121, 122]
def nameB (z : Str) : Bool := decide (1 ≤ z.length) && decide (z.length ≤ 6) && z.cps.toList.all (fun c => decide (c ∈ alpha))
def nameD : PyData → Bool
  | .str z => nameB z
  | _ => false
theorem alpha_eq : ("abcdefghijklmnopqrstuvwxyz" : Str).cps.toList = alpha := by decide +kernel
/-- what two same data are told -/
def spSame (K : PySem.W.Frag) (n : Nat) : Sp := fun vs H Q _ => ∃ (x y : V) (d : PyData), vs = [x, y] ∧ Dp K H x d ∧ Dp K H y d ∧ Fits n d ∧ ∀ H', Same H H' → Q (.bl true) H'
def spIsName (K : PySem.W.Frag) : Sp := fun vs H Q _ => ∃ (v : V) (d : PyData), vs = [v] ∧ Dp K H v d ∧ (∀ z, d = .str z → z.length ≤ 100000) ∧ ∀ H', Same H H' → Q (.bl (nameD d)) H'
def numD (lo hi : Int) : PyData → Bool
  | .int i => decide (lo ≤ i) && decide (i ≤ hi)
  | _ => false
def spIsNumber (K : PySem.W.Frag) : Sp := fun vs H Q _ => ∃ (v : V) (d : PyData) (lo hi : Int), vs = [v, .int lo, .int hi] ∧ Dp K H v d ∧ ∀ H', Same H H' → Q (.bl (numD lo hi d)) H'
/-- the odd values of the laws -/
def odds : List PyData := [.none, .bool true, .bool false, .str "", .str "A", .str "a1", .str "sevenst", .int (-1), .int 7, .tuple [.int 1, .str "a"], .list [.int 1], .tuple [], .int (10 ^ 14)]
def spOdd (K : PySem.W.Frag) : Sp := fun vs H Q _ => ∃ (p l q : Addr) (ys : List V) (ds : List PyData), vs = [.ref p, .ref q] ∧ BoxAt H p l ∧ H q = some (.lst ys) ∧ q ≠ p ∧ DpAll K (hide p H) ys ds ∧ ds.length ≤ 100 ∧
  ∀ (v : V) (d : PyData) (H' : Hp), d ∈ odds ++ ds → Dp K (hide p H') v d → BoxAt H' p l → But p H H' → Q v H'
end Bl

/-! guards for the short words -/
namespace Bl
open PySem L2
theorem gIte {c : Prop} [i : Decidable c] {A B : Prop} (h : @ite Prop c i A B) : @ite Prop c i A B := h
theorem gLoop {p : (Nat → Nat → St → Hp → Prop) → Prop} (h : Exists p) : Exists p := h
theorem gComp {p : (Nat → Nat → Hp → Prop) → Prop} (h : Exists p) : Exists p := h
theorem gWhile {p : (Nat → St → Hp → Prop) → Prop} (h : Exists p) : Exists p := h
theorem gEx {α : Sort u} {p : α → Prop} {w : α} (h : p w) : Exists p := ⟨w, h⟩
end Bl
namespace Bl
open PySem L2
theorem same_tr {H G H' : Hp} (b : Same G H') (a : Same H G) : Same H H' := a.trans b
theorem get_new {H : Hp} {p q : Addr} {o u : HO} (h : H p = none) (e : H q = some u) : upd H p o q = some u := same_new h o _ _ e
theorem seq_new {K : PySem.W.Frag} {H : Hp} {p q : Addr} {o : HO} {xs : List V} (h : H p = none) (e : SqL K H q xs) : SqL K (upd H p o) q xs := (same_new h o).seq e
theorem tup_new {K : PySem.W.Frag} {H : Hp} {p q : Addr} {o : HO} {xs : List V} (h : H p = none) (e : SqT K H q xs) : SqT K (upd H p o) q xs := Same.tup (same_new h o) e
theorem dp_new {K : PySem.W.Frag} {H : Hp} {p : Addr} {o : HO} {v : V} {d : PyData} (h : H p = none) (e : Dp K H v d) : Dp K (upd H p o) v d := Dp.mono (same_new h o) _ _ e
theorem dpa_new {K : PySem.W.Frag} {H : Hp} {p : Addr} {o : HO} {v : List V} {d : List PyData} (h : H p = none) (e : DpAll K H v d) : DpAll K (upd H p o) v d := DpAll.mono (same_new h o) _ _ e
theorem get_tr {H G : Hp} {q : Addr} {u : HO} (b : Same G H) (e : G q = some u) : H q = some u := b _ _ e
theorem seq_tr {K : PySem.W.Frag} {H G : Hp} {q : Addr} {xs : List V} (b : Same G H) (e : SqL K G q xs) : SqL K H q xs := b.seq e
theorem tup_tr {K : PySem.W.Frag} {H G : Hp} {q : Addr} {xs : List V} (b : Same G H) (e : SqT K G q xs) : SqT K H q xs := Same.tup b e
theorem dp_tr {K : PySem.W.Frag} {H G : Hp} {v : V} {d : PyData} (b : Same G H) (e : Dp K G v d) : Dp K H v d := Dp.mono b _ _ e
theorem dpa_tr {K : PySem.W.Frag} {H G : Hp} {v : List V} {d : List PyData} (b : Same G H) (e : DpAll K G v d) : DpAll K H v d := DpAll.mono b _ _ e
theorem same_nw {H G : Hp} {p : Addr} {o : HO} (h : G p = none) (a : Same H G) : Same H (upd G p o) := a.trans (same_new h o)
end Bl
namespace Bl
/-- what the short words do not open -/
structure Hold (p : Prop) : Prop where
  h : p
end Bl
namespace Bl
theorem gT {b : Bool} {A B : Prop} (hb : b = true) (h : A) : if b = true then A else B := by
  rw [hb, if_pos rfl]
  exact h
theorem gF {b : Bool} {A B : Prop} (hb : b = false) (h : B) : if b = true then A else B := by
  rw [hb, if_neg Bool.false_ne_true]
  exact h
end Bl
namespace Bl
theorem gEq {α : Sort u} {a b : α} (h : a = b) : a = b := h
theorem gLe {α : Type u} [LE α] {a b : α} (h : a ≤ b) : a ≤ b := h
theorem gLt {α : Type u} [LT α] {a b : α} (h : a < b) : a < b := h
end Bl

/-! names drawn: the words, as lists of code points -/
namespace Bl
open PySem L2
open SX (S)
def own : List Nat := [111, 119, 110]
def name4 : List Nat := [110, 97, 109, 101]
def tick4 : List Nat := [116, 105, 99, 107]
def worth5 : List Nat := [119, 111, 114, 116, 104]
theorem own_eq : ("own" : Str) = S own := by decide +kernel
theorem name4_eq : ("name" : Str) = S name4 := by decide +kernel
theorem tick4_eq : ("tick" : Str) = S tick4 := by decide +kernel
theorem worth5_eq : ("worth" : Str) = S worth5 := by decide +kernel
structure NameL (z : List Nat) : Prop where
  pos : 1 ≤ z.length
  six : z.length ≤ 6
  low : ∀ c ∈ z, c ∈ alpha
  no : z ≠ own ∧ z ≠ name4 ∧ z ≠ tick4 ∧ z ≠ worth5
theorem NameL.nameB {z : List Nat} (h : NameL z) : nameB (S z) = true := by
  unfold Bl.nameB
  rw [SX.S_len, decide_eq_true h.pos, decide_eq_true h.six, Bool.true_and, Bool.true_and, List.all_eq_true]
  intro c hc
  exact decide_eq_true (h.low c (by simpa [S] using hc))
theorem cut_pre {a : List Nat} {k : Nat} (h : k ≤ a.length) : cutS (S a) none (some (k : Int)) = S (a.take k) := by
  unfold cutS
  rw [HT.sIx_none, HT.sIx_nat, SX.S_len, List.drop_zero, Nat.sub_zero, Nat.min_eq_left h]
theorem cut_suf {a : List Nat} {k : Nat} (h : k ≤ a.length) : cutS (S a) (some (k : Int)) none = S (a.drop k) := by
  unfold cutS
  rw [HT.sIx_none, HT.sIx_nat, SX.S_len, Nat.min_eq_left h]
  have e : ((S a).cps.toList.drop k).take (a.length - k) = a.drop k := by
    show (a.toArray.toList.drop k).take (a.length - k) = a.drop k
    rw [List.toList_toArray, List.take_of_length_le (by rw [List.length_drop]; exact Nat.le_refl _)]
  rw [e]
theorem cutV_pre {xs : List V} {k : Nat} : cutV xs none (some (k : Int)) = xs.take k := by
  unfold cutV
  rw [HT.sIx_none, HT.sIx_nat, List.drop_zero, Nat.sub_zero]
  by_cases h : k ≤ xs.length
  · rw [Nat.min_eq_left h]
  · rw [Nat.min_eq_right (by omega), List.take_of_length_le (Nat.le_refl _), List.take_of_length_le (by omega)]
theorem alpha_len : alpha.length = 26 := rfl
theorem alpha_nd : alpha.Nodup := by decide
theorem str_ascii : ("abcdefghijklmnopqrstuvwxyz" : Str) = S alpha := by decide +kernel
/-- the k-th word -/
def wd (st : List Nat) (sp f k : Nat) : List Nat := st.take sp ++ alpha.getD ((f + 7 * k) % 26) 0 :: st.drop sp
theorem wd_len {st : List Nat} {sp f k : Nat} : (wd st sp f k).length = st.length + 1 := by
  unfold wd
  rw [List.length_append, List.length_cons, List.length_take, List.length_drop]
  omega
theorem alpha_at (i : Nat) (h : i < 26) : alpha[i]? = some (alpha.getD i 0) := by
  have h2 : i < alpha.length := h
  rw [List.getD_eq_getElem?_getD, List.getElem?_eq_getElem h2]
  rfl
theorem alpha_mem (i : Nat) (h : i < 26) : alpha.getD i 0 ∈ alpha := List.mem_of_getElem? (alpha_at i h)
theorem wd_low {st : List Nat} {sp f k : Nat} (hs : ∀ c ∈ st, c ∈ alpha) : ∀ c ∈ wd st sp f k, c ∈ alpha := by
  intro c hc
  unfold wd at hc
  rcases List.mem_append.mp hc with h | h
  · exact hs c (List.mem_of_mem_take h)
  · rcases List.mem_cons.mp h with h | h
    · rw [h]
      exact alpha_mem _ (Nat.mod_lt _ (by decide))
    · exact hs c (List.mem_of_mem_drop h)
theorem wd_inj {st : List Nat} {sp f k j : Nat} (hk : k < 8) (hj : j < 8) (e : wd st sp f k = wd st sp f j) : k = j := by
  unfold wd at e
  have e1 := List.append_cancel_left e
  have e2 : alpha.getD ((f + 7 * k) % 26) 0 = alpha.getD ((f + 7 * j) % 26) 0 := (List.cons.inj e1).1
  have h1 : (f + 7 * k) % 26 < 26 := Nat.mod_lt _ (by decide)
  have h2 : (f + 7 * j) % 26 < 26 := Nat.mod_lt _ (by decide)
  have e3 : alpha[(f + 7 * k) % 26]? = alpha[(f + 7 * j) % 26]? := by rw [alpha_at _ h1, alpha_at _ h2, e2]
  have e4 : (f + 7 * k) % 26 = (f + 7 * j) % 26 := (List.getElem?_inj (by show _ < 26; exact h1) alpha_nd).mp e3
  omega
theorem nd_map {α : Type} {g : Nat → α} : ∀ n : Nat, (∀ i j, i < n → j < n → g i = g j → i = j) → ((List.range n).map g).Nodup := by
  intro n h
  rw [List.Nodup, List.pairwise_map]
  refine List.Pairwise.imp_of_mem ?_ (List.nodup_range (n := n))
  intro a b ha hb hab e
  exact hab (h a b (List.mem_range.mp ha) (List.mem_range.mp hb) e)
theorem one_out {α : Type} [DecidableEq α] (o : α) : ∀ {l : List α}, l.Nodup → l.length ≤ (l.filter fun z => decide (z ≠ o)).length + 1
  | [], _ => Nat.zero_le _
  | z :: l, h => by
    have h2 := List.nodup_cons.mp h
    by_cases e : z = o
    · subst e
      have e2 : (l.filter fun y => decide (y ≠ z)) = l := List.filter_eq_self.mpr fun y hy => decide_eq_true (by rintro rfl; exact h2.1 hy)
      rw [List.filter_cons_of_neg (by simp), e2, List.length_cons]
      exact Nat.le_refl _
    · rw [List.filter_cons_of_pos (by simpa using e), List.length_cons, List.length_cons]
      have := one_out o h2.2
      omega
/-- the list of the forbidden words, as the law writes it -/
def bads : List V := [.str "own", .str "name", .str "tick", .str "worth"]
theorem inV_bads (z : List Nat) : inV (.str (S z)) bads = decide (z = own ∨ z = name4 ∨ z = tick4 ∨ z = worth5) := by
  have h : ∀ (o : List Nat), eqV (.str (S o)) (.str (S z)) = decide (z = o) := fun o => by
    show (S o == S z) = decide (z = o)
    rw [SX.S_beq_eq]
    by_cases e : o = z
    · rw [decide_eq_true e, decide_eq_true e.symm]
    · rw [decide_eq_false e, decide_eq_false (Ne.symm e)]
  show (eqV (.str "own") (.str (S z)) || (eqV (.str "name") (.str (S z)) || (eqV (.str "tick") (.str (S z)) || (eqV (.str "worth") (.str (S z)) || false)))) = _
  rw [own_eq, name4_eq, tick4_eq, worth5_eq, h, h, h, h, Bool.or_false, Bool.decide_or, Bool.decide_or, Bool.decide_or]
def keepB (z : List Nat) : Bool := !decide (z = own ∨ z = name4 ∨ z = tick4 ∨ z = worth5)
theorem keep_own {z : List Nat} (h : z.length = 1 ∨ z.length = 2 ∨ z.length = 3 ∨ z.length = 6) : keepB z = decide (z ≠ own) := by
  unfold keepB
  have h1 : z ≠ name4 := by rintro rfl; revert h; decide
  have h2 : z ≠ tick4 := by rintro rfl; revert h; decide
  have h3 : z ≠ worth5 := by rintro rfl; revert h; decide
  simp [h1, h2, h3]
/-- the words drawn, those let, the first n of them -/
def wds (st : List Nat) (sp f n : Nat) : List (List Nat) := (List.range n).map (wd st sp f)
theorem wds_names {st : List Nat} {sp f n : Nat} (hn : n ≤ 5) (hs : ∀ c ∈ st, c ∈ alpha) (hl : st.length = 0 ∨ st.length = 1 ∨ st.length = 2 ∨ st.length = 5) :
    (((wds st sp f (n + 2)).filter keepB).take n).length = n ∧ (∀ z ∈ ((wds st sp f (n + 2)).filter keepB).take n, NameL z) ∧ (((wds st sp f (n + 2)).filter keepB).take n).Nodup ∧
      (∀ z ∈ ((wds st sp f (n + 2)).filter keepB).take n, z.length = st.length + 1) := by
  have hlen : ∀ z ∈ wds st sp f (n + 2), z.length = st.length + 1 := fun z hz => by
    obtain ⟨k, _, rfl⟩ := List.mem_map.mp hz
    exact wd_len
  have nd : (wds st sp f (n + 2)).Nodup := nd_map _ fun i j hi hj e => wd_inj (by omega) (by omega) e
  have ef : (wds st sp f (n + 2)).filter keepB = (wds st sp f (n + 2)).filter fun z => decide (z ≠ own) :=
    List.filter_congr fun z hz => keep_own (by rw [hlen z hz]; omega)
  have h1 := one_out own nd
  have h2 : (wds st sp f (n + 2)).length = n + 2 := by unfold wds; rw [List.length_map, List.length_range]
  have mem : ∀ z ∈ ((wds st sp f (n + 2)).filter keepB).take n, z ∈ wds st sp f (n + 2) ∧ keepB z = true := fun z hz => List.mem_filter.mp (List.mem_of_mem_take hz)
  refine ⟨?_, fun z hz => ?_, (nd.sublist List.filter_sublist).sublist (List.take_sublist _ _), fun z hz => hlen z (mem z hz).1⟩
  · rw [List.length_take, ef]
    omega
  · obtain ⟨hm, hk⟩ := mem z hz
    have hlz := hlen z hm
    obtain ⟨k, _, rfl⟩ := List.mem_map.mp hm
    refine ⟨by omega, by omega, wd_low hs, ?_⟩
    unfold keepB at hk
    simpa using hk
theorem joinL_one : ∀ cs : List Nat, TL.joinL [] (cs.map fun c => [c]) = cs
  | [] => rfl
  | [c] => rfl
  | c :: d :: r => by
    show [c] ++ ([] ++ TL.joinL [] ((d :: r).map fun c => [c])) = c :: d :: r
    rw [joinL_one (d :: r)]
    rfl
theorem join_one (cs : List Nat) : Txt.join ("" : Str) (cs.map fun c => S [c]) = S cs := by
  have e : (cs.map fun c => S [c]) = (cs.map fun c => [c]).map S := by rw [List.map_map]; rfl
  rw [e, show ("" : Str) = S [] by decide +kernel, SX.join_S, joinL_one]
def nameV (z : List Nat) : V := .str (S z)
/-- n names -/
def spNames (K : PySem.W.Frag) : Sp := fun vs H Q _ => ∃ (p l : Addr) (n : Nat), vs = [.ref p, .int (n : Int)] ∧ BoxAt H p l ∧ 1 ≤ n ∧ n ≤ 5 ∧
  ∀ (q : Addr) (zs : List (List Nat)) (H' : Hp), zs.length = n → (∀ z ∈ zs, NameL z) → zs.Nodup → (∃ m, ∀ z ∈ zs, z.length = m) → hide p H q = none → q ≠ p → H' q = some (.lst (zs.map nameV)) → BoxAt H' p l → But p H H' → Q (.ref q) H'
end Bl

/-! tests of rows: their shape, what they say of a row -/
namespace Bl
open PySem L2
open SX (S)
inductive Tst where
  | is (c t : List Nat) | has (s : List Nat) | neg (a : Tst) | two (o : Bool) (a b : Tst)
def Tst.deep : Tst → Nat
  | .is _ _ => 1
  | .has _ => 1
  | .neg a => a.deep + 1
  | .two _ a b => max a.deep b.deep + 1
def twoS (o : Bool) : Str := if o then "and" else "or"
def Tst.toD : Tst → PyData
  | .is c t => .tuple [.str "is", .str (S c), .str (S t)]
  | .has s => .tuple [.str "has", .str (S s)]
  | .neg a => .tuple [.str "not", a.toD]
  | .two o a b => .tuple [.str (twoS o), a.toD, b.toD]
/-- made of these columns, this tag, this side -/
def Tst.over (cs : List (List Nat)) (t s : List Nat) : Tst → Prop
  | .is c u => c ∈ cs ∧ u = t
  | .has r => r = s
  | .neg a => a.over cs t s
  | .two _ a b => a.over cs t s ∧ b.over cs t s
theorem Tst.deep_pos : ∀ t : Tst, 1 ≤ t.deep
  | .is _ _ => Nat.le_refl 1
  | .has _ => Nat.le_refl 1
  | .neg _ => Nat.succ_le_succ (Nat.zero_le _)
  | .two _ _ _ => Nat.succ_le_succ (Nat.zero_le _)
def rowV (kvs : List (Key × V)) (k : List Nat) : V := (valV kvs (Sum.inr (S k))).getD .non
def holdB (kvs : List (Key × V)) : Tst → Bool
  | .is c t => decide (rowV kvs c = .str (S t))
  | .has s => decide (rowV kvs s = .bl true)
  | .neg a => !holdB kvs a
  | .two o a b => if o then holdB kvs a && holdB kvs b else holdB kvs a || holdB kvs b
/-- what is asked of the row: columns hold texts or nothing, sides bools or nothing -/
def RowOk (kvs : List (Key × V)) : Tst → Prop
  | .is c _ => rowV kvs c = .non ∨ (∃ b, rowV kvs c = .bl b) ∨ ∃ z, rowV kvs c = .str z
  | .has s => valV kvs (Sum.inr (S s)) = none ∨ ∃ b, valV kvs (Sum.inr (S s)) = some (.bl b)
  | .neg a => RowOk kvs a
  | .two _ a b => RowOk kvs a ∧ RowOk kvs b
theorem iteFk {b : Bool} {A B : Prop} (hb : b = false) (h : B) : if b = true then A else B := by
  rw [hb, if_neg Bool.false_ne_true]
  exact h
theorem iteTk {b : Bool} {A B : Prop} (hb : b = true) (h : A) : if b = true then A else B := by
  rw [hb, if_pos rfl]
  exact h
/-- a tuple's items by their shape -/
theorem Dp.tup2 {K : PySem.W.Frag} {H : Hp} {v : V} {d e : PyData} (h : Dp K H v (.tuple [d, e])) : ∃ a x y, v = .ref a ∧ SqT K H a [x, y] ∧ Dp K H x d ∧ Dp K H y e := by
  cases h with
  | tup hs ha =>
    cases ha with
    | cons h1 h2 =>
      cases h2 with
      | cons h3 h4 =>
        cases h4
        exact ⟨_, _, _, rfl, hs, h1, h3⟩
theorem Dp.tup3 {K : PySem.W.Frag} {H : Hp} {v : V} {d e f : PyData} (h : Dp K H v (.tuple [d, e, f])) : ∃ a x y z, v = .ref a ∧ SqT K H a [x, y, z] ∧ Dp K H x d ∧ Dp K H y e ∧ Dp K H z f := by
  cases h with
  | tup hs ha =>
    cases ha with
    | cons h1 h2 =>
      cases h2 with
      | cons h3 h4 =>
        cases h4 with
        | cons h5 h6 =>
          cases h6
          exact ⟨_, _, _, _, rfl, hs, h1, h3, h5⟩
theorem Dp.str1 {K : PySem.W.Frag} {H : Hp} {v : V} {z : Str} (h : Dp K H v (.str z)) : v = .str z := by
  cases h
  rfl
/-- is True, of a bool or None -/
def rIsNB : R2 := fun x y H Q => ∃ b : Bool, y = .bl b ∧ (x = .non ∧ Q (.bl false) H ∨ ∃ a, x = .bl a ∧ Q (.bl (decide (a = b))) H)
theorem op_isNB {X : Cx} : OpR X (compareOp .Is) rIsNB := by
  intro pins s σ H x y v u Q I rx ry h
  obtain ⟨b, rfl, ⟨rfl, q⟩ | ⟨a, rfl, q⟩⟩ := h
  · cases (show v = Value.none from rx)
    cases (show u = Value.bool b from ry)
    exact PySem.wpAny_is_other rfl (fun z => nomatch z) ⟨.bl false, H, I, rfl, q⟩
  · exact op_isBl pins s σ H _ _ v u Q I rx ry ⟨a, b, rfl, rfl, q⟩
def spHolds (K : PySem.W.Frag) (n : Nat) : Sp := fun vs H Q _ => ∃ (v : V) (t : Tst) (d : Addr) (kvs : List (Key × V)), vs = [v, .ref d] ∧ Dp K H v t.toD ∧ H d = some (.dK kvs) ∧ t.deep ≤ n ∧ RowOk kvs t ∧
  ∀ H', Same H H' → Q (.bl (holdB kvs t)) H'
def spFree (K : PySem.W.Frag) (n : Nat) : Sp := fun vs H Q _ => ∃ (p l q : Addr) (w0 w1 w2 w3 w4 : List Nat) (d : Nat), vs = [.ref p, .ref q, .int (d : Int)] ∧ BoxAt H p l ∧ hide p H q = some (.lst [nameV w0, nameV w1, nameV w2, nameV w3, nameV w4]) ∧
  w0.length ≤ 1000 ∧ w2.length ≤ 1000 ∧ 1 ≤ d ∧ d ≤ n ∧ ∀ (v : V) (t : Tst) (H' : Hp), t.deep = d → t.over [w0, w1, w2 ++ 46 :: w0] w3 w4 → Dp K (hide p H') v t.toD → BoxAt H' p l → But p H H' → Q v H'
end Bl

/-! my own rule: a, *b = a tuple -/
namespace Bl
open PySem L2 PyProof.Rows
theorem iter_tupiter {prog : Program} {w : World} {A : Around} {E : Value → Shared → Prop} {s : Shared} {it t : Addr} {i : Nat} {Q : Value → Shared → Prop} (hit : IsTupIter s.heap it t i) (h : Q (.ref it) s) : wpAny (model prog w) A (pyIter (.ref it)) Q E s := by
  refine wpAny_pyIter_slot hit.typeIs F.slot_tuple_iterator_iter (wpAny_call_entry F.slot_tuple_iterator_iter hit.typeIs F.entry_tuple_iterator_iter ?_ (F.args_tuple_iterator_iter_1 _))
  show wpAny _ _ (ret (.ref it)) _ _ s
  exact wpAny_pure ⟨_, rfl, "tuple_iterator", _, hit.typeIs, F.slot_tuple_iterator_next.lookup, h⟩
theorem tup_at {h h' : Heap} {a : Addr} {items : Array Value} (x : IsTup h a items) (e : ∀ o, h.get? a = some o → h'.get? a = some o) : IsTup h' a items := let ⟨o, ho, r⟩ := x; ⟨o, e _ ho, r⟩
theorem tupiter_at {h h' : Heap} {a t : Addr} {i : Nat} (x : IsTupIter h a t i) (e : ∀ o, h.get? a = some o → h'.get? a = some o) : IsTupIter h' a t i := let ⟨o, ho, r⟩ := x; ⟨o, e _ ho, r⟩
theorem walks_from1 {prog : Program} {w : World} {A : Around} (hh : A.handled = none) (I ax : Addr) (hne : ax ≠ I) (items : Array Value) (h1 : 1 ≤ items.size) :
    Walks prog w A I [I, ax] [I] (items.size - 1) (fun i v => items[i + 1]? = some v) (fun i h => IsTupIter h I ax (i + 1) ∧ IsTup h ax items) where
  sub := fun b hb => by simp at hb; simp [hb]
  frame := fun _ _ _ st hk => ⟨tupiter_at st.1 fun o e => hk I (by simp) o e, tup_at st.2 fun o e => hk ax (by simp) o e⟩
  item := fun i s Q E hi st hQ => by
    have hlt : i + 1 < items.size := by omega
    refine next_tuple_item st.1 st.2 (x := items[i + 1]) (by simp [hlt]) fun h' hit' hs' => ?_
    exact hQ _ h' s.toks (by simp [hlt]) ⟨hit', st.2.extBut hs'.extBut hne⟩ fun b o hb e => hs'.extBut b o (fun h => hb (by simp [h])) e
  done := fun s Q E st hQ => next_tuple_end hh st.1 st.2 (by rw [show items.size - 1 + 1 = items.size by omega]; simp) fun h' he' => hQ h' s.toks fun b o hb e => he' b o (fun h => hb (by simp [h])) e
  self := fun _ _ _ _ st hQ => iter_tupiter st.1 hQ
theorem items_tail {items : Array Value} {acc : Array Value} (h1 : 1 ≤ items.size) (h : ItemsOf (fun i v => items[i + 1]? = some v) acc (items.size - 1)) : acc.toList = items.toList.drop 1 := by
  obtain ⟨hs, hv⟩ := h
  apply List.ext_getElem?
  intro j
  rw [List.getElem?_drop, Array.getElem?_toList, Array.getElem?_toList, Nat.add_comm]
  by_cases hj : j < acc.size
  · have e : acc[j]? = some acc[j] := by simp [hj]
    rw [e]
    exact (hv j _ e).symm
  · rw [Array.getElem?_eq_none (by omega), Array.getElem?_eq_none (by omega)]
/-- what is asked: the tuple has a first item; a new list of the others -/
def gStar1 (K : PySem.W.Frag) (t u : TG) : TG := fun v σ H Q => ∃ a x xs, v = .ref a ∧ SqT K H a (x :: xs) ∧ ∀ p, H p = none → t x σ (upd H p (.lst xs)) fun σ1 H1 => u (.ref p) σ1 H1 Q
theorem pg_star1 {X : Cx} {e1 e2 : Expr} {k : Nat} {pos q : Pos} {t u : TG} (hc : X.calm = true) (h1 : PG X e1 t) (h2 : PG X e2 u)
    (hn : assignEach [e1, .Starred e2 q] X.env = [(false, assign e1 X.env), (true, assign e2 X.env)] := by rfl) : PG X (.Tuple [e1, .Starred e2 q] k pos) (gStar1 X.K t u) := by
  refine ⟨fun pins s σ H v w Q I r hw => ?_⟩
  obtain ⟨a, x, xs, rfl, hs, hw⟩ := hw
  obtain rfl : w = Value.ref a := r
  obtain ⟨its, rv, ht, hz⟩ := I.tuple hs
  obtain ⟨y, ys, rfl, rx, rxs⟩ : ∃ y ys, its = y :: ys ∧ RelV x y ∧ Vals xs ys := by
    cases rv with
    | cons p q => exact ⟨_, _, rfl, p, q⟩
  have hh := I.ok.hd hc
  have hlt : a ≠ s.heap.objs.size := by obtain ⟨o, ho, _⟩ := ht; exact Nat.ne_of_lt (Heap.lt_size ho)
  rw [assign_Tuple, hn]
  refine wpAny_bind (wpAny_standAt ?_)
  unfold unpack
  refine wpAny_bind (wpAny_holding ?_)
  show wpAny _ _ (unpackItems (.ref a) 2 (some 1)) _ _ s
  unfold unpackItems
  refine wpAny_bind ?_
  unfold notIterableAtAll
  refine wpAny_bind (wpAny_specialOf ht.typeIs slot_tuple_iter.lookup ?_)
  refine wpAny_pure ?_
  simp only [Bool.false_eq_true, if_false]
  refine wpAny_bind (wpAny_holding (iter_tuple ht ?_))
  refine wpAny_bind (wpAny_holding (draw_tuple hlt 1 0 _ _ ⟨_, Heap.get?_push_size _ rfl, rfl, rfl⟩ (ht.push _) (by simp) fun h₁ hit₁ hs₁ => ?_))
  have hfirst : List.take 1 (List.drop 0 (y :: ys).toArray.toList) = [y] := by simp
  rw [hfirst]
  rw [if_neg (by simp)]
  have hk₁ : ∀ b o, b ≠ s.heap.objs.size → s.heap.get? b = some o → h₁.get? b = some o := fun b o hb e => hs₁.extBut b o hb (Heap.get?_push_of_some _ e)
  have ht₁ : IsTup h₁ a (y :: ys).toArray := (ht.push _).extBut hs₁.extBut hlt
  have hsz₁ : s.heap.objs.size < h₁.objs.size := by
    obtain ⟨o, ho, _⟩ := hit₁
    exact Heap.lt_size ho
  have hax₁ : a < h₁.objs.size := by
    obtain ⟨o, ho, _⟩ := ht₁
    exact Heap.lt_size ho
  have hysl : ys.length ≤ sizeLine := by
    have h3 := rxs.length
    have h4 : (x :: xs).length ≤ sizeLine := hz
    rw [List.length_cons] at h4
    omega
  refine wpAny_bind (wpAny_holding (wpAny_collect_iter (T := "tuple_iterator") (.inr (.inr (.inr rfl))) (Walks.toS (walks_from1 (A := X.A.in1) hh s.heap.objs.size a hlt (y :: ys).toArray (by simp)))
    (fun i s' st => st.1.typeIs) ⟨hit₁, ht₁⟩ (fun b hb => ?_) (by simp) (fun s' acc hm hacc => ?_) (by simpa using hysl)))
  · simp at hb
    rcases hb with rfl | rfl
    · exact hsz₁
    · exact hax₁
  have hacc' : acc.toList = ys := by
    rw [items_tail (by simp) hacc]
    simp
  have hnl : acc.toList.length = ys.length := by rw [hacc']
  rw [hacc']
  obtain ⟨hk₂, hg, hd, ho, htk⟩ := hm
  obtain ⟨h₂, g₂, d₂, t₂, o₂⟩ := s'
  dsimp only at hk₂ hg hd ho htk
  subst hg hd ho
  have hk : ∀ b o, s.heap.get? b = some o → h₂.get? b = some o := fun b o e => hk₂ b o (by simpa using Nat.ne_of_lt (Heap.lt_size e)) (hk₁ b o (Nat.ne_of_lt (Heap.lt_size e)) e)
  have I3 : Inv X pins σ H { s with heap := h₂, toks := t₂ } := I.kept hk
  have hxl : xs.length ≤ sizeLine := by rw [rxs.length]; exact hysl
  have I2 := I3.lnew (t' := t₂) rxs hxl
  rw [if_neg (by simp)]
  have hpn : H h₂.objs.size = none := I3.fresh
  have q := hw _ hpn
  show wpAny _ _ (newList (ys.take ys.length) >>= fun l => pure ([y] ++ [l] ++ ys.drop ys.length)) _ _ _
  rw [List.take_length, List.drop_length]
  refine wpAny_bind (wpAny_newObj_type ?_ hysl)
  refine wpAny_pure ?_
  show wpAny _ _ (assignInOrder [assign e1 X.env, assign e2 X.env] [y, Value.ref h₂.objs.size]) _ _ _
  refine assignInOrder_cons (thn (h1.run _ _ _ _ _ _ _ I2 rx q) fun _ s4 ⟨σ4, H4, I4, q4⟩ => ?_)
  refine assignInOrder_cons (thn (h2.run _ _ _ _ (.ref h₂.objs.size) _ _ I4 rfl q4) fun _ s5 ⟨σ5, H5, I5, q5⟩ => ?_)
  exact assignInOrder_nil ⟨σ5, H5, I5, q5⟩
end Bl

/-! what is a test, of any data -/
namespace Bl
open PySem L2
open SX (S)
def dot : Str := "."
theorem dot_eq : ("." : Str) = S [46] := by decide +kernel
def colB (z : Str) : Bool := decide ((Txt.split z ".").length ≤ 2) && (Txt.split z ".").all nameB
def colD : PyData → Bool
  | .str z => colB z
  | _ => false
theorem split_dot (a : List Nat) : Txt.split (S a) "." = (TL.spl [46] 0 [] a).map S := by
  rw [dot_eq]
  exact SX.split_S (by decide) (by decide)
theorem spl_len {s : List Nat} : ∀ (l : List Nat) (k : Nat) (acc : List Nat), ∀ p ∈ TL.spl s k acc l, p.length ≤ acc.length + l.length
  | [], k, acc, p, h => by
    have e : TL.spl s k acc [] = [acc] := by cases k <;> rfl
    rw [e] at h
    obtain rfl := List.mem_singleton.mp h
    exact Nat.le_add_right _ _
  | c :: r, k + 1, acc, p, h => by
    have h' : p ∈ TL.spl s k acc r := h
    have := spl_len r k acc p h'
    rw [List.length_cons]
    omega
  | c :: r, 0, acc, p, h => by
    have h' : p ∈ (if TL.pre s (c :: r) = true then acc :: TL.spl s (s.length - 1) [] r else TL.spl s 0 (acc ++ [c]) r) := h
    rw [List.length_cons]
    by_cases hp : TL.pre s (c :: r) = true
    · rw [if_pos hp] at h'
      rcases List.mem_cons.mp h' with rfl | h'
      · exact Nat.le_add_right _ _
      · have := spl_len r _ [] p h'
        rw [List.length_nil] at this
        omega
    · rw [if_neg hp] at h'
      have := spl_len r _ _ p h'
      rw [List.length_append] at this
      have e1 : [c].length = 1 := rfl
      omega
theorem split_len {z y : Str} (h : y ∈ Txt.split z ".") : y.length ≤ z.length := by
  rw [← SX.S_tl z, split_dot] at h
  obtain ⟨l, hl, rfl⟩ := List.mem_map.mp h
  have := spl_len _ _ _ _ hl
  rw [SX.S_len]
  rw [List.length_nil, Nat.zero_add, Array.length_toList] at this
  exact this
theorem split_one {a : List Nat} (h : 46 ∉ a) : Txt.split (S a) "." = [S a] := by
  rw [split_dot, show TL.spl [46] 0 [] a = [a] from SX.spl_join (c := 46) (sep := []) (parts := [a]) (by simp) (by simpa using h)]
  rfl
theorem split_two {a b : List Nat} (h : 46 ∉ a) (k : 46 ∉ b) : Txt.split (S (a ++ 46 :: b)) "." = [S a, S b] := by
  rw [split_dot, show TL.spl [46] 0 [] (a ++ 46 :: b) = [a, b] from SX.spl_join (c := 46) (sep := []) (parts := [a, b]) (by simp) (by simp [h, k])]
  rfl
theorem no_dot {z : List Nat} (h : NameL z) : 46 ∉ z := fun hm => absurd (h.low 46 hm) (by decide)
theorem col_one {z : List Nat} (h : NameL z) : colB (S z) = true := by
  unfold colB
  rw [split_one (no_dot h)]
  simp [NameL.nameB h]
theorem col_two {y z : List Nat} (h : NameL y) (k : NameL z) : colB (S (y ++ 46 :: z)) = true := by
  unfold colB
  rw [split_two (no_dot h) (no_dot k)]
  simp [NameL.nameB h, NameL.nameB k]
/-- how many tests stand behind a first word -/
def partsN (h : Str) : Option Nat := if h = "not" then some 1 else if h = "and" then some 2 else if h = "or" then some 2 else none
def atD (f : PyData → Bool) (ds : List PyData) (i : Nat) : Bool := match ds[i]? with
  | some d => f d
  | none => false
def leafB (h : Str) (rest : List PyData) : Bool :=
  if h = "has" then decide (rest.length = 1) && atD nameD rest 0 else decide (h = "is") && (decide (rest.length = 2) && (atD colD rest 0 && atD nameD rest 1))
def isT : Nat → PyData → Bool
  | 0, _ => false
  | n + 1, .tuple (.str h :: rest) => match partsN h with
    | some k => decide (rest.length = k) && rest.all (isT n)
    | none => leafB h rest
  | _ + 1, _ => false
/-- texts and tuples of some size, n deep -/
def Sm : Nat → PyData → Prop
  | 0, _ => True
  | _ + 1, .str z => z.length ≤ 100000
  | n + 1, .tuple ds => ds.length ≤ 1000 ∧ ∀ d ∈ ds, Sm n d
  | _ + 1, _ => True
def spIsCol (K : PySem.W.Frag) : Sp := fun vs H Q _ => ∃ (v : V) (d : PyData), vs = [v] ∧ Dp K H v d ∧ (∀ z, d = .str z → z.length ≤ 100000) ∧ ∀ H', Same H H' → Q (.bl (colD d)) H'
def spIsT (K : PySem.W.Frag) (n : Nat) : Sp := fun vs H Q _ => ∃ (v : V) (d : PyData) (m : Nat), vs = [v, .int (m : Int)] ∧ m < n ∧ Dp K H v d ∧ Sm (m + 1) d ∧ ∀ H', Same H H' → Q (.bl (isT m d)) H'
theorem pn_not : partsN "not" = some 1 := by decide +kernel
theorem pn_and : partsN "and" = some 2 := by decide +kernel
theorem pn_or : partsN "or" = some 2 := by decide +kernel
theorem pn_is : partsN "is" = none := by decide +kernel
theorem pn_has : partsN "has" = none := by decide +kernel
theorem pn_two (o : Bool) : partsN (twoS o) = some 2 := by cases o <;> decide +kernel
theorem is_has : ¬ (("is" : Str) = "has") := by decide +kernel
theorem isT_parts {h : Str} {k : Nat} (n : Nat) (rest : List PyData) (e : partsN h = some k) : isT (n + 1) (.tuple (.str h :: rest)) = (decide (rest.length = k) && rest.all (isT n)) := by
  show (match partsN h with | some k => _ | none => leafB h rest) = _
  rw [e]
theorem isT_leaf {h : Str} (n : Nat) (rest : List PyData) (e : partsN h = none) : isT (n + 1) (.tuple (.str h :: rest)) = leafB h rest := by
  show (match partsN h with | some k => _ | none => leafB h rest) = _
  rw [e]
theorem isT_is (n : Nat) (a b : PyData) : isT (n + 1) (.tuple [.str "is", a, b]) = (colD a && nameD b) := by
  rw [isT_leaf n _ pn_is]
  unfold leafB
  rw [if_neg is_has]
  simp [atD]
theorem isT_has (n : Nat) (a : PyData) : isT (n + 1) (.tuple [.str "has", a]) = nameD a := by
  rw [isT_leaf n _ pn_has]
  unfold leafB
  rw [if_pos rfl]
  simp [atD]
/-- a drawn test is one, if it is not too deep -/
structure Words (w0 w1 w2 w3 w4 : List Nat) : Prop where
  a : NameL w0
  b : NameL w1
  c : NameL w2
  d : NameL w3
  e : NameL w4
theorem Words.col {w0 w1 w2 w3 w4 : List Nat} (W : Words w0 w1 w2 w3 w4) {c : List Nat} (h : c ∈ [w0, w1, w2 ++ 46 :: w0]) : colB (S c) = true ∧ c.length ≤ 13 := by
  have h0 := W.a.six
  have h1 := W.b.six
  have h2 := W.c.six
  rcases List.mem_cons.mp h with rfl | h
  · exact ⟨col_one W.a, by omega⟩
  rcases List.mem_cons.mp h with rfl | h
  · exact ⟨col_one W.b, by omega⟩
  obtain rfl := List.mem_singleton.mp h
  refine ⟨col_two W.c W.a, ?_⟩
  rw [List.length_append, List.length_cons]
  omega
theorem isT_over {w0 w1 w2 w3 w4 : List Nat} (W : Words w0 w1 w2 w3 w4) : ∀ (n : Nat) (t : Tst), t.over [w0, w1, w2 ++ 46 :: w0] w3 w4 → isT n t.toD = decide (t.deep ≤ n)
  | 0, t, _ => by
    have := t.deep_pos
    exact (decide_eq_false (by omega)).symm
  | n + 1, .is c t, h => by
    obtain ⟨hc, rfl⟩ := h
    show isT (n + 1) (.tuple [.str "is", .str (S c), .str (S t)]) = _
    rw [isT_is]
    show (colB (S c) && nameB (S t)) = decide (1 ≤ n + 1)
    rw [(W.col hc).1, NameL.nameB W.d, decide_eq_true (by omega)]
    rfl
  | n + 1, .has s, h => by
    obtain rfl : s = w4 := h
    show isT (n + 1) (.tuple [.str "has", .str (S s)]) = _
    rw [isT_has]
    show nameB (S s) = decide (1 ≤ n + 1)
    rw [NameL.nameB W.e, decide_eq_true (by omega)]
  | n + 1, .neg t, h => by
    show isT (n + 1) (.tuple [.str "not", t.toD]) = decide (t.deep + 1 ≤ n + 1)
    rw [isT_parts n _ pn_not, List.all_cons, List.all_nil, isT_over W n t h]
    simp
  | n + 1, .two o t u, h => by
    show isT (n + 1) (.tuple [.str (twoS o), t.toD, u.toD]) = decide (max t.deep u.deep + 1 ≤ n + 1)
    rw [isT_parts n _ (pn_two o), List.all_cons, List.all_cons, List.all_nil, isT_over W n t h.1, isT_over W n u h.2]
    have e2 : decide (max t.deep u.deep + 1 ≤ n + 1) = (decide (t.deep ≤ n) && decide (u.deep ≤ n)) := by
      by_cases h1 : t.deep ≤ n
      · by_cases h2 : u.deep ≤ n
        · rw [decide_eq_true h1, decide_eq_true h2, decide_eq_true (by omega)]
          rfl
        · rw [decide_eq_false h2, decide_eq_false (by omega), Bool.and_false]
      · rw [decide_eq_false h1, decide_eq_false (by omega), Bool.false_and]
    rw [e2]
    simp
theorem Sm_over {w0 w1 w2 w3 w4 : List Nat} (W : Words w0 w1 w2 w3 w4) : ∀ (n : Nat) (t : Tst), t.over [w0, w1, w2 ++ 46 :: w0] w3 w4 → Sm n t.toD
  | 0, _, _ => True.intro
  | 1, .is _ _, _ => ⟨by show 3 ≤ 1000; decide, fun _ _ => True.intro⟩
  | 1, .has _, _ => ⟨by show 2 ≤ 1000; decide, fun _ _ => True.intro⟩
  | n + 2, .is c t, h => by
    obtain ⟨hc, rfl⟩ := h
    refine ⟨by show 3 ≤ 1000; decide, fun d hd => ?_⟩
    rcases List.mem_cons.mp hd with rfl | hd
    · show ("is" : Str).length ≤ 100000
      decide +kernel
    rcases List.mem_cons.mp hd with rfl | hd
    · show (S c).length ≤ 100000
      rw [SX.S_len]
      have := (W.col hc).2
      omega
    obtain rfl := List.mem_singleton.mp hd
    show (S t).length ≤ 100000
    rw [SX.S_len]
    have := W.d.six
    omega
  | n + 2, .has s, h => by
    obtain rfl : s = w4 := h
    refine ⟨by show 2 ≤ 1000; decide, fun d hd => ?_⟩
    rcases List.mem_cons.mp hd with rfl | hd
    · show ("has" : Str).length ≤ 100000
      decide +kernel
    obtain rfl := List.mem_singleton.mp hd
    show (S s).length ≤ 100000
    rw [SX.S_len]
    have := W.e.six
    omega
  | n + 1, .neg t, h => by
    refine ⟨by show 2 ≤ 1000; decide, fun d hd => ?_⟩
    rcases List.mem_cons.mp hd with rfl | hd
    · cases n with
      | zero => exact True.intro
      | succ n =>
        show ("not" : Str).length ≤ 100000
        decide +kernel
    obtain rfl := List.mem_singleton.mp hd
    exact Sm_over W n t h
  | n + 1, .two o t u, h => by
    refine ⟨by show 3 ≤ 1000; decide, fun d hd => ?_⟩
    rcases List.mem_cons.mp hd with rfl | hd
    · cases n with
      | zero => exact True.intro
      | succ n =>
        show (twoS o).length ≤ 100000
        cases o <;> decide +kernel
    rcases List.mem_cons.mp hd with rfl | hd
    · exact Sm_over W n t h.1
    obtain rfl := List.mem_singleton.mp hd
    exact Sm_over W n u h.2
/-! the written table of first words -/
def PartsAt (K : PySem.W.Frag) (w : World) (p : Addr) : Prop := ∃ es n, KDict K w p es n ∧ ∀ z : Str, ∃ r, PySem.W.nsIn K p z = some r ∧ (match partsN z with
  | some k => ∃ t, r = some (.int (k : Int) t)
  | none => r = none)
section
variable {X : Cx} {p : Addr}
theorem op_in_parts (h : PartsAt X.K X.w p) : OpR X (compareOp .In) (fun x y H Q => ∃ z, x = .str z ∧ y = .ref p ∧ Q (.bl (partsN z).isSome) H) := by
  intro pins s σ H x y v u Q I rx ry h2
  obtain ⟨z, rfl, rfl, q⟩ := h2
  obtain ⟨es, n, D, hz⟩ := h
  obtain ⟨r, hr, hk⟩ := hz z
  have e : (partsN z).isSome = r.isSome := by
    cases e : partsN z with
    | none =>
      rw [e] at hk
      rw [hk]
      rfl
    | some k =>
      rw [e] at hk
      obtain ⟨t, rfl⟩ := hk
      rfl
  rw [e] at q
  exact op_in_kd D pins s σ H _ _ v u Q I rx ry ⟨z, r, rfl, rfl, hr, q⟩
theorem ix_parts (h : PartsAt X.K X.w p) : IxR X (fun x y H Q => ∃ z, ∃ k : Nat, x = .ref p ∧ y = .str z ∧ partsN z = some k ∧ Q (.int k) H) := by
  intro value slice pins s σ H x y v u Q I rx ry h2 hs
  obtain ⟨z, k, rfl, rfl, hp, q⟩ := h2
  obtain ⟨es, n, D, hz⟩ := h
  obtain ⟨r, hr, hk⟩ := hz z
  rw [hp] at hk
  obtain ⟨t, rfl⟩ := hk
  exact ix_kdict value slice pins s σ H _ _ v u Q I rx ry ⟨p, z, .int k, rfl, rfl, ⟨es, n, _, D.at_, D.lit, hr, ⟨t, rfl⟩⟩, q⟩ hs
end
theorem parts_mk {K : PySem.W.Frag} {w : World} {p : Addr} {n : Nat} {h0 h1 h2 : Int} {t0 t1 t2 u0 u1 u2 : Tok}
    (L : K.lookup p = some ⟨.type "dict", none, .dict #[⟨h0, .str "not" t0, .int 1 u0⟩, ⟨h1, .str "and" t1, .int 2 u1⟩, ⟨h2, .str "or" t2, .int 2 u2⟩] n, #[]⟩)
    (V : PySem.W.KeysLit w.params [⟨h0, .str "not" t0, .int 1 u0⟩, ⟨h1, .str "and" t1, .int 2 u1⟩, ⟨h2, .str "or" t2, .int 2 u2⟩]) (hs : (p == sysModules) = false) : PartsAt K w p := by
  refine ⟨_, n, ⟨L, V, hs⟩, fun z => ?_⟩
  unfold PySem.W.nsIn
  rw [L]
  have hb : ∀ a b : Str, (a == b) = decide (b = a) := fun a b => by
    by_cases e : b = a
    · rw [decide_eq_true e, e]
      exact beq_self_eq_true _
    · rw [decide_eq_false e]
      exact beq_eq_false_iff_ne.mpr (Ne.symm e)
  by_cases e0 : z = "not"
  · subst e0
    rw [pn_not]
    exact ⟨some (.int 1 u0), by simp [List.find?, Value.isStr], u0, rfl⟩
  by_cases e1 : z = "and"
  · subst e1
    rw [pn_and]
    have n1 : (("not" : Str) == "and") = false := by decide +kernel
    exact ⟨some (.int 2 u1), by simp [List.find?, Value.isStr, n1], u1, rfl⟩
  by_cases e2 : z = "or"
  · subst e2
    rw [pn_or]
    have n1 : (("not" : Str) == "or") = false := by decide +kernel
    have n2 : (("and" : Str) == "or") = false := by decide +kernel
    exact ⟨some (.int 2 u2), by simp [List.find?, Value.isStr, n1, n2], u2, rfl⟩
  have e3 : partsN z = none := by
    unfold partsN
    rw [if_neg e0, if_neg e1, if_neg e2]
  rw [e3]
  have n0 : (("not" : Str) == z) = false := by rw [hb]; exact decide_eq_false e0
  have n1 : (("and" : Str) == z) = false := by rw [hb]; exact decide_eq_false e1
  have n2 : (("or" : Str) == z) = false := by rw [hb]; exact decide_eq_false e2
  exact ⟨none, by simp [List.find?, Value.isStr, n0, n1, n2, DictEntry.refKey], rfl⟩
end Bl

/-! own classes: methods called with keywords; == by the text's own __eq__, any answer; a field read in a comprehension; what is never reached -/
namespace Bl
open PySem L2 PySem.Spec PyProof.Rows
def tNoE : TE := fun _ _ _ => False
def tNoT : TT := fun _ _ _ => False
theorem pe_never {X : Cx} {e : Expr} : PE X e tNoE := ⟨fun _ _ _ _ _ _ h => h.elim⟩
theorem pt_never {X : Cx} {e : Expr} : PT X e tNoT := ⟨fun _ _ _ _ _ _ h => h.elim⟩
/-- e.m(.., k = v, ..) -/
def tMethK (C : Addr) (m : Str) (sp : Sp) (gV : List V → List V → List V) (E : XK) (ta : TE) (t tk : TA) : TE := fun σ H Q => ta σ H fun x H1 => ∃ a dx fs, x = .ref a ∧ H1 a = some (.ins C dx fs) ∧ fs.lookup m = none ∧
  t σ H1 fun vs H2 => tk σ H2 fun zs H3 => sp (gV (x :: vs) zs) H3 Q E
section
variable {X : Cx} {CX : CXT} {k : Nat} {C f : Addr} {fd : FuncData} {ps ks : List Str} {sp : Sp} {E : XK} {o e : Expr} {es : List Expr} {kws : List Keyword} {m : Str} {pos apos : Pos} {ta : TE} {t tk : TA}
  {g : List Value → List Value → List Value} {gV : List V → List V → List V}
theorem pe_methK {pl : Sem Bool} (he : PE X o ta) (c : Cls X.K C) (hm : Meth X.K C m f) (F : FnOk X.prog X.w X.K X.mg X.base CX k f fd ps sp) (hr : Room k X.A) (hb : KBinds X.K fd ps ks g gV) (hx : Passes CX X E) (ha : PA X (e :: es) t) (hkw : PK X kws tk)
    (hall : (backToKw pos (keywordEach kws X.env)).all (·.1.isSome) = true := by rfl) (hks : (backToKw pos (keywordEach kws X.env)).filterMap (·.1) = ks := by rfl)
    (hst : starEach (e :: es) X.env = (false, eval e X.env) :: starEach es X.env := by rfl)
    (hpl : ((backTo pos (starEach (e :: es) X.env)).any (·.1) || (backToKw pos (keywordEach kws X.env)).any (·.1.isNone)) = false := by rfl)
    (ht : eval (.Call (.Attribute o m apos) (e :: es) kws pos) X.env = (do
      let ov ← eval o X.env
      standAt apos.atName
      let (f, first) ← holding [ov] (getMethod ov m pl)
      callWith pos f first (backTo pos (starEach (e :: es) X.env)) (backToKw pos (keywordEach kws X.env))) := by rfl) :
    PE X (.Call (.Attribute o m apos) (e :: es) kws pos) (tMethK C m sp gV E ta t tk) := by
  refine ⟨fun pins s σ H Q I h => ?_⟩
  refine PySem.W.methodCall_KW (pl := pl) (thn (he.run pins s σ H _ I h) fun u s1 ⟨x, H1, I1, rx, a, dx, fs, ex, ea, l, q⟩ => ?_) ht
  subst ex
  obtain rfl : u = Value.ref a := rx
  refine getmeth_ok I1 ea c hm l ?_
  refine PySem.W.callWith_KW (first := [.ref a]) (h₀ := X.base) I.ok.mod.kin hm.kp hall (thn (ha.run pos pins s1 σ H1 _ I1 q) fun us s2 ⟨vs, H2, I2, r, q2⟩ => ?_) hpl hst
  refine thn (hkw.run pos pins s2 σ H2 _ I2 q2) fun ws s3 ⟨zs, H3, I3, rz, q3⟩ => ⟨I3.kIn, ?_⟩
  rw [hks]
  exact run_fnk (us := .ref a :: us) (vs := .ref a :: vs) F hr hb hx I3 (.cons rfl r) rz q3
/-- a field, within a comprehension -/
theorem pe_fldC {K : PySem.W.Frag} (hK : X.K = K) (he : PE X e ta) (hb : attributeBase e m X.env (eval e X.env) = eval e X.env := by rfl) : PE X (.Attribute e m pos) (tFld K ta m) := by
  subst hK
  exact pe_fld he hb
/-- x == y, x an instance of the class at C whose __eq__ is at g -/
@[irreducible] def rOwnI (K : PySem.W.Frag) (C : Addr) (sp : Sp) (E : XK) : R2 := fun x y H Q => ∃ a dx fs t, x = .ref a ∧ H a = some (.ins C dx fs) ∧ TyX K H y t ∧ PySem.W.notFirst K C t = true ∧ sp [x, y] H Q E
theorem op_ownI (hs : PySem.W.findIn X.K (.ref C) "__eq__" = some (some (.ref f))) (hf : PySem.W.isFn X.K (.ref f) = true) (F : FnOk X.prog X.w X.K X.mg X.base CX k f fd ps sp) (hb : Binds X.K fd ps [])
    (hr : Room k X.A) (hx : Passes CX X E) : OpR X (compareOp .Eq) (rOwnI X.K C sp E) := by
  intro pins s σ H x y v u Q I rx ry h
  unfold rOwnI at h
  obtain ⟨a, dx, fs, t, rfl, ha, hy, hn, q⟩ := h
  cases (show v = Value.ref a from rx)
  obtain ⟨mA, J, _⟩ := ins_get I.hok ha
  obtain ⟨od, J, _⟩ := J.look
  obtain ⟨PP, kx, hP, _⟩ := kit_of I ry hy
  obtain ⟨m, hF⟩ := I.fr
  show wpAny (model X.prog X.w) X.A (richCompare .Eq (.ref a) u) (EP X pins σ Q) X.xe s
  refine PySem.W.cmp_K (op := .Eq) (tb := t) hr.units0 hF I.ok.mod.kin J (kx.ty _ _ I.kIn hP) hn hs hf ?_
  refine wpAny_mono (run_fn (us := [.ref a, u]) (vs := [.ref a, y]) F hr hb .nil hx I (.cons rfl (.cons ry .nil)) (by exact q)) (fun w s' z => ?_) fun _ _ x => x
  obtain ⟨z', H', I', rz, qz⟩ := z
  exact SlX.cmpback rz ⟨z', H', I', rz, qz⟩
end
end Bl
namespace Bl
open PySem L2
def ownTys : List String := ["list", "tuple", "dict", "str", "int", "bool", "NoneType"]
/-- a class that no built-in one is under, whose == goes first -/
def ownB (K : PySem.W.Frag) (C : Addr) : Bool := PySem.W.notFirst K C (.ref C) && ownTys.all fun t => decide (PySem.W.kitOne K (.type t) (.ref C) = some false) && PySem.W.notFirst K C (.type t)
theorem own_me {K : PySem.W.Frag} {C : Addr} (h : ownB K C = true) : PySem.W.notFirst K C (.ref C) = true := (Bool.and_eq_true_iff.mp h).1
theorem own_kit {K : PySem.W.Frag} {C : Addr} (h : ownB K C = true) {t : String} (ht : t ∈ ownTys) : PySem.W.kitOne K (.type t) (.ref C) = some false :=
  of_decide_eq_true (Bool.and_eq_true_iff.mp (List.all_eq_true.mp (Bool.and_eq_true_iff.mp h).2 t ht)).1
theorem own_nf {K : PySem.W.Frag} {C : Addr} (h : ownB K C = true) {t : String} (ht : t ∈ ownTys) : PySem.W.notFirst K C (.type t) = true :=
  (Bool.and_eq_true_iff.mp (List.all_eq_true.mp (Bool.and_eq_true_iff.mp h).2 t ht)).2
theorem ty_own {K : PySem.W.Frag} {H : Hp} {a C dx : Addr} {fs : List (Str × V)} (c : C8.InsC K C) (e : H a = some (.ins C dx fs)) : TyX K H (.ref a) (.ref C) := .base (.ins e c.cl c.ha c.hn c.htk c.hm)
/-- all but what stands at some places is as it was -/
def Fr (S : List Addr) (H H' : Hp) : Prop := ∀ b o, H b = some o → b ∉ S → H' b = some o
theorem Fr.of {S : List Addr} {H H' : Hp} (h : Same H H') : Fr S H H' := fun b o e _ => h b o e
theorem Fr.trans {S : List Addr} {H G H' : Hp} (a : Fr S H G) (b : Fr S G H') : Fr S H H' := fun x o e n => b x o (a x o e n) n
theorem Fr.sub {S T : List Addr} {H H' : Hp} (a : Fr S H H') (h : ∀ x ∈ S, x ∈ T) : Fr T H H' := fun x o e n => a x o e fun k => n (h x k)
theorem Fr.put {S : List Addr} {H H' : Hp} {p : Addr} {o : HO} (a : Fr S H H') (h : p ∈ S) : Fr S H (upd H' p o) := fun x u e n => by
  rw [upd_ne (by
    rintro rfl
    exact n h)]
  exact a x u e n
theorem Fr.new {S : List Addr} {H H' : Hp} {p : Addr} {o : HO} (a : Fr S H H') (h : H' p = none) : Fr S H (upd H' p o) := fun x u e n => by
  have := a x u e n
  rw [upd_ne (ne_of_none this h)]
  exact this
theorem Fr.free {S : List Addr} {H H' : Hp} {a : Addr} (f : Fr S H H') (h : H' a = none) (n : a ∉ S) : H a = none := by
  cases e : H a with
  | none => rfl
  | some o => rw [f a o e n] at h; cases h
/-- a heap without some places -/
def cutH (S : List Addr) (H : Hp) : Hp := fun b => if b ∈ S then none else H b
theorem cutH_le {S : List Addr} {H : Hp} : Same (cutH S H) H := fun b o h => by
  unfold cutH at h
  by_cases e : b ∈ S
  · rw [if_pos e] at h
    cases h
  · rw [if_neg e] at h
    exact h
theorem cutH_no {S : List Addr} {H : Hp} {b : Addr} {o : HO} (h : cutH S H b = some o) : b ∉ S := fun e => by
  unfold cutH at h
  rw [if_pos e] at h
  cases h
theorem cutH_ne {S : List Addr} {H : Hp} {b : Addr} (h : b ∉ S) : cutH S H b = H b := if_neg h
theorem cutH_fr {S T : List Addr} {H H' : Hp} (f : Fr T H H') : Same (cutH (S ++ T) H) (cutH (S ++ T) H') := fun b o h => by
  have n := cutH_no h
  rw [cutH_ne n] at h ⊢
  exact f b o h fun k => n (List.mem_append_right _ k)
end Bl

/-! a ledger as it stands -/
namespace Bl
open PySem L2
abbrev Row := List (Str × Str)
/-- a row as a dict -/
def rowK (r : Row) : List (Key × V) := r.map fun q => (Sum.inr q.1, V.str q.2)
structure LFt where
  (dx th ro si un : Addr)
structure LSt where
  things : List (List Str)
  rows : List Row
  sides : List Str
  undone : List (Row × Str)
def LFt.fs (f : LFt) : List (Str × V) := [("_things", .ref f.th), ("_rows", .ref f.ro), ("_sides", .ref f.si), ("_undone", .ref f.un)]
/-- the places of a ledger that its methods write -/
def LFt.wr (f : LFt) (p : Addr) : List Addr := [p, f.ro, f.si, f.un]
def LFt.all (f : LFt) (p : Addr) : List Addr := [p, f.th, f.ro, f.si, f.un]
def ThOk (K : PySem.W.Frag) (H : Hp) (t : Addr) (ns : List Str) : Prop := SqT K H t (ns.map V.str)
def LRowOk (H : Hp) (r : Addr) (w : Row) : Prop := H r = some (.dK (rowK w))
def UndOk (K : PySem.W.Frag) (H : Hp) (u : Addr) (x : Row × Str) : Prop := ∃ r, SqT K H u [.ref r, .str x.2] ∧ LRowOk H r x.1
structure LedAt (K : PySem.W.Frag) (C : Addr) (H : Hp) (p : Addr) (f : LFt) (L : LSt) : Prop where
  ins : H p = some (.ins C f.dx f.fs)
  th : ∃ ts : List Addr, H f.th = some (.lst (ts.map V.ref)) ∧ Paired (ThOk K H) ts L.things
  ro : ∃ rs : List Addr, H f.ro = some (.lst (rs.map V.ref)) ∧ Paired (LRowOk H) rs L.rows
  si : H f.si = some (.lst (L.sides.map V.str))
  un : ∃ us : List Addr, H f.un = some (.lst (us.map V.ref)) ∧ Paired (UndOk K H) us L.undone
  nd : (f.all p).Nodup
theorem LRowOk.mono {H H' : Hp} {r : Addr} {w : Row} (e : Same H H') (h : LRowOk H r w) : LRowOk H' r w := e _ _ h
theorem ThOk.mono {K : PySem.W.Frag} {H H' : Hp} {r : Addr} {w : List Str} (e : Same H H') (h : ThOk K H r w) : ThOk K H' r w := Same.tup e h
theorem UndOk.mono {K : PySem.W.Frag} {H H' : Hp} {r : Addr} {w : Row × Str} (e : Same H H') (h : UndOk K H r w) : UndOk K H' r w := let ⟨r, a, b⟩ := h; ⟨r, Same.tup e a, b.mono e⟩
theorem prMp {α β : Type} {R S : α → β → Prop} {l : List α} {m : List β} (p : PySem.Paired R l m) (h : ∀ a b, R a b → S a b) : PySem.Paired S l m := L2.Paired.mapP p h
theorem LedAt.mono {K : PySem.W.Frag} {C p : Addr} {H H' : Hp} {f : LFt} {L : LSt} (e : Same H H') (h : LedAt K C H p f L) : LedAt K C H' p f L :=
  ⟨e _ _ h.ins, let ⟨ts, a, b⟩ := h.th; ⟨ts, e _ _ a, prMp b fun _ _ x => x.mono e⟩, let ⟨ts, a, b⟩ := h.ro; ⟨ts, e _ _ a, prMp b fun _ _ x => x.mono e⟩, e _ _ h.si, let ⟨ts, a, b⟩ := h.un; ⟨ts, e _ _ a, prMp b fun _ _ x => x.mono e⟩, h.nd⟩
/-- a list or an instance -/
def ListIns (H : Hp) (x : Addr) : Prop := (∃ xs, H x = some (.lst xs)) ∨ ∃ C dx fs, H x = some (.ins C dx fs)
theorem fr_tup {K : PySem.W.Frag} {S : List Addr} {H H' : Hp} {t : Addr} {xs : List V} (e : Fr S H H') (hS : ∀ x ∈ S, ListIns H x) (h : SqT K H t xs) : SqT K H' t xs := by
  have key : ∀ o, H t = some o → (∀ xs, o ≠ .lst xs) → (∀ C dx fs, o ≠ .ins C dx fs) → H' t = some o := fun o ho n1 n2 => e t o ho fun hm => by
    rcases hS t hm with ⟨ys, h1⟩ | ⟨C, dx, fs, h1⟩
    · rw [ho] at h1
      exact n1 _ (Option.some.inj h1)
    · rw [ho] at h1
      exact n2 _ _ _ (Option.some.inj h1)
  rcases h with (h | ⟨o, h⟩) | h
  · exact .inl (.inl (key _ h (fun _ z => nomatch z) fun _ _ _ z => nomatch z))
  · exact .inl (.inr ⟨o, key _ h (fun _ z => nomatch z) fun _ _ _ z => nomatch z⟩)
  · exact .inr h
theorem fr_dk {S : List Addr} {H H' : Hp} {t : Addr} {kvs : List (Key × V)} (e : Fr S H H') (hS : ∀ x ∈ S, ListIns H x) (h : H t = some (.dK kvs)) : H' t = some (.dK kvs) := e t _ h fun hm => by
  rcases hS t hm with ⟨ys, h1⟩ | ⟨C, dx, fs, h1⟩
  · rw [h] at h1
    cases h1
  · rw [h] at h1
    cases h1
theorem fr_th {K : PySem.W.Frag} {S : List Addr} {H H' : Hp} (e : Fr S H H') (hS : ∀ x ∈ S, ListIns H x) {ts : List Addr} {ws : List (List Str)} (h : Paired (ThOk K H) ts ws) : Paired (ThOk K H') ts ws := prMp h fun _ _ x => fr_tup e hS x
theorem fr_ro {S : List Addr} {H H' : Hp} (e : Fr S H H') (hS : ∀ x ∈ S, ListIns H x) {ts : List Addr} {ws : List Row} (h : Paired (LRowOk H) ts ws) : Paired (LRowOk H') ts ws := prMp h fun _ _ x => fr_dk e hS x
theorem fr_un {K : PySem.W.Frag} {S : List Addr} {H H' : Hp} (e : Fr S H H') (hS : ∀ x ∈ S, ListIns H x) {ts : List Addr} {ws : List (Row × Str)} (h : Paired (UndOk K H) ts ws) : Paired (UndOk K H') ts ws :=
  prMp h fun _ _ x => let ⟨r, a, b⟩ := x; ⟨r, fr_tup e hS a, fr_dk e hS b⟩
/-- another ledger's change -/
theorem LedAt.frame {K : PySem.W.Frag} {C p : Addr} {S : List Addr} {H H' : Hp} {f : LFt} {L : LSt} (h : LedAt K C H p f L) (e : Fr S H H') (hS : ∀ x ∈ S, ListIns H x) (hn : ∀ x ∈ f.all p, x ∉ S) : LedAt K C H' p f L := by
  have m : ∀ x ∈ f.all p, ∀ o, H x = some o → H' x = some o := fun x hx o ho => e x o ho (hn x hx)
  refine ⟨m _ (by simp [LFt.all]) _ h.ins, ?_, ?_, m _ (by simp [LFt.all]) _ h.si, ?_, h.nd⟩
  · obtain ⟨ts, a, b⟩ := h.th
    exact ⟨ts, m _ (by simp [LFt.all]) _ a, fr_th e hS b⟩
  · obtain ⟨ts, a, b⟩ := h.ro
    exact ⟨ts, m _ (by simp [LFt.all]) _ a, fr_ro e hS b⟩
  · obtain ⟨ts, a, b⟩ := h.un
    exact ⟨ts, m _ (by simp [LFt.all]) _ a, fr_un e hS b⟩
theorem LedAt.li {K : PySem.W.Frag} {C p : Addr} {H : Hp} {f : LFt} {L : LSt} (h : LedAt K C H p f L) : ∀ x ∈ f.all p, ListIns H x := by
  intro x hx
  simp only [LFt.all, List.mem_cons, List.not_mem_nil, or_false] at hx
  rcases hx with rfl | rfl | rfl | rfl | rfl
  · exact .inr ⟨_, _, _, h.ins⟩
  · exact .inl ⟨_, h.th.choose_spec.1⟩
  · exact .inl ⟨_, h.ro.choose_spec.1⟩
  · exact .inl ⟨_, h.si⟩
  · exact .inl ⟨_, h.un.choose_spec.1⟩
theorem LFt.wr_all {f : LFt} {p x : Addr} (h : x ∈ f.wr p) : x ∈ f.all p := by
  simp only [LFt.wr, LFt.all, List.mem_cons, List.not_mem_nil, or_false] at h ⊢
  rcases h with h | h | h | h <;> simp [h]
theorem lk_eq {x : Str} {v : V} {l : List (Str × V)} : ((x, v) :: l).lookup x = some v := by
  rw [List.lookup_cons, beq_self_eq_true]
theorem lk_ne {x y : Str} {v : V} {l : List (Str × V)} (h : (y == x) = false) : ((x, v) :: l).lookup y = l.lookup y := by
  rw [List.lookup_cons, h]
theorem LFt.lkT {f : LFt} : f.fs.lookup ("_things" : Str) = some (.ref f.th) := lk_eq
theorem LFt.lkR {f : LFt} : f.fs.lookup ("_rows" : Str) = some (.ref f.ro) := (lk_ne (by decide +kernel)).trans lk_eq
theorem LFt.lkS {f : LFt} : f.fs.lookup ("_sides" : Str) = some (.ref f.si) := (lk_ne (by decide +kernel)).trans ((lk_ne (by decide +kernel)).trans lk_eq)
theorem LFt.lkU {f : LFt} : f.fs.lookup ("_undone" : Str) = some (.ref f.un) := (lk_ne (by decide +kernel)).trans ((lk_ne (by decide +kernel)).trans ((lk_ne (by decide +kernel)).trans lk_eq))
theorem LFt.lkN {f : LFt} {m : Str} (h : (["_things", "_rows", "_sides", "_undone"] : List Str).all (fun x => !(m == x)) = true) : f.fs.lookup m = none := by
  simp only [List.all_cons, List.all_nil, Bool.and_true, Bool.and_eq_true, Bool.not_eq_true'] at h
  obtain ⟨h1, h2, h3, h4⟩ := h
  unfold LFt.fs
  rw [lk_ne h1, lk_ne h2, lk_ne h3, lk_ne h4]
  rfl
theorem pf_eq {x : Str} {v y : V} {l : List (Str × V)} : putF x y ((x, v) :: l) = (x, y) :: l := by
  show (if x = x then _ else _) = _
  rw [if_pos rfl]
theorem pf_ne {x z : Str} {v y : V} {l : List (Str × V)} (h : ¬ z = x) : putF x y ((z, v) :: l) = (z, v) :: putF x y l := by
  show (if z = x then _ else _) = _
  rw [if_neg h]
theorem LFt.putU {f : LFt} {a : Addr} : putF "_undone" (.ref a) f.fs = ({ f with un := a } : LFt).fs := by
  unfold LFt.fs
  rw [pf_ne (by decide +kernel), pf_ne (by decide +kernel), pf_ne (by decide +kernel), pf_eq]
theorem LFt.made {a b c d dx : Addr} : putF "_undone" (.ref d) (putF "_sides" (.ref c) (putF "_rows" (.ref b) (putF "_things" (.ref a) []))) = (⟨dx, a, b, c, d⟩ : LFt).fs := by
  show putF "_undone" (.ref d) (putF "_sides" (.ref c) (putF "_rows" (.ref b) [(("_things" : Str), V.ref a)])) = _
  rw [pf_ne (by decide +kernel)]
  show putF "_undone" (.ref d) (putF "_sides" (.ref c) [(("_things" : Str), V.ref a), ("_rows", V.ref b)]) = _
  rw [pf_ne (by decide +kernel), pf_ne (by decide +kernel)]
  show putF "_undone" (.ref d) [(("_things" : Str), V.ref a), ("_rows", V.ref b), ("_sides", V.ref c)] = _
  rw [pf_ne (by decide +kernel), pf_ne (by decide +kernel), pf_ne (by decide +kernel)]
  rfl
theorem rowK_get {w : Row} : ∀ {i : Nat} {q : Str × Str}, (w.map (·.1)).Nodup → w[i]? = some q → valV (rowK w) (Sum.inr q.1) = some (.str q.2) := by
  induction w with
  | nil => intro i q _ h; simp at h
  | cons p w ih =>
    intro i q nd h
    rw [List.map_cons, List.nodup_cons] at nd
    show valV ((Sum.inr p.1, V.str p.2) :: rowK w) (Sum.inr q.1) = _
    match i, h with
    | 0, h =>
      obtain rfl : p = q := Option.some.inj h
      simp [valV]
    | i + 1, h =>
      have hm : q ∈ w := List.mem_of_getElem? h
      have hne : ¬ (Sum.inr p.1 : Key) = Sum.inr q.1 := fun e => nd.1 (by
        rw [Sum.inr.inj e]
        exact List.mem_map_of_mem hm)
      have := ih nd.2 h
      simpa [valV, hne] using this
theorem ref_get {ts : List Addr} {i : Nat} {x : V} (h : (ts.map V.ref)[i]? = some x) : ∃ a, ts[i]? = some a ∧ x = .ref a := by
  rw [List.getElem?_map] at h
  cases e : ts[i]? with
  | none => rw [e] at h; cases h
  | some a =>
    rw [e] at h
    exact ⟨a, rfl, (Option.some.inj h).symm⟩
theorem str_get {ts : List Str} {i : Nat} {x : V} (h : (ts.map V.str)[i]? = some x) : ∃ a, ts[i]? = some a ∧ x = .str a := by
  rw [List.getElem?_map] at h
  cases e : ts[i]? with
  | none => rw [e] at h; cases h
  | some a =>
    rw [e] at h
    exact ⟨a, rfl, (Option.some.inj h).symm⟩
theorem LedAt.ne {K : PySem.W.Frag} {C p : Addr} {H : Hp} {f : LFt} {L : LSt} (h : LedAt K C H p f L) : p ≠ f.th ∧ p ≠ f.ro ∧ p ≠ f.si ∧ p ≠ f.un ∧ f.th ≠ f.ro ∧ f.th ≠ f.si ∧ f.th ≠ f.un ∧ f.ro ≠ f.si ∧ f.ro ≠ f.un ∧ f.si ≠ f.un := by
  have := h.nd
  simp only [LFt.all, List.nodup_cons, List.mem_cons, List.not_mem_nil, or_false, not_or, List.nodup_nil, not_false_eq_true, and_true] at this
  obtain ⟨⟨a, b, c, d⟩, ⟨e, g, i⟩, ⟨j, k⟩, l⟩ := this
  exact ⟨a, b, c, d, e, g, i, j, k, l⟩
/-! data of names and of lots -/
theorem eqv_str {a b : Str} : PyData.eqv (.str a) (.str b) = decide (a = b) := by
  rw [PyData.eqv]
  try rfl
theorem eqvAll_cons {a b : PyData} {as bs : List PyData} : PyData.eqvAll (a :: as) (b :: bs) = (PyData.eqv a b && PyData.eqvAll as bs) := by
  rw [PyData.eqvAll]
theorem eqvAll_map {α : Type} [DecidableEq α] {g : α → PyData} (h : ∀ a b, PyData.eqv (g a) (g b) = decide (a = b)) : ∀ as bs : List α, PyData.eqvAll (as.map g) (bs.map g) = decide (as = bs)
  | [], [] => by simp [PyData.eqvAll]
  | [], _ :: _ => by simp [PyData.eqvAll]
  | _ :: _, [] => by simp [PyData.eqvAll]
  | a :: as, b :: bs => by
    rw [List.map_cons, List.map_cons, eqvAll_cons, h, eqvAll_map h as bs]
    simp
def tupD (th : List Str) : PyData := .tuple (th.map .str)
def thD (ths : List (List Str)) : PyData := .list (ths.map tupD)
def siD (ss : List Str) : PyData := .list (ss.map .str)
theorem eqv_tup (a b : List Str) : PyData.eqv (tupD a) (tupD b) = decide (a = b) := by
  unfold tupD
  rw [PyData.eqv, eqvAll_map fun _ _ => eqv_str]
theorem eqv_th (a b : List (List Str)) : PyData.eqv (thD a) (thD b) = decide (a = b) := by
  unfold thD
  rw [PyData.eqv, eqvAll_map eqv_tup]
theorem eqv_si (a b : List Str) : PyData.eqv (siD a) (siD b) = decide (a = b) := by
  unfold siD
  rw [PyData.eqv, eqvAll_map fun _ _ => eqv_str]
theorem canAll_map {α : Type} {g : α → PyData} : ∀ {as : List α}, (∀ a ∈ as, PyData.canLay0 (g a) = true) → PyData.canLayAll0 (as.map g) = true
  | [], _ => by simp [PyData.canLayAll0]
  | a :: as, h => by
    rw [List.map_cons, PyData.canLayAll0, h a List.mem_cons_self, canAll_map fun b hb => h b (List.mem_cons_of_mem _ hb)]
    rfl
theorem depthAll_map {α : Type} {g : α → PyData} {n : Nat} : ∀ {as : List α}, (∀ a ∈ as, PyData.depth (g a) ≤ n) → PyData.depthAll (as.map g) ≤ n
  | [], _ => by simp [PyData.depthAll]
  | a :: as, h => by
    rw [List.map_cons, PyData.depthAll]
    exact Nat.max_le.mpr ⟨h a List.mem_cons_self, depthAll_map fun b hb => h b (List.mem_cons_of_mem _ hb)⟩
def okS (z : Str) : Prop := PyData.canLay0 (.str z) = true
theorem shaped_si {ss : List Str} (h : ∀ z ∈ ss, okS z) : SeqAt.shaped (siD ss) = true := by
  unfold SeqAt.shaped siD
  rw [PyData.canLay0, canAll_map h, Bool.true_and]
  refine decide_eq_true ?_
  rw [PyData.depth]
  have := depthAll_map (g := PyData.str) (as := ss) (n := 1) fun a _ => by rw [PyData.depth]; try omega
  omega
theorem shaped_th {ths : List (List Str)} (h : ∀ th ∈ ths, ∀ z ∈ th, okS z) : SeqAt.shaped (thD ths) = true := by
  unfold SeqAt.shaped thD
  rw [PyData.canLay0, canAll_map (fun th ht => by unfold tupD; rw [PyData.canLay0, canAll_map (h th ht)]), Bool.true_and]
  refine decide_eq_true ?_
  rw [PyData.depth]
  have := depthAll_map (g := tupD) (as := ths) (n := 2) fun a _ => by
    unfold tupD
    rw [PyData.depth]
    have := depthAll_map (g := PyData.str) (as := a) (n := 1) fun a _ => by rw [PyData.depth]; try omega
    omega
  omega
theorem dpa_str {K : PySem.W.Frag} {H : Hp} : ∀ ns : List Str, DpAll K H (ns.map V.str) (ns.map .str)
  | [] => .nil
  | n :: ns => .cons (.str n) (dpa_str ns)
theorem dp_si {K : PySem.W.Frag} {H : Hp} {a : Addr} {ss : List Str} (h : SqL K H a (ss.map V.str)) : Dp K H (.ref a) (siD ss) := .lst h (dpa_str ss)
theorem dpa_th {K : PySem.W.Frag} {H : Hp} {ts : List Addr} {ths : List (List Str)} (p : PySem.Paired (ThOk K H) ts ths) : DpAll K H (ts.map V.ref) (ths.map tupD) := by
  induction p with
  | nil => exact .nil
  | cons r _ ih => exact .cons (.tup r (dpa_str _)) ih
theorem dp_th {K : PySem.W.Frag} {H : Hp} {a : Addr} {ts : List Addr} {ths : List (List Str)} (h : SqL K H a (ts.map V.ref)) (p : PySem.Paired (ThOk K H) ts ths) : Dp K H (.ref a) (thD ths) := .lst h (dpa_th p)
theorem okS_name {z : Str} (h : nameB z = true) : okS z := by
  unfold okS
  show z.cps.all (· < 0x110000) = true
  rw [← Array.all_toList, List.all_eq_true]
  intro c hc
  have h2 := List.all_eq_true.mp (Bool.and_eq_true_iff.mp h).2 c hc
  have hm := of_decide_eq_true h2
  have hall : alpha.all (fun c => decide (c < 1114112)) = true := by decide
  exact decide_eq_true (of_decide_eq_true (List.all_eq_true.mp hall c hm))
def lotB (z : Str) : Bool := decide (z = "learn") || decide (z = "judge")
theorem okS_lot {z : Str} (h : lotB z = true) : okS z := by
  rcases Bool.or_eq_true_iff.mp h with h | h
  · rw [of_decide_eq_true h]
    unfold okS
    decide +kernel
  · rw [of_decide_eq_true h]
    unfold okS
    decide +kernel
/-- equal rows, by == of lists of dicts -/
theorem rows_eq {K : PySem.W.Frag} {H : Hp} {a b : Addr} {rs qs : List Addr} {rows : List Row} (ha : SqL K H a (rs.map V.ref)) (hb : SqL K H b (qs.map V.ref)) (hr : PySem.Paired (LRowOk H) rs rows) (hq : PySem.Paired (LRowOk H) qs rows)
    (nd : ∀ w ∈ rows, (w.map (·.1)).Nodup) : EqR K H (EqV K H 3) (.ref a) (.ref b) := by
  refine .inl ⟨a, b, rs.map V.ref, qs.map V.ref, rfl, rfl, ha, hb, ?_⟩
  clear ha hb
  induction hr generalizing qs with
  | nil =>
    cases hq
    exact .nil
  | @cons r w rs rows h _ ih =>
    cases hq with
    | @cons q _ qs _ h2 k2 =>
      refine .cons (.inr (.inr (.inr ⟨r, q, rowK w, rowK w, rfl, rfl, h, h2, rfl, fun p hp => ?_⟩))) (ih k2 fun w hw => nd w (List.mem_cons_of_mem _ hw))
      obtain ⟨x, hx, rfl⟩ := List.mem_map.mp hp
      obtain ⟨i, hi⟩ := List.mem_iff_getElem?.mp hx
      exact ⟨_, rowK_get (nd w List.mem_cons_self) hi, .inl ⟨rfl, rfl⟩⟩
theorem box_fr {S : List Addr} {H H' : Hp} {p l : Addr} (B : BoxAt H p l) (e : Fr S H H') (hp : p ∉ S) (hl : l ∉ S) : BoxAt H' p l := by
  obtain ⟨ns, i, w, m, c, h1, h2, r⟩ := B
  have n : l ≠ p := by
    rintro rfl
    rw [hide_at] at h2
    cases h2
  rw [hide_ne n] at h2
  exact ⟨ns, i, w, m, c, e _ _ h1 hp, by rw [hide_ne n]; exact e _ _ h2 hl, r⟩
theorem box_tr {H : Hp} {p l : Addr} (B : BoxAt H p l) : (∃ o, H p = some o) ∧ ∃ o, H l = some o := by
  obtain ⟨ns, i, w, m, c, h1, h2, r⟩ := B
  exact ⟨⟨_, h1⟩, ⟨_, hide_le _ _ h2⟩⟩
/-- tracked -/
def Tr (H : Hp) (W : List Addr) : Prop := ∀ x ∈ W, ∃ o, H x = some o
def Out (W S : List Addr) : Prop := ∀ x ∈ W, x ∉ S
theorem Tr.cons {H : Hp} {W : List Addr} {x : Addr} {o : HO} (h : H x = some o) (t : Tr H W) : Tr H (x :: W) := fun y hy => by
  rcases List.mem_cons.mp hy with rfl | hy
  · exact ⟨o, h⟩
  · exact t y hy
theorem Tr.nil {H : Hp} : Tr H [] := fun _ h => nomatch h
theorem Tr.app {H : Hp} {W V : List Addr} (h : Tr H W) (k : Tr H V) : Tr H (W ++ V) := fun y hy => (List.mem_append.mp hy).elim (h y) (k y)
theorem Tr.mono {H H' : Hp} {W : List Addr} (h : Tr H W) (e : Same H H') : Tr H' W := fun y hy => let ⟨o, q⟩ := h y hy; ⟨o, e _ _ q⟩
theorem Tr.fr {H H' : Hp} {W S : List Addr} (h : Tr H W) (e : Fr S H H') (n : Out W S) : Tr H' W := fun y hy => let ⟨o, q⟩ := h y hy; ⟨o, e _ _ q (n y hy)⟩
theorem LedAt.tr {K : PySem.W.Frag} {C p : Addr} {H : Hp} {f : LFt} {L : LSt} (h : LedAt K C H p f L) : Tr H (f.all p) := fun x hx => by
  rcases h.li x hx with ⟨xs, e⟩ | ⟨C, dx, fs, e⟩
  · exact ⟨_, e⟩
  · exact ⟨_, e⟩
theorem Out.fresh {H : Hp} {W S : List Addr} (t : Tr H W) (d : ∀ x ∈ S, H x = none) : Out W S := fun x hx hs => by
  obtain ⟨o, e⟩ := t x hx
  rw [d x hs] at e
  cases e
theorem Out.wr {W : List Addr} {f : LFt} {p : Addr} (h : Out W (f.all p)) : Out W (f.wr p) := fun x hx hs => h x hx (LFt.wr_all hs)
theorem Out.un {H : Hp} {W : List Addr} {f : LFt} {p au : Addr} (t : Tr H W) (h : H au = none) (o : Out W (f.wr p)) : Out W (({ f with un := au } : LFt).wr p) := fun x hx hs => by
  simp only [LFt.wr, List.mem_cons, List.not_mem_nil, or_false] at hs
  have hn := o x hx
  simp only [LFt.wr, List.mem_cons, List.not_mem_nil, or_false, not_or] at hn
  rcases hs with k | k | k | k
  · exact hn.1 k
  · exact hn.2.1 k
  · exact hn.2.2.1 k
  · subst k
    obtain ⟨_, e⟩ := t _ hx
    rw [h] at e
    cases e
theorem Out.cons {W S : List Addr} {x : Addr} (h : x ∉ S) (o : Out W S) : Out (x :: W) S := fun y hy => by
  rcases List.mem_cons.mp hy with rfl | hy
  · exact h
  · exact o y hy
theorem Out.sub {W V S : List Addr} (o : Out W S) (h : ∀ x ∈ V, x ∈ W) : Out V S := fun y hy => o y (h y hy)
theorem LedAt.fr {K : PySem.W.Frag} {C p q : Addr} {H H' : Hp} {f g : LFt} {L M : LSt} (h : LedAt K C H p f L) (o : LedAt K C H q g M) (e : Fr (g.wr q) H H') (d : Out (f.all p) (g.wr q)) : LedAt K C H' p f L :=
  h.frame e (fun x hx => o.li x (LFt.wr_all hx)) d
theorem Out.unA {H : Hp} {W : List Addr} {f : LFt} {p au : Addr} (t : Tr H W) (h : H au = none) (o : Out W (f.all p)) : Out W (({ f with un := au } : LFt).all p) := fun x hx hs => by
  simp only [LFt.all, List.mem_cons, List.not_mem_nil, or_false] at hs
  have hn := o x hx
  simp only [LFt.all, List.mem_cons, List.not_mem_nil, or_false, not_or] at hn
  rcases hs with k | k | k | k | k
  · exact hn.1 k
  · exact hn.2.1 k
  · exact hn.2.2.1 k
  · exact hn.2.2.2.1 k
  · subst k
    obtain ⟨_, e⟩ := t _ hx
    rw [h] at e
    cases e
theorem Out.symm {W S : List Addr} (h : Out W S) : Out S W := fun x hx hw => h x hw hx
theorem Out.app {W V S : List Addr} (h : Out W S) (k : Out V S) : Out (W ++ V) S := fun x hx => (List.mem_append.mp hx).elim (h x) (k x)
theorem Out.wrL {S : List Addr} {f : LFt} {p : Addr} (h : Out (f.all p) S) : Out (f.wr p) S := fun x hx => h x (LFt.wr_all hx)
/-- one of a ledger's lists is replaced: another ledger stays, so do the box and what else is named -/
structure Kept (S : List Addr) (H H' : Hp) : Prop where
  fr : Fr S H H'
  li : ∀ x ∈ S, ListIns H x
theorem Kept.get {S : List Addr} {H H' : Hp} {x : Addr} {o : HO} (k : Kept S H H') (h : H x = some o) (n : x ∉ S) : H' x = some o := k.fr x o h n
theorem Kept.led {K : PySem.W.Frag} {C p : Addr} {S : List Addr} {H H' : Hp} {f : LFt} {L : LSt} (k : Kept S H H') (h : LedAt K C H p f L) (n : Out (f.all p) S) : LedAt K C H' p f L := h.frame k.fr k.li n
theorem kept_led {K : PySem.W.Frag} {C p : Addr} {H H' : Hp} {f : LFt} {L : LSt} (h : LedAt K C H p f L) (e : Fr (f.wr p) H H') : Kept (f.wr p) H H' := ⟨e, fun x hx => h.li x (LFt.wr_all hx)⟩
theorem kept_list {H : Hp} {x : Addr} {xs : List V} {o : HO} (h : H x = some (.lst xs)) : Kept [x] H (upd H x o) := ⟨(Fr.of (Same.refl H)).put (List.mem_singleton.mpr rfl), fun y hy => by
  rw [List.mem_singleton.mp hy]
  exact .inl ⟨_, h⟩⟩
end Bl

namespace Bl
open PySem L2
def top (i : Nat) : Stmt := PySem.Challenge.pw_bothlots_k74_ledgers_that_are_equal.main.body.getD i (.Pass ⟨0, 0, 0, 0⟩)
abbrev s_is_name : Stmt := top 17
abbrev s_is_thing : Stmt := top 22
abbrev s_is_row : Stmt := top 23
abbrev s_box : Stmt := top 26
abbrev s_pull : Stmt := top 27
abbrev s_of : Stmt := top 28
abbrev s_names : Stmt := top 29
abbrev s_same : Stmt := top 30
abbrev s_ledger : Stmt := top 31
abbrev s_law : Stmt := top 32
abbrev s_Ledger___init__ : Stmt := inClass (top 21) 2
abbrev s_Ledger_offer : Stmt := inClass (top 21) 3
abbrev s_Ledger_add : Stmt := inClass (top 21) 4
abbrev s_Ledger__marks_of : Stmt := inClass (top 21) 6
abbrev s_Ledger_undo : Stmt := inClass (top 21) 16
abbrev s_Ledger_redo : Stmt := inClass (top 21) 17
abbrev s_Ledger___eq__ : Stmt := inClass (top 21) 22
structure Top (K : PySem.W.Frag) (mg : Str → Option Value) : Type where
  C_Ledger : Addr
  mc_Ledger : mg "Ledger" = some (.ref C_Ledger)
  cl_Ledger : Cls K C_Ledger
  mk_Ledger : PySem.W.makesIn K C_Ledger = true
  kp_Ledger : PySem.W.keepIn K (.ref C_Ledger) = true
  n_Ledger__things : NoAttr K C_Ledger "_things"
  n_Ledger__rows : NoAttr K C_Ledger "_rows"
  n_Ledger__sides : NoAttr K C_Ledger "_sides"
  n_Ledger__undone : NoAttr K C_Ledger "_undone"
  is_Ledger : C8.InsC K C_Ledger
  ob_Ledger : ownB K C_Ledger = true
  cr_Ledger : ClX.CRead K C_Ledger (.type "type")
  tk_Ledger_MOST : Tok
  cv_Ledger_MOST : ClX.CVal K C_Ledger (.type "type") "MOST" (.int 200) (.int 200 tk_Ledger_MOST)
  tk_Ledger_MOST_THINGS : Tok
  cv_Ledger_MOST_THINGS : ClX.CVal K C_Ledger (.type "type") "MOST_THINGS" (.int 4) (.int 4 tk_Ledger_MOST_THINGS)
  a_is_name : Addr
  d_is_name : FuncData
  F_is_name : Fun K "is_name" "is_name" s_is_name a_is_name d_is_name
  m_is_name : mg "is_name" = some (.ref a_is_name)
  b_is_name : Binds K d_is_name ["value"] []
  a_is_thing : Addr
  d_is_thing : FuncData
  F_is_thing : Fun K "_is_thing" "_is_thing" s_is_thing a_is_thing d_is_thing
  m_is_thing : mg "_is_thing" = some (.ref a_is_thing)
  b_is_thing : Binds K d_is_thing ["value"] []
  a_is_row : Addr
  d_is_row : FuncData
  F_is_row : Fun K "_is_row" "_is_row" s_is_row a_is_row d_is_row
  m_is_row : mg "_is_row" = some (.ref a_is_row)
  b_is_row : Binds K d_is_row ["value"] []
  a_box : Addr
  d_box : FuncData
  F_box : Fun K "_law_box" "_law_box" s_box a_box d_box
  m_box : mg "_law_box" = some (.ref a_box)
  b_box : Binds K d_box ["_law_script"] []
  a_pull : Addr
  d_pull : FuncData
  F_pull : Fun K "_law_pull" "_law_pull" s_pull a_pull d_pull
  m_pull : mg "_law_pull" = some (.ref a_pull)
  b_pull : Binds K d_pull ["_law_box_here", "_law_many"] []
  a_of : Addr
  d_of : FuncData
  F_of : Fun K "_law_of" "_law_of" s_of a_of d_of
  m_of : mg "_law_of" = some (.ref a_of)
  b_of : Binds K d_of ["_law_box_here", "_law_some"] []
  a_names : Addr
  d_names : FuncData
  F_names : Fun K "_law_names" "_law_names" s_names a_names d_names
  m_names : mg "_law_names" = some (.ref a_names)
  b_names : Binds K d_names ["_law_box_here", "_law_many"] []
  a_same : Addr
  d_same : FuncData
  F_same : Fun K "_law_same" "_law_same" s_same a_same d_same
  m_same : mg "_law_same" = some (.ref a_same)
  b_same : Binds K d_same ["_law_found", "_law_due"] []
  a_ledger : Addr
  d_ledger : FuncData
  F_ledger : Fun K "_law_ledger" "_law_ledger" s_ledger a_ledger d_ledger
  m_ledger : mg "_law_ledger" = some (.ref a_ledger)
  b_ledger : Binds K d_ledger ["_law_things"] []
  a_law : Addr
  d_law : FuncData
  F_law : Fun K "law" "law" s_law a_law d_law
  m_law : mg "law" = some (.ref a_law)
  b_law : Binds K d_law ["_law_script"] []
  a_Ledger___init__ : Addr
  d_Ledger___init__ : FuncData
  F_Ledger___init__ : Fun K "__init__" "Ledger.__init__" s_Ledger___init__ a_Ledger___init__ d_Ledger___init__
  M_Ledger___init__ : Meth K C_Ledger "__init__" a_Ledger___init__
  a_Ledger_offer : Addr
  d_Ledger_offer : FuncData
  F_Ledger_offer : Fun K "offer" "Ledger.offer" s_Ledger_offer a_Ledger_offer d_Ledger_offer
  M_Ledger_offer : Meth K C_Ledger "offer" a_Ledger_offer
  b_Ledger_offer : Binds K d_Ledger_offer ["self", "row"] []
  a_Ledger_add : Addr
  d_Ledger_add : FuncData
  F_Ledger_add : Fun K "add" "Ledger.add" s_Ledger_add a_Ledger_add d_Ledger_add
  M_Ledger_add : Meth K C_Ledger "add" a_Ledger_add
  a_Ledger__marks_of : Addr
  d_Ledger__marks_of : FuncData
  F_Ledger__marks_of : Fun K "_marks_of" "Ledger._marks_of" s_Ledger__marks_of a_Ledger__marks_of d_Ledger__marks_of
  M_Ledger__marks_of : Meth K C_Ledger "_marks_of" a_Ledger__marks_of
  b_Ledger__marks_of : Binds K d_Ledger__marks_of ["self", "row"] []
  a_Ledger_undo : Addr
  d_Ledger_undo : FuncData
  F_Ledger_undo : Fun K "undo" "Ledger.undo" s_Ledger_undo a_Ledger_undo d_Ledger_undo
  M_Ledger_undo : Meth K C_Ledger "undo" a_Ledger_undo
  b_Ledger_undo : Binds K d_Ledger_undo ["self"] []
  a_Ledger_redo : Addr
  d_Ledger_redo : FuncData
  F_Ledger_redo : Fun K "redo" "Ledger.redo" s_Ledger_redo a_Ledger_redo d_Ledger_redo
  M_Ledger_redo : Meth K C_Ledger "redo" a_Ledger_redo
  b_Ledger_redo : Binds K d_Ledger_redo ["self"] []
  a_Ledger___eq__ : Addr
  d_Ledger___eq__ : FuncData
  F_Ledger___eq__ : Fun K "__eq__" "Ledger.__eq__" s_Ledger___eq__ a_Ledger___eq__ d_Ledger___eq__
  M_Ledger___eq__ : Meth K C_Ledger "__eq__" a_Ledger___eq__
  b_Ledger___eq__ : Binds K d_Ledger___eq__ ["self", "other"] []
  z_abs : mg "abs" = none
  z_all : mg "all" = none
  z_bool : mg "bool" = none
  z_dict : mg "dict" = none
  z_enumerate : mg "enumerate" = none
  z_int : mg "int" = none
  z_isinstance : mg "isinstance" = none
  z_len : mg "len" = none
  z_list : mg "list" = none
  z_range : mg "range" = none
  z_set : mg "set" = none
  z_str : mg "str" = none
  z_tuple : mg "tuple" = none
  z_zip : mg "zip" = none
  t_LETTERS : Tok
  c_LETTERS : mg "LETTERS" = some (.str "abcdefghijklmnopqrstuvwxyz" t_LETTERS)
  r_LETTERS : RelV (.str "abcdefghijklmnopqrstuvwxyz") (.str "abcdefghijklmnopqrstuvwxyz" t_LETTERS)
  t_LONGEST_NAME : Tok
  c_LONGEST_NAME : mg "LONGEST_NAME" = some (.int 6 t_LONGEST_NAME)
  r_LONGEST_NAME : RelV (.int 6) (.int 6 t_LONGEST_NAME)
  p_LOTS : Addr
  c_LOTS : mg "LOTS" = some (.ref p_LOTS)
  r_LOTS : RelV (.ref p_LOTS) (.ref p_LOTS)
  q_LOTS : ∀ H : Hp, SqT K H p_LOTS [.str "learn", .str "judge"]
  t_MOST_OF_THING : Tok
  c_MOST_OF_THING : mg "MOST_OF_THING" = some (.int 3 t_MOST_OF_THING)
  r_MOST_OF_THING : RelV (.int 3) (.int 3 t_MOST_OF_THING)
theorem mk_Ledger {K : PySem.W.Frag} {mg : Str → Option Value} (T : Top K mg) : Mk K T.C_Ledger T.a_Ledger___init__ := ⟨T.mk_Ledger, T.M_Ledger___init__.at_, T.M_Ledger___init__.fn, T.kp_Ledger⟩
end Bl

namespace Bl
open PySem L2
abbrev n_box : List Str := ["_law_script", "_law_mixed", "_law_cell"]
theorem sc_box : FnScope n_box ["_law_script"] (defScope s_box) := ⟨rfl, rfl, rfl, by decide +kernel, rfl, by decide +kernel, by decide +kernel⟩
abbrev n_pull : List Str := ["_law_box_here", "_law_many", "_law_cell", "_law_digit", "_law_twice"]
theorem sc_pull : FnScope n_pull ["_law_box_here", "_law_many"] (defScope s_pull) := ⟨rfl, rfl, rfl, by decide +kernel, rfl, by decide +kernel, by decide +kernel⟩
abbrev n_of : List Str := ["_law_box_here", "_law_some"]
theorem sc_of : FnScope n_of ["_law_box_here", "_law_some"] (defScope s_of) := ⟨rfl, rfl, rfl, by decide +kernel, rfl, by decide +kernel, by decide +kernel⟩
section
variable {P : Program} {w : World} {K : PySem.W.Frag} {mg : Str → Option Value} {base : Heap}
theorem ok_pull (T : Top K mg) : FnOk P w K mg base CX0 1 T.a_pull T.d_pull ["_law_box_here", "_law_many"] (spPull K) := by
  refine T.F_pull.ok sc_pull (fun vs H Q E h => ?_) (fun cdv A outer s H vs Q E hr h => ?_)
  · obtain ⟨p, l, n, rfl, _⟩ := h
    rfl
  obtain ⟨p, l, n, rfl, ⟨ns, i, w', m, c, hp, hl, hi, hm0, hm1⟩, hn0, hn1, k⟩ := h
  -- what a box at the end gives
  have fin : ∀ (H' : Hp) (i' w2 m' c' d : Int), H' p = some (.lst (boxL l i' w2 m' c')) → But p H H' → 0 ≤ i' → 0 ≤ m' → m' < 2147483629 → 0 ≤ d → d < n → Q (.int d) H' := fun H' i' w2 m' c' d h1 h2 h3 h4 h5 h6 h7 =>
    k d H' h6 h7 ⟨ns, i', w2, m', c', h1, h2 _ _ hl, h3, h4, h5⟩ h2
  refine ⟨_, (pss_cons (ps_asg (pe_op op_add (pe_ix ix_list (pv 0) pe_int (fun _ _ => rfl)) pe_int) (pg_sub (pv 0) pe_int set_list))
    (C8.pss_cut (ps_if (PW.pt (pw_and (pt_cmpR op_eq (pe_ix ix_list (pv 0) pe_int (fun _ _ => rfl)) pe_int (nomark _)) (pw_and1 (pt_cmpR op_lt (pe_ix ix_list (pv 0) pe_int (fun _ _ => rfl)) (pe_callB call_len_seq (by rfl) T.z_len (by decide +kernel) (pa_cons (pe_ix ix_list (pv 0) pe_int (fun _ _ => rfl)) pa_nil)) (nomark _))))) (pss_cons (ps_set (i := 2) sc_pull.nd rfl (Or.inl rfl) (pe_ix ix_list (pe_ix ix_list (pv 0) pe_int (fun _ _ => rfl)) (pe_ix ix_list (pv 0) pe_int (fun _ _ => rfl)) (fun _ _ => rfl)))
    (pss_cons (ps_asg (pe_op op_add (pe_ix ix_list (pv 0) pe_int (fun _ _ => rfl)) pe_int) (pg_sub (pv 0) pe_int set_list))
    (pss_one (ps_if (pt_cmpR op_ge (pe_callB call_abs (by rfl) T.z_abs (by decide +kernel) (pa_cons (pv 2) pa_nil)) (pe_op op_pow pe_int pe_int) (nomark _)) (pss_one (ps_asg (pe_callB call_abs (by rfl) T.z_abs (by decide +kernel) (pa_cons (pv 2) pa_nil)) (pg_sub (pv 0) pe_int set_list))) (pss_one (ps_asg (pe_op op_mod (pe_callTy call_int1 (by rfl) T.z_int (by decide +kernel) (pa_cons (pe_op op_add (pe_op op_add (pe_op op_mul (pe_ix ix_list (pv 0) pe_int (fun _ _ => rfl)) pe_int) (pe_op op_mul (pe_op op_mod (pe_callTy call_int1 (by rfl) T.z_int (by decide +kernel) (pa_cons (pv 2) pa_nil)) pe_int) pe_int)) pe_int) pa_nil)) pe_int) (pg_sub (pv 0) pe_int set_list))))))) pss_nil)
    (pss_cons (ps_if (pt_cmpR op_gt (pe_ix ix_list (pv 0) pe_int (fun _ _ => rfl)) pe_int (nomark _)) (pss_cons (ps_set (i := 3) sc_pull.nd rfl (Or.inl rfl) (pe_op op_mod (pe_callTy call_int1 (by rfl) T.z_int (by decide +kernel) (pa_cons (pe_ix ix_list (pv 0) pe_int (fun _ _ => rfl)) pa_nil)) (pv 1)))
    (pss_cons (ps_asg (pe_op op_fdiv (pe_ix ix_list (pv 0) pe_int (fun _ _ => rfl)) (pv 1)) (pg_sub (pv 0) pe_int set_list))
    (pss_one (ps_ret (pv 3))))) pss_nil)
    (pss_cons (ps_set (i := 4) sc_pull.nd rfl (Or.inl rfl) (pe_op op_mod (pe_callTy call_int1 (by rfl) T.z_int (by decide +kernel) (pa_cons (pe_op op_add (pe_op op_mul (pe_ix ix_list (pv 0) pe_int (fun _ _ => rfl)) (pe_ix ix_list (pv 0) pe_int (fun _ _ => rfl))) (pe_op op_mul (pe_ix ix_list (pv 0) pe_int (fun _ _ => rfl)) pe_int)) pa_nil)) pe_int))
    (pss_cons (ps_asg (pe_op op_mod (pe_callTy call_int1 (by rfl) T.z_int (by decide +kernel) (pa_cons (pe_op op_add (pe_op op_add (pe_op op_mul (pv 4) pe_int) (pe_op op_mul (pe_ix ix_list (pv 0) pe_int (fun _ _ => rfl)) pe_int)) pe_int) pa_nil)) pe_int) (pg_sub (pv 0) pe_int set_list))
    (pss_one (ps_ret (pe_op op_mod (pe_callTy call_int1 (by rfl) T.z_int (by decide +kernel) (pa_cons (pe_op op_fdiv (pe_ix ix_list (pv 0) pe_int (fun _ _ => rfl)) pe_int) pa_nil)) (pv 1))))))))), ?_⟩
  -- box[4] = box[4] + 1
  refine ⟨_, rfl, p, _, _, _, rfl, rfl, SqL.of hp, rfl, _, _, rfl, rfl, _, rfl, p, _, _, _, rfl, rfl, hp, rfl, ?_⟩
  have e1 : But p H (upd H p (.lst (boxL l i w' m (c + 1)))) := But.put (Same.refl _)
  have hp1 : (upd H p (.lst (boxL l i w' m (c + 1)))) p = some (.lst (boxL l i w' m (c + 1))) := upd_same
  show tSeq _ _ _ _ (upd H p (.lst (boxL l i w' m (c + 1))))
  generalize (upd H p (.lst (boxL l i w' m (c + 1)))) = H1 at e1 hp1 ⊢
  have hl1 : SqL K H1 l (ns.map V.int) := SqL.of (hide_le _ _ (e1 _ _ hl))
  clear hp
  refine ⟨fun σ H2 => ∃ (o2 : Option V) (i2 w2 m2 : Int), σ = [some (.ref p), some (.int n), o2, none, none] ∧ H2 p = some (.lst (boxL l i2 w2 m2 (c + 1))) ∧ But p H H2 ∧ 0 ≤ i2 ∧ 0 ≤ m2 ∧ m2 < 2147483629, ?_, ?_⟩
  -- if box[2] == 0 and box[1] < len(box[0])
  · refine ⟨_, rfl, p, _, _, _, rfl, rfl, SqL.of hp1, rfl, rfl, _, rfl, ?_⟩
    refine ite2 (fun _ => ?_) (fun _ => iteF ⟨none, i, w', m, rfl, hp1, e1, hi, hm0, hm1⟩)
    refine ⟨_, rfl, p, _, _, _, rfl, rfl, SqL.of hp1, rfl, _, rfl, p, _, _, _, rfl, rfl, SqL.of hp1, rfl, l, _, rfl, .inl hl1, _, _, rfl, rfl, _, rfl, ?_⟩
    refine ite2 (fun hlt => ?_) (fun _ => ⟨none, i, w', m, rfl, hp1, e1, hi, hm0, hm1⟩)
    have hlt' : i < ns.length := by
      have := of_decide_eq_true hlt
      simpa using this
    obtain ⟨v, hv⟩ := atI_int hi hlt'
    -- cell = box[0][box[1]]; box[1] = box[1] + 1
    refine ⟨_, rfl, p, _, _, _, rfl, rfl, SqL.of hp1, rfl, _, rfl, p, _, _, _, rfl, rfl, SqL.of hp1, rfl, l, _, _, _, rfl, rfl, hl1, hv, ?_⟩
    refine ⟨_, rfl, p, _, _, _, rfl, rfl, SqL.of hp1, rfl, _, _, rfl, rfl, _, rfl, p, _, _, _, rfl, rfl, hp1, rfl, ?_⟩
    -- if abs(cell) >= 10 ** 18
    refine ⟨_, rfl, v, rfl, _, _, rfl, rfl, ⟨by decide, by decide, by decide⟩, _, _, rfl, rfl, _, rfl, ?_⟩
    refine ite2 (fun _ => ?_) (fun _ => ?_)
    · refine ⟨_, rfl, v, rfl, _, rfl, p, _, _, _, rfl, rfl, upd_same, rfl, ?_⟩
      exact ⟨_, i + 1, _, m, rfl, upd_same, (But.put (But.put e1)), by omega, hm0, hm1⟩
    · refine ⟨_, rfl, p, _, _, _, rfl, rfl, SqL.of upd_same, rfl, _, _, rfl, rfl, .inl (by constructor <;> omega), _, rfl, .inl ⟨v, rfl, ?_⟩⟩
      have b1 := mod_lt' (a := v) (b := 1000003) (by decide)
      refine ⟨_, _, rfl, rfl, (by show (0 : Int) < 1000003; decide), _, _, rfl, rfl, .inl (by constructor <;> omega), _, _, rfl, rfl, _, _, rfl, rfl, .inl ⟨_, rfl, ?_⟩⟩
      refine ⟨_, _, rfl, rfl, (by show (0 : Int) < 2147483629; decide), _, rfl, p, _, _, _, rfl, rfl, upd_same, rfl, ?_⟩
      exact ⟨_, i + 1, w', _, rfl, upd_same, (But.put (But.put e1)), by omega, Int.emod_nonneg _ (by decide), Int.emod_lt_of_pos _ (by decide)⟩
  -- the rest
  · rintro σ H2 ⟨o2, i2, w2, m2, rfl, hp2, e2, hi2, hm20, hm21⟩
    refine ⟨_, rfl, p, _, _, _, rfl, rfl, SqL.of hp2, rfl, _, _, rfl, rfl, _, rfl, ?_⟩
    refine ite2 (fun _ => ?_) (fun _ => ?_)
    · refine ⟨_, rfl, p, _, _, _, rfl, rfl, SqL.of hp2, rfl, .inl ⟨_, rfl, ?_⟩⟩
      refine ⟨_, rfl, _, _, rfl, rfl, hn0, ?_⟩
      refine ⟨_, rfl, p, _, _, _, rfl, rfl, SqL.of hp2, rfl, _, rfl, _, _, rfl, rfl, ⟨hn0, hn1⟩, _, rfl, p, _, _, _, rfl, rfl, hp2, rfl, ?_⟩
      refine ⟨_, rfl, ?_⟩
      exact fin _ i2 _ m2 _ _ upd_same (But.put e2) hi2 hm20 hm21 (Int.emod_nonneg _ (by omega)) (Int.emod_lt_of_pos _ hn0)
    · refine ⟨_, rfl, p, _, _, _, rfl, rfl, SqL.of hp2, rfl, _, rfl, p, _, _, _, rfl, rfl, SqL.of hp2, rfl, _, _, rfl, rfl, .inl (by constructor <;> omega), _, rfl, p, _, _, _, rfl, rfl, SqL.of hp2, rfl, _, _, rfl, rfl, .inr (by constructor <;> omega), _, _, rfl, rfl, .inl ⟨_, rfl, ?_⟩⟩
      have b1 := mod_lt' (a := m2 * m2 + (c + 1) * 8317) (b := 2147483549) (by decide)
      refine ⟨_, _, rfl, rfl, (by show (0 : Int) < 2147483549; decide), ?_⟩
      refine ⟨_, rfl, _, _, rfl, rfl, .inl (by constructor <;> omega), _, rfl, p, _, _, _, rfl, rfl, SqL.of hp2, rfl, _, _, rfl, rfl, .inl (by constructor <;> omega), _, _, rfl, rfl, _, _, rfl, rfl, .inl ⟨_, rfl, ?_⟩⟩
      refine ⟨_, _, rfl, rfl, (by show (0 : Int) < 2147483629; decide), _, rfl, p, _, _, _, rfl, rfl, hp2, rfl, ?_⟩
      refine ⟨_, rfl, p, _, _, _, rfl, rfl, SqL.of upd_same, rfl, _, _, rfl, rfl, (by constructor <;> decide), .inl ⟨_, rfl, ?_⟩⟩
      refine ⟨_, rfl, _, _, rfl, rfl, hn0, ?_⟩
      exact fin _ i2 w2 _ _ _ upd_same (But.put e2) hi2 (Int.emod_nonneg _ (by decide)) (Int.emod_lt_of_pos _ (by decide)) (Int.emod_nonneg _ (by omega)) (Int.emod_lt_of_pos _ hn0)
theorem ok_box (T : Top K mg) : FnOk P w K mg base CX0 1 T.a_box T.d_box ["_law_script"] (spBox K) := by
  refine T.F_box.ok sc_box (fun vs H Q E h => ?_) (fun cdv A outer s H vs Q E hr h => ?_)
  · obtain ⟨a, ns, rfl, _⟩ := h
    rfl
  obtain ⟨a, ns, rfl, hS, h63, k⟩ := h
  refine ⟨_, (pss_cons (ps_set (i := 1) sc_box.nd rfl (Or.inl rfl) pe_int)
    (pss_cons (ps_for PassesOwn.never rfl (pi_list (pe_slice sl_list (pv 0) po_none (po_some pe_int))) (pg_name (i := 2) sc_box.nd rfl (Or.inl rfl))
    (pss_one (ps_set (i := 1) sc_box.nd rfl (Or.inl rfl) (pe_op op_mod (pe_callTy call_int1 (by rfl) T.z_int (by decide +kernel) (pa_cons (pe_op op_add (pe_op op_add (pe_op op_mul (pv 1) pe_int) (pe_op op_mul (pe_op op_mod (pe_callTy call_int1 (by rfl) T.z_int (by decide +kernel) (pa_cons (pv 2) pa_nil)) pe_int) pe_int)) pe_int) pa_nil)) pe_int))))
    (pss_one (ps_ret (pe_lst (pa_cons (pe_callTy call_list_of (by rfl) T.z_list (by decide +kernel) (pa_cons (pe_slice sl_list (pv 0) po_none (po_some pe_int)) pa_nil)) (pa_cons pe_int (pa_cons pe_int (pa_cons (pv 1) (pa_cons pe_int pa_nil)))))))))), ?_⟩
  refine ⟨_, rfl, _, rfl, a, _, rfl, hS, fun p hp => ?_⟩
  rw [cutV_63 h63]
  have g1 : Same H (upd H p (.lst (ns.map V.int))) := same_new hp _
  refine ⟨p, rfl, ⟨_, SqL.of upd_same⟩, for_list (K := K) (a := p) (xs := ns.map V.int) (fun i σ H2 => ∃ (m : Int) (o : Option V), σ = [some (.ref a), some (.int m), o] ∧ 0 ≤ m ∧ m < 2147483629 ∧ Same (upd H p (.lst (ns.map V.int))) H2)
    ⟨10010, none, rfl, by decide, by decide, Same.refl _⟩ (fun i σ H2 _ ⟨_, _, _, _, _, s2⟩ => s2.seq (SqL.of upd_same)) ?_ ?_⟩
  · rintro i x σ H2 hx ⟨m, o, rfl, h0, h1, s2⟩
    obtain ⟨v, rfl⟩ : ∃ v : Int, x = .int v := by
      rw [List.getElem?_map] at hx
      cases e : ns[i]? with
      | none => rw [e] at hx; cases hx
      | some z => rw [e] at hx; exact ⟨z, (Option.some.inj hx).symm⟩
    have b1 := mod_lt' (a := v) (b := 1000003) (by decide)
    refine ⟨_, rfl, _, _, rfl, rfl, .inl (by constructor <;> omega), _, rfl, .inl ⟨v, rfl, ?_⟩⟩
    refine ⟨_, _, rfl, rfl, (by show (0 : Int) < 1000003; decide), _, _, rfl, rfl, .inl (by constructor <;> omega), _, _, rfl, rfl, _, _, rfl, rfl, .inl ⟨_, rfl, ?_⟩⟩
    refine ⟨_, _, rfl, rfl, (by show (0 : Int) < 2147483587; decide), ?_⟩
    have b2 := mod_lt' (a := m * 50021 + v % 1000003 * 769 + 17) (b := 2147483587) (by decide)
    exact ⟨_, _, rfl, b2.1, by omega, s2⟩
  · rintro σ H2 ⟨m, o, rfl, h0, h1, s2⟩
    have s3 := g1.trans s2
    refine ⟨_, rfl, _, rfl, a, _, rfl, s3.seq hS, fun q hq => ?_⟩
    rw [cutV_63 h63]
    have g2 := same_new hq (.lst (ns.map V.int))
    refine ⟨q, _, rfl, .inl (SqL.of upd_same), fun l hl => ?_⟩
    have g3 := same_new hl (.lst (ns.map V.int))
    refine ⟨_, rfl, (by show 5 ≤ sizeLine; decide), fun b hb => ?_⟩
    have g4 := same_new hb (.lst (boxL l 0 0 m 0))
    have nb : l ≠ b := ne_of_none upd_same hb
    refine k b l _ (s3.free (g2.free (g3.free hb))) ⟨ns, 0, 0, m, 0, upd_same, ?_, by decide, h0, h1⟩ (s3.trans (g2.trans (g3.trans g4)))
    rw [hide_ne nb, upd_ne nb, upd_same]
theorem ok_of (T : Top K mg) : FnOk P w K mg base CX0 2 T.a_of T.d_of ["_law_box_here", "_law_some"] (spOf K) := by
  refine T.F_of.ok sc_of (fun vs H Q E h => ?_) (fun cdv A outer s H vs Q E hr h => ?_)
  · obtain ⟨p, l, v, rfl, _⟩ := h
    rfl
  obtain ⟨p, l, v, rfl, B, h⟩ := h
  refine ⟨_, (pss_one (ps_ret (pe_ix ix_seq (pv 1) (pe_call (ok_pull T) (hr.mono (by decide)) rfl T.m_pull T.F_pull.kp T.b_pull .nil pass0 (pa_cons (pv 0) (pa_cons (pe_callB call_len (by rfl) T.z_len (by decide +kernel) (pa_cons (pv 1) pa_nil)) pa_nil))) (fun _ _ => rfl)))), ?_⟩
  rcases h with ⟨a, xs, rfl, hS, h0, h1, k⟩ | ⟨z, rfl, h0, h1, k⟩
  · refine ⟨_, rfl, _, rfl, _, rfl, _, xs.length, rfl, ?_, p, l, xs.length, rfl, B, by omega, by omega, fun d H' hd0 hd1 B' e => ?_⟩
    · rcases hS with hS | hS
      · exact .inl ⟨xs, hide_le.seq hS, rfl⟩
      · exact .inr ⟨xs, Same.tup hide_le hS, rfl⟩
    · obtain ⟨n, x, hx, hat⟩ := atI_some hd0 hd1
      rcases hS with hS | hS
      · exact .inl ⟨a, xs, d, x, rfl, rfl, hide_le.seq (e.seq hS), hat, k n x H' hx B' e⟩
      · exact .inr (.inl ⟨a, xs, d, x, rfl, rfl, Same.tup hide_le (Same.tup e hS), hat, k n x H' hx B' e⟩)
  · refine ⟨_, rfl, _, rfl, _, rfl, _, z.length, rfl, ⟨small (by omega), rfl⟩, p, l, z.length, rfl, B, by omega, by omega, fun d H' hd0 hd1 B' e => ?_⟩
    obtain ⟨n, rfl⟩ := Int.eq_ofNat_of_zero_le hd0
    have hn : n < z.cps.toList.length := by
      rw [Array.length_toList]
      show n < z.length
      omega
    exact .inr (.inr ⟨z, n, z.cps.toList[n], rfl, rfl, small (by omega), atI_nat (List.getElem?_eq_getElem hn), k _ H' (List.getElem_mem hn) B' e⟩)
end
end Bl

namespace Bl
open PySem L2
abbrev n_same : List Str := ["_law_found", "_law_due", "_law_a", "_law_b"]
theorem sc_same : FnScope n_same ["_law_found", "_law_due"] (defScope s_same) := ⟨rfl, rfl, rfl, by decide +kernel, rfl, by decide +kernel, by decide +kernel⟩
section
variable {P : Program} {w : World} {K : PySem.W.Frag} {mg : Str → Option Value} {base : Heap}
theorem walk_zipT {a b : Addr} {xs ys : List V} {n : Nat} (hn : n = min xs.length ys.length) : Walk (RZ.ItzT K a b) n (fun H => SqT K H a xs ∧ SqT K H b ys) (YPair (fun i => xs[i]?) (fun i => ys[i]?)) := by
  subst hn
  refine ⟨fun i _ hi q => ?_, fun _ q => ⟨xs, ys, q.1, q.2, by omega⟩, fun i H v H' _ q y => ?_⟩
  · have h1 : i < xs.length := by omega
    have h2 : i < ys.length := by omega
    exact ⟨xs, ys, xs[i], ys[i], q.1, q.2, by simp [h1], by simp [h2]⟩
  · obtain ⟨T, x, z, h1, h2, h3, h4, h5⟩ := y
    exact ⟨T, x, z, h1, h2, h3, h4 xs q.1, h5 ys q.2⟩
theorem kit_lt (d : PyData) : PySem.W.kitAny K (.type (tyN d)) [.type "list", .type "tuple"] = some (match d with | .list _ => true | .tuple _ => true | _ => false) := by
  cases d with
  | list ds => exact kitAny_cons (b := true) (kit_ty (by dsimp only [tyN]; decide +kernel)) (fun h => nomatch h) (fun _ => rfl)
  | tuple ds => exact kitAny_cons (b := false) (kit_ty (by dsimp only [tyN]; decide +kernel)) (fun _ => kitAny_cons (b := true) (kit_ty (by dsimp only [tyN]; decide +kernel)) (fun h => nomatch h) (fun _ => rfl)) (fun h => nomatch h)
  | _ => exact kitAny_cons (b := false) (kit_ty (by dsimp only [tyN]; decide +kernel)) (fun _ => kitAny_cons (b := false) (kit_ty (by dsimp only [tyN]; decide +kernel)) (fun _ => kitAny_nil) (fun h => nomatch h)) (fun h => nomatch h)
theorem ok_same0 (T : Top K mg) : FnOk P w K mg base CX0 0 T.a_same T.d_same ["_law_found", "_law_due"] (spSame K 0) := by
  have no : ∀ vs H Q E, ¬ spSame K 0 vs H Q E := fun vs H Q E h => by
    obtain ⟨x, y, d, _, _, _, h1, _⟩ := h
    cases d <;> exact h1
  exact ⟨fun vs H Q E h => absurd h (no vs H Q E), fun A outer s H args us vs Q E _ _ _ _ h => absurd h (no vs H Q E)⟩
theorem ok_same1 (T : Top K mg) {n : Nat} (G : FnOk P w K mg base CX0 n T.a_same T.d_same ["_law_found", "_law_due"] (spSame K n)) : FnOk P w K mg base CX0 (n + 1) T.a_same T.d_same ["_law_found", "_law_due"] (spSame K (n + 1)) := by
  refine T.F_same.ok sc_same (fun vs H Q E h => ?_) (fun cdv A outer s H vs Q E hr h => ?_)
  · obtain ⟨x, y, d, rfl, _⟩ := h
    rfl
  obtain ⟨x, y, d, rfl, hx, hy, hf, k⟩ := h
  refine ⟨_, (pss_cons (ps_if (PW.pt (pw_or (pt_cmpR op_isN (pv 1) pe_non (nomark _)) (pw_or1 (pt_cmpR op_isN (pv 0) pe_non (nomark _))))) (pss_one (ps_ret (pe_and (pe_cmpR op_isN (pv 1) pe_non (nomark _)) (pe_one (pe_cmpR op_isN (pv 0) pe_non (nomark _)))))) pss_nil)
    (pss_cons (ps_if (pt_val (pe_callB call_isiT (by rfl) T.z_isinstance (by decide +kernel) (pa_cons (pv 1) (pa_cons (pe_tup (pa_cons (pe_bltn (v := .ty "list") (by rfl) T.z_list (by decide +kernel) rfl) (pa_cons (pe_bltn (v := .ty "tuple") (by rfl) T.z_tuple (by decide +kernel) rfl) pa_nil))) pa_nil)))) (pss_cons (ps_if (PW.pt (pw_or (pt_cmpR op_ne (pe_callB call_isi (by rfl) T.z_isinstance (by decide +kernel) (pa_cons (pv 0) (pa_cons (pe_bltn (v := .ty "list") (by rfl) T.z_list (by decide +kernel) rfl) pa_nil))) (pe_callB call_isi (by rfl) T.z_isinstance (by decide +kernel) (pa_cons (pv 1) (pa_cons (pe_bltn (v := .ty "list") (by rfl) T.z_list (by decide +kernel) rfl) pa_nil))) (nomark _)) (pw_or1 (pt_cmpR op_ne (pe_callB call_isi (by rfl) T.z_isinstance (by decide +kernel) (pa_cons (pv 0) (pa_cons (pe_bltn (v := .ty "tuple") (by rfl) T.z_tuple (by decide +kernel) rfl) pa_nil))) (pe_callB call_isi (by rfl) T.z_isinstance (by decide +kernel) (pa_cons (pv 1) (pa_cons (pe_bltn (v := .ty "tuple") (by rfl) T.z_tuple (by decide +kernel) rfl) pa_nil))) (nomark _))))) (pss_one (ps_ret pe_bl)) pss_nil)
    (pss_one (ps_ret (pe_and (pe_cmpR op_eq (pe_callB call_len (by rfl) T.z_len (by decide +kernel) (pa_cons (pv 0) pa_nil)) (pe_callB call_len (by rfl) T.z_len (by decide +kernel) (pa_cons (pv 1) pa_nil)) (nomark _)) (pe_one (pe_callB (cr_all rfl) (by rfl) T.z_all (by decide +kernel) (pa_cons (pe_lc (own := [("_law_a", 2), ("_law_b", 3)]) (g := gTup K 2 (gCons (gName 2) (gCons (gName 3) gNil))) (tt := tYes) rfl sc_same.nd (RZ.pi_zipA (by rfl) T.z_zip (pa_cons (pv 0) (pa_cons (pv 1) pa_nil))) (blkOk_by (own := [("_law_a", 2), ("_law_b", 3)]) (N := n_same) (sc := defScope s_same) (by decide +kernel)) (fun _ _ _ _ _ => by exact (pg_tup rfl (pgs_cons (pg_name (i := 2) sc_same.nd rfl (Or.inl rfl)) (pgs_cons (pg_name (i := 3) sc_same.nd rfl (Or.inl rfl)) pgs_nil)))) (fun _ _ _ _ _ => pts_nil) (fun _ _ _ _ _ => (pe_call G hr rfl T.m_same T.F_same.kp T.b_same .nil pass0 (pa_cons (pv 2) (pa_cons (pv 3) pa_nil))))) pa_nil))))))) pss_nil)
    (pss_cons (ps_if (PW.pt (pw_or (pt_val (pe_callB call_isi (by rfl) T.z_isinstance (by decide +kernel) (pa_cons (pv 1) (pa_cons (pe_bltn (v := .ty "bool") (by rfl) T.z_bool (by decide +kernel) rfl) pa_nil)))) (pw_or1 (pt_val (pe_callB call_isi (by rfl) T.z_isinstance (by decide +kernel) (pa_cons (pv 0) (pa_cons (pe_bltn (v := .ty "bool") (by rfl) T.z_bool (by decide +kernel) rfl) pa_nil))))))) (pss_one (ps_ret (pe_and (pe_callB call_isi (by rfl) T.z_isinstance (by decide +kernel) (pa_cons (pv 1) (pa_cons (pe_bltn (v := .ty "bool") (by rfl) T.z_bool (by decide +kernel) rfl) pa_nil))) (pe_and (pe_callB call_isi (by rfl) T.z_isinstance (by decide +kernel) (pa_cons (pv 0) (pa_cons (pe_bltn (v := .ty "bool") (by rfl) T.z_bool (by decide +kernel) rfl) pa_nil))) (pe_one (pe_cmpR op_eq (pv 0) (pv 1) (nomark _))))))) pss_nil)
    (pss_cons (ps_if (pt_val (pe_callB call_isi (by rfl) T.z_isinstance (by decide +kernel) (pa_cons (pv 1) (pa_cons (pe_bltn (v := .ty "int") (by rfl) T.z_int (by decide +kernel) rfl) pa_nil)))) (pss_one (ps_ret (pe_and (pe_callB call_isi (by rfl) T.z_isinstance (by decide +kernel) (pa_cons (pv 0) (pa_cons (pe_bltn (v := .ty "int") (by rfl) T.z_int (by decide +kernel) rfl) pa_nil))) (pe_one (pe_cmpR op_eq (pv 0) (pv 1) (nomark _)))))) pss_nil)
    (pss_one (ps_ret (pe_and (pe_callB call_isi (by rfl) T.z_isinstance (by decide +kernel) (pa_cons (pv 0) (pa_cons (pe_bltn (v := .ty "str") (by rfl) T.z_str (by decide +kernel) rfl) pa_nil))) (pe_and (pe_callB call_isi (by rfl) T.z_isinstance (by decide +kernel) (pa_cons (pv 1) (pa_cons (pe_bltn (v := .ty "str") (by rfl) T.z_str (by decide +kernel) rfl) pa_nil))) (pe_one (pe_cmpR op_eq (pv 0) (pv 1) (nomark _))))))))))), ?_⟩
  cases d with
  | none =>
    obtain rfl : x = .non := by cases hx; rfl
    obtain rfl : y = .non := by cases hy; rfl
    refine ⟨_, rfl, rfl, _, rfl, ?_⟩
    refine iteT ?_
    refine ⟨_, rfl, rfl, _, rfl, ?_⟩
    refine iteT ?_
    refine ⟨_, rfl, rfl, ?_⟩
    exact k H (Same.refl _)
  | bool b =>
    obtain rfl : x = .bl b := by cases hx; rfl
    obtain rfl : y = .bl b := by cases hy; rfl
    refine ⟨_, rfl, rfl, _, rfl, ?_⟩
    refine iteF ?_
    refine ⟨_, rfl, rfl, _, rfl, ?_⟩
    refine iteF ?_
    refine ⟨_, rfl, (by show 2 ≤ sizeLine; decide), fun tp htp => ?_⟩
    have g := same_new htp (.tup [.ty "list", .ty "tuple"])
    have hx' := Dp.mono g _ _ hx
    refine ⟨_, tp, _, _, _, _, rfl, upd_same, .cons (.ty "list") (.cons (.ty "tuple") .nil), Dp.ty hx', kit_lt _, _, rfl, ?_⟩
    refine iteF ?_
    refine ⟨_, rfl, _, .ty "bool", _, _, _, rfl, .ty "bool", Dp.ty hx', kit_d some_bool, _, rfl, ?_⟩
    rw [isBool_eq]
    refine iteT ?_
    refine ⟨_, rfl, _, .ty "bool", _, _, _, rfl, .ty "bool", Dp.ty hx', kit_d some_bool, _, rfl, ?_⟩
    rw [isBool_eq]
    refine iteT ?_
    refine ⟨_, rfl, _, .ty "bool", _, _, _, rfl, .ty "bool", Dp.ty hx', kit_d some_bool, _, rfl, ?_⟩
    rw [isBool_eq]
    refine iteT ?_
    refine ⟨_, rfl, _, rfl, rfl, ?_⟩
    rw [decide_eq_true rfl]
    exact k _ g
  | int i =>
    obtain rfl : x = .int i := by cases hx; rfl
    obtain rfl : y = .int i := by cases hy; rfl
    refine ⟨_, rfl, rfl, _, rfl, ?_⟩
    refine iteF ?_
    refine ⟨_, rfl, rfl, _, rfl, ?_⟩
    refine iteF ?_
    refine ⟨_, rfl, (by show 2 ≤ sizeLine; decide), fun tp htp => ?_⟩
    have g := same_new htp (.tup [.ty "list", .ty "tuple"])
    have hx' := Dp.mono g _ _ hx
    refine ⟨_, tp, _, _, _, _, rfl, upd_same, .cons (.ty "list") (.cons (.ty "tuple") .nil), Dp.ty hx', kit_lt _, _, rfl, ?_⟩
    refine iteF ?_
    refine ⟨_, rfl, _, .ty "bool", _, _, _, rfl, .ty "bool", Dp.ty hx', kit_d some_bool, _, rfl, ?_⟩
    rw [isBool_eq]
    refine iteF ?_
    refine ⟨_, rfl, _, .ty "bool", _, _, _, rfl, .ty "bool", Dp.ty hx', kit_d some_bool, _, rfl, ?_⟩
    rw [isBool_eq]
    refine iteF ?_
    refine ⟨_, rfl, _, .ty "int", _, _, _, rfl, .ty "int", Dp.ty hx', kit_d some_int, _, rfl, ?_⟩
    rw [isInt_eq]
    refine iteT ?_
    refine ⟨_, rfl, _, .ty "int", _, _, _, rfl, .ty "int", Dp.ty hx', kit_d some_int, _, rfl, ?_⟩
    rw [isInt_eq]
    refine iteT ?_
    refine ⟨_, rfl, _, rfl, rfl, ?_⟩
    rw [decide_eq_true rfl]
    exact k _ g
  | str z =>
    obtain rfl : x = .str z := by cases hx; rfl
    obtain rfl : y = .str z := by cases hy; rfl
    refine ⟨_, rfl, rfl, _, rfl, ?_⟩
    refine iteF ?_
    refine ⟨_, rfl, rfl, _, rfl, ?_⟩
    refine iteF ?_
    refine ⟨_, rfl, (by show 2 ≤ sizeLine; decide), fun tp htp => ?_⟩
    have g := same_new htp (.tup [.ty "list", .ty "tuple"])
    have hx' := Dp.mono g _ _ hx
    refine ⟨_, tp, _, _, _, _, rfl, upd_same, .cons (.ty "list") (.cons (.ty "tuple") .nil), Dp.ty hx', kit_lt _, _, rfl, ?_⟩
    refine iteF ?_
    refine ⟨_, rfl, _, .ty "bool", _, _, _, rfl, .ty "bool", Dp.ty hx', kit_d some_bool, _, rfl, ?_⟩
    rw [isBool_eq]
    refine iteF ?_
    refine ⟨_, rfl, _, .ty "bool", _, _, _, rfl, .ty "bool", Dp.ty hx', kit_d some_bool, _, rfl, ?_⟩
    rw [isBool_eq]
    refine iteF ?_
    refine ⟨_, rfl, _, .ty "int", _, _, _, rfl, .ty "int", Dp.ty hx', kit_d some_int, _, rfl, ?_⟩
    rw [isInt_eq]
    refine iteF ?_
    refine ⟨_, rfl, _, .ty "str", _, _, _, rfl, .ty "str", Dp.ty hx', kit_d some_str, _, rfl, ?_⟩
    rw [isStr_eq]
    refine iteT ?_
    refine ⟨_, rfl, _, .ty "str", _, _, _, rfl, .ty "str", Dp.ty hx', kit_d some_str, _, rfl, ?_⟩
    rw [isStr_eq]
    refine iteT ?_
    refine ⟨_, rfl, _, rfl, rfl, ?_⟩
    rw [decide_eq_true rfl]
    exact k _ g
  | list ds =>
    cases hx with
    | lst hsx hax =>
    cases hy with
    | lst hsy hay =>
    rename_i ax xs ay ys
    have hx : Dp K H (.ref ax) (.list ds) := .lst hsx hax
    have hy : Dp K H (.ref ay) (.list ds) := .lst hsy hay
    refine ⟨_, rfl, rfl, _, rfl, ?_⟩
    refine iteF ?_
    refine ⟨_, rfl, rfl, _, rfl, ?_⟩
    refine iteF ?_
    refine ⟨_, rfl, (by show 2 ≤ sizeLine; decide), fun tp htp => ?_⟩
    have g := same_new htp (.tup [.ty "list", .ty "tuple"])
    have hT1 : (upd H tp (.tup [.ty "list", .ty "tuple"])) tp = some (.tup [.ty "list", .ty "tuple"]) := upd_same
    generalize upd H tp (.tup [.ty "list", .ty "tuple"]) = H1 at g hT1 ⊢
    have hx' := Dp.mono g _ _ hx
    have hy' := Dp.mono g _ _ hy
    refine ⟨_, tp, _, _, _, _, rfl, hT1, .cons (.ty "list") (.cons (.ty "tuple") .nil), Dp.ty hy', kit_lt _, _, rfl, ?_⟩
    refine iteT ?_
    refine ⟨_, rfl, _, .ty "list", _, _, _, rfl, .ty "list", Dp.ty hx', kit_d some_list, _, rfl, _, .ty "list", _, _, _, rfl, .ty "list", Dp.ty hy', kit_d some_list, rfl, _, rfl, ?_⟩
    refine iteNS rfl ?_
    refine ⟨_, rfl, _, .ty "tuple", _, _, _, rfl, .ty "tuple", Dp.ty hx', kit_d some_tuple, _, rfl, _, .ty "tuple", _, _, _, rfl, .ty "tuple", Dp.ty hy', kit_d some_tuple, rfl, _, rfl, ?_⟩
    refine iteNS rfl ?_
    have lx := DpAll.len hax
    have ly := DpAll.len hay
    refine ⟨_, rfl, _, ds.length, rfl, .inl ⟨xs, Same.seq g hsx, lx.symm⟩, _, rfl, _, ds.length, rfl, .inl ⟨ys, Same.seq g hsy, ly.symm⟩, rfl, _, rfl, ?_⟩
    rw [decide_eq_true rfl]
    refine iteT ?_
    refine ⟨_, rfl, _, rfl, ax, ay, xs, ys, rfl, .inl ⟨Same.seq g hsx, Same.seq g hsy, fun D hD => ?_⟩⟩
    refine lc_it (walk_zip (xs := xs) (ys := ys) (n := ds.length) (by omega)) (fun i H2 => Same H1 H2 ∧ H2 D = some (.lst ((List.replicate i true).map V.bl))) ⟨same_new hD _, upd_same⟩ (fun i H2 _ q => ⟨Same.seq (g.trans q.1) hsx, Same.seq (g.trans q.1) hsy⟩) ?_ ?_
    · rintro i x H2 H3 hi ⟨g2, hl⟩ ⟨Tt, u, v, rfl, hT, rfl, hu, hv⟩
      obtain ⟨d1, hd1, du⟩ := DpAll.get hax hu
      obtain ⟨d2, hd2, dv⟩ := DpAll.get hay hv
      rw [hd1] at hd2
      cases hd2
      have g3 := g.trans (g2.trans (same_new hT (.tup [u, v])))
      have hfd : Fits n d1 := hf.2 d1 (List.mem_of_getElem? hd1)
      refine ⟨Tt, _, rfl, SqT.of upd_same, rfl, _, _, rfl, _, _, rfl, rfl, rfl, ?_⟩
      refine ⟨_, rfl, _, rfl, u, v, d1, rfl, Dp.mono g3 _ _ du, Dp.mono g3 _ _ dv, hfd, fun H' g4 => ?_⟩
      have hD' : H' D = some (.lst ((List.replicate i true).map V.bl)) := g4 _ _ (by rw [upd_ne (ne_of_none hl hT)]; exact hl)
      have hlen : ((List.replicate i true).map V.bl).length < sizeLine := by
        rw [List.length_map, List.length_replicate]
        exact small' (Nat.lt_trans hi hf.1)
      refine ⟨_, hD', hlen, fun b o q => ?_, ?_⟩
      · rw [upd_ne (ne_of_none q hD)]
        exact g4 _ _ (same_new hT _ _ _ (g2 b o q))
      · rw [upd_same, List.replicate_succ', List.map_append]
        rfl
    · rintro H2 ⟨g2, hl⟩
      refine ⟨D, _, rfl, SqL.of hl, ?_⟩
      have e : (List.replicate ds.length true).all id = true := by simp
      rw [e]
      exact k H2 (g.trans g2)
  | tuple ds =>
    cases hx with
    | tup hsx hax =>
    cases hy with
    | tup hsy hay =>
    rename_i ax xs ay ys
    have hx : Dp K H (.ref ax) (.tuple ds) := .tup hsx hax
    have hy : Dp K H (.ref ay) (.tuple ds) := .tup hsy hay
    refine ⟨_, rfl, rfl, _, rfl, ?_⟩
    refine iteF ?_
    refine ⟨_, rfl, rfl, _, rfl, ?_⟩
    refine iteF ?_
    refine ⟨_, rfl, (by show 2 ≤ sizeLine; decide), fun tp htp => ?_⟩
    have g := same_new htp (.tup [.ty "list", .ty "tuple"])
    have hT1 : (upd H tp (.tup [.ty "list", .ty "tuple"])) tp = some (.tup [.ty "list", .ty "tuple"]) := upd_same
    generalize upd H tp (.tup [.ty "list", .ty "tuple"]) = H1 at g hT1 ⊢
    have hx' := Dp.mono g _ _ hx
    have hy' := Dp.mono g _ _ hy
    refine ⟨_, tp, _, _, _, _, rfl, hT1, .cons (.ty "list") (.cons (.ty "tuple") .nil), Dp.ty hy', kit_lt _, _, rfl, ?_⟩
    refine iteT ?_
    refine ⟨_, rfl, _, .ty "list", _, _, _, rfl, .ty "list", Dp.ty hx', kit_d some_list, _, rfl, _, .ty "list", _, _, _, rfl, .ty "list", Dp.ty hy', kit_d some_list, rfl, _, rfl, ?_⟩
    refine iteNS rfl ?_
    refine ⟨_, rfl, _, .ty "tuple", _, _, _, rfl, .ty "tuple", Dp.ty hx', kit_d some_tuple, _, rfl, _, .ty "tuple", _, _, _, rfl, .ty "tuple", Dp.ty hy', kit_d some_tuple, rfl, _, rfl, ?_⟩
    refine iteNS rfl ?_
    have lx := DpAll.len hax
    have ly := DpAll.len hay
    refine ⟨_, rfl, _, ds.length, rfl, .inr ⟨xs, Same.tup g hsx, lx.symm⟩, _, rfl, _, ds.length, rfl, .inr ⟨ys, Same.tup g hsy, ly.symm⟩, rfl, _, rfl, ?_⟩
    rw [decide_eq_true rfl]
    refine iteT ?_
    refine ⟨_, rfl, _, rfl, ax, ay, xs, ys, rfl, .inr ⟨Same.tup g hsx, Same.tup g hsy, fun D hD => ?_⟩⟩
    refine lc_it (walk_zipT (xs := xs) (ys := ys) (n := ds.length) (by omega)) (fun i H2 => Same H1 H2 ∧ H2 D = some (.lst ((List.replicate i true).map V.bl))) ⟨same_new hD _, upd_same⟩ (fun i H2 _ q => ⟨Same.tup (g.trans q.1) hsx, Same.tup (g.trans q.1) hsy⟩) ?_ ?_
    · rintro i x H2 H3 hi ⟨g2, hl⟩ ⟨Tt, u, v, rfl, hT, rfl, hu, hv⟩
      obtain ⟨d1, hd1, du⟩ := DpAll.get hax hu
      obtain ⟨d2, hd2, dv⟩ := DpAll.get hay hv
      rw [hd1] at hd2
      cases hd2
      have g3 := g.trans (g2.trans (same_new hT (.tup [u, v])))
      have hfd : Fits n d1 := hf.2 d1 (List.mem_of_getElem? hd1)
      refine ⟨Tt, _, rfl, SqT.of upd_same, rfl, _, _, rfl, _, _, rfl, rfl, rfl, ?_⟩
      refine ⟨_, rfl, _, rfl, u, v, d1, rfl, Dp.mono g3 _ _ du, Dp.mono g3 _ _ dv, hfd, fun H' g4 => ?_⟩
      have hD' : H' D = some (.lst ((List.replicate i true).map V.bl)) := g4 _ _ (by rw [upd_ne (ne_of_none hl hT)]; exact hl)
      have hlen : ((List.replicate i true).map V.bl).length < sizeLine := by
        rw [List.length_map, List.length_replicate]
        exact small' (Nat.lt_trans hi hf.1)
      refine ⟨_, hD', hlen, fun b o q => ?_, ?_⟩
      · rw [upd_ne (ne_of_none q hD)]
        exact g4 _ _ (same_new hT _ _ _ (g2 b o q))
      · rw [upd_same, List.replicate_succ', List.map_append]
        rfl
    · rintro H2 ⟨g2, hl⟩
      refine ⟨D, _, rfl, SqL.of hl, ?_⟩
      have e : (List.replicate ds.length true).all id = true := by simp
      rw [e]
      exact k H2 (g.trans g2)
  | dict _ => cases hx
theorem ok_same (T : Top K mg) : ∀ n : Nat, FnOk P w K mg base CX0 n T.a_same T.d_same ["_law_found", "_law_due"] (spSame K n)
  | 0 => ok_same0 T
  | n + 1 => ok_same1 T (ok_same T n)
end
end Bl

namespace Bl
open PySem L2
abbrev n_is_name : List Str := ["value", "letter"]
theorem sc_is_name : FnScope n_is_name ["value"] (defScope s_is_name) := ⟨rfl, rfl, rfl, by decide +kernel, rfl, by decide +kernel, by decide +kernel⟩
section
variable {P : Program} {w : World} {K : PySem.W.Frag} {mg : Str → Option Value} {base : Heap}
theorem ok_is_name (T : Top K mg) : FnOk P w K mg base CX0 1 T.a_is_name T.d_is_name ["value"] (spIsName K) := by
  refine T.F_is_name.ok sc_is_name (fun vs H Q E h => ?_) (fun cdv A outer s H vs Q E hr h => ?_)
  · obtain ⟨v, d, rfl, _⟩ := h
    rfl
  obtain ⟨v, d, rfl, hd, hz, k⟩ := h
  refine ⟨_, (pss_cons (ps_if (PW.pt (pw_or (pt_not (pt_val (pe_callB call_isi (by rfl) T.z_isinstance (by decide +kernel) (pa_cons (pv 0) (pa_cons (pe_bltn (v := .ty "str") (by rfl) T.z_str (by decide +kernel) rfl) pa_nil))))) (pw_or1 (pt_not (pt_chain op_le op_le pe_int (pe_callB call_len_str (by rfl) T.z_len (by decide +kernel) (pa_cons (pv 0) pa_nil)) (pe_glob rfl T.c_LONGEST_NAME T.r_LONGEST_NAME)))))) (pss_one (ps_ret pe_bl)) pss_nil)
    (pss_one (ps_ret (pe_callB (cr_all rfl) (by rfl) T.z_all (by decide +kernel) (pa_cons (pe_lc (own := [("letter", 1)]) (g := gName 1) (tt := tYes) rfl sc_is_name.nd (pi_str (pv 0)) (blkOk_by (own := [("letter", 1)]) (N := n_is_name) (sc := defScope s_is_name) (by decide +kernel)) (fun _ _ _ _ _ => (pg_name (i := 1) sc_is_name.nd rfl (Or.inl rfl))) (fun _ _ _ _ _ => pts_nil) (fun _ _ _ _ _ => (pe_cmpR op_in_sign (pv 1) (pe_glob rfl T.c_LETTERS T.r_LETTERS) rfl))) pa_nil))))), ?_⟩
  refine ⟨_, rfl, v, .ty "str", _, _, _, rfl, .ty "str", Dp.ty hd, kit_d some_str, _, rfl, ?_⟩
  rw [isStr_eq]
  cases d with
  | str z =>
    obtain rfl : v = .str z := by cases hd; rfl
    have hz1 := hz z rfl
    refine iteF ?_
    refine ⟨_, rfl, z, rfl, small (by omega), _, _, rfl, rfl, _, rfl, ?_⟩
    refine ite2 (fun h1 => ?_) (fun h1 => ?_)
    · refine ⟨_, _, rfl, rfl, _, rfl, ?_⟩
      have h1' : 1 ≤ z.length := by have := of_decide_eq_true h1; omega
      by_cases h2 : z.length ≤ 6
      · rw [decide_eq_true (show (z.length : Int) ≤ 6 by omega)]
        refine iteF ?_
        refine ⟨_, rfl, z, rfl, fun D hD => ?_⟩
        refine lc_it (walk_str (z := z)) (fun i H2 => Same H H2 ∧ H2 D = some (.lst (((z.cps.toList.take i).map (fun c => decide (c ∈ alpha))).map V.bl))) ⟨same_new hD _, upd_same⟩ (fun _ _ _ _ => True.intro) ?_ ?_
        · rintro i x H2 H3 hi ⟨g, hl⟩ ⟨rfl, c, hc, rfl⟩
          have hc2 : z.cps.toList[i]? = some c := by rw [Array.getElem?_toList]; exact hc
          have hlen : (((z.cps.toList.take i).map (fun c => decide (c ∈ alpha))).map V.bl).length < sizeLine := by
            rw [List.length_map, List.length_map, List.length_take]
            have h3 : z.cps.size ≤ 6 := h2
            exact small' (by omega)
          refine ⟨rfl, _, rfl, c, _, rfl, rfl, _, hl, hlen, fun b o q => ?_, ?_⟩
          · rw [upd_ne (ne_of_none q hD)]
            exact g b o q
          · rw [upd_same, alpha_eq, List.take_add_one, hc2]
            simp
        · rintro H2 ⟨g, hl⟩
          refine ⟨D, _, rfl, SqL.of hl, ?_⟩
          have e : (((z.cps.toList.take z.cps.size).map (fun c => decide (c ∈ alpha))).all id) = nameD (.str z) := by
            show _ = (decide (1 ≤ z.length) && decide (z.length ≤ 6) && z.cps.toList.all (fun c => decide (c ∈ alpha)))
            rw [decide_eq_true h1', decide_eq_true h2, Bool.true_and, Bool.true_and, List.take_of_length_le (by rw [Array.length_toList]; exact Nat.le_refl _), List.all_map]
            rfl
          rw [e]
          exact k H2 g
      · rw [decide_eq_false (show ¬ (z.length : Int) ≤ 6 by omega)]
        refine iteT ?_
        have e : nameD (.str z) = false := by
          show (decide (1 ≤ z.length) && decide (z.length ≤ 6) && _) = false
          rw [decide_eq_false h2, Bool.and_false, Bool.false_and]
        rw [← e]
        exact k H (Same.refl _)
    · refine ⟨_, rfl, ?_⟩
      refine iteT ?_
      have e : nameD (.str z) = false := by
        show (decide (1 ≤ z.length) && _ && _) = false
        rw [decide_eq_false (by intro q; exact h1 (decide_eq_true (by omega))), Bool.false_and, Bool.false_and]
      rw [← e]
      exact k H (Same.refl _)
  | _ => exact iteT (k H (Same.refl _))
end
end Bl

namespace Bl
open PySem L2
open SX (S)
abbrev n_names : List Str := ["_law_box_here", "_law_many", "_law_letters", "_law_stem", "_law_spot", "_law_first", "_law_found", "_law_k", "_law_word"]
theorem sc_names : FnScope n_names ["_law_box_here", "_law_many"] (defScope s_names) := ⟨rfl, rfl, rfl, by decide +kernel, rfl, by decide +kernel, by decide +kernel⟩
section
variable {P : Program} {w : World} {K : PySem.W.Frag} {mg : Str → Option Value} {base : Heap}
theorem ok_names (T : Top K mg) : FnOk P w K mg base CX0 3 T.a_names T.d_names ["_law_box_here", "_law_many"] (spNames K) := by
  refine T.F_names.ok sc_names (fun vs H Q E h => ?_) (fun cdv A outer s H vs Q E hr h => ?_)
  · obtain ⟨p, b, n, rfl, _⟩ := h
    rfl
  obtain ⟨p, b, n, rfl, B, hn1, hn5, k⟩ := h
  refine ⟨_, (pss_cons (ps_set (i := 2) sc_names.nd rfl (Or.inr rfl) pe_str)
    (pss_cons (ps_set (i := 3) sc_names.nd rfl (Or.inr rfl) (pe_join pe_str (pe_lc (own := [("_law_k", 7)]) (g := gName 7) (tt := tYes) rfl sc_names.nd (pi_range1 (by rfl) T.z_range (pa_cons (pe_call (ok_of T) (hr.mono (by decide)) rfl T.m_of T.F_of.kp T.b_of .nil pass0 (pa_cons (pv 0) (pa_cons (pe_lst (pa_cons pe_int (pa_cons pe_int (pa_cons pe_int (pa_cons pe_int pa_nil))))) pa_nil))) pa_nil)) (blkOk_by (own := [("_law_k", 7)]) (N := n_names) (sc := defScope s_names) (by decide +kernel)) (fun _ _ _ _ _ => (pg_name (i := 7) sc_names.nd rfl (Or.inl rfl))) (fun _ _ _ _ _ => pts_nil) (fun _ _ _ _ _ => (pe_call (ok_of T) (hr.mono (by decide)) rfl T.m_of T.F_of.kp T.b_of .nil pass0 (pa_cons (pv 0) (pa_cons (pv 2) pa_nil)))))))
    (pss_cons (ps_asg (pe_tup (pa_cons (pe_call (ok_pull T) (hr.mono (by decide)) rfl T.m_pull T.F_pull.kp T.b_pull .nil pass0 (pa_cons (pv 0) (pa_cons (pe_op op_add (pe_callB call_len_str (by rfl) T.z_len (by decide +kernel) (pa_cons (pv 3) pa_nil)) pe_int) pa_nil))) (pa_cons (pe_call (ok_pull T) (hr.mono (by decide)) rfl T.m_pull T.F_pull.kp T.b_pull .nil pass0 (pa_cons (pv 0) (pa_cons pe_int pa_nil))) pa_nil))) (pg_tup rfl (pgs_cons (pg_name (i := 4) sc_names.nd rfl (Or.inr rfl)) (pgs_cons (pg_name (i := 5) sc_names.nd rfl (Or.inr rfl)) pgs_nil))))
    (pss_cons (ps_setLc (i := 6) (own := [("_law_k", 7)]) (g := gName 7) (tt := tYes) rfl sc_names.nd rfl rfl (sw_true rfl rfl rfl (by decide +kernel)) (pi_range1 (by rfl) T.z_range (pa_cons (pe_op op_add (pv 1) pe_int) pa_nil)) (blkOk_by (own := [("_law_k", 7)]) (N := n_names) (sc := defScope s_names) (by decide +kernel)) (fun _ _ _ _ _ => (pg_name (i := 7) sc_names.nd rfl (Or.inl rfl))) (fun _ _ _ _ _ => pts_nil) (fun _ _ _ _ _ => (pe_op op_add_str (pe_op op_add_str (pe_slice sl_str (pv 3) po_none (po_some (pv 4))) (pe_ix ix_str (pv 2) (pe_op op_mod (pe_callTy call_int1 (by rfl) T.z_int (by decide +kernel) (pa_cons (pe_op op_add (pv 5) (pe_op op_mul pe_int (pv 7))) pa_nil)) pe_int) (fun _ _ => rfl))) (pe_slice sl_str (pv 3) (po_some (pv 4)) po_none))))
    (pss_one (ps_ret (pe_slice sl_list (pe_lc (own := [("_law_word", 8)]) (g := gName 8) rfl sc_names.nd (pi_list (pv 6)) (blkOk_by (own := [("_law_word", 8)]) (N := n_names) (sc := defScope s_names) (by decide +kernel)) (fun _ _ _ _ _ => (pg_name (i := 8) sc_names.nd rfl (Or.inl rfl))) (fun _ _ _ _ _ => (pts_one (pt_cmpR (r := rIn K true) op_notIn_seq (pv 8) (pe_lst (pa_cons pe_str (pa_cons pe_str (pa_cons pe_str (pa_cons pe_str pa_nil))))) rfl))) (fun _ _ _ _ _ => (pv 8))) po_none (po_some (pv 1))))))))), ?_⟩
  -- the stem
  refine ⟨⟨_, rfl⟩, _, rfl, (by show 4 ≤ sizeLine; decide), fun l hl => ?_⟩
  have B1 := B.new hl (.lst [.int 0, .int 1, .int 2, .int 5])
  have e1 : But p H _ := But.of (same_new hl (.lst [.int 0, .int 1, .int 2, .int 5]))
  refine ⟨p, b, _, rfl, B1, .inl ⟨l, _, rfl, .inl (SqL.of (hid_same (B.ne hl))), (by decide), (by decide), fun i x H1 hx B2 e2 => ?_⟩⟩
  obtain ⟨j, rfl, hj⟩ : ∃ j : Nat, x = .int (j : Int) ∧ (j = 0 ∨ j = 1 ∨ j = 2 ∨ j = 5) := by
    match i, hx with
    | 0, h => exact ⟨0, (Option.some.inj h).symm, by decide⟩
    | 1, h => exact ⟨1, (Option.some.inj h).symm, by decide⟩
    | 2, h => exact ⟨2, (Option.some.inj h).symm, by decide⟩
    | 3, h => exact ⟨5, (Option.some.inj h).symm, by decide⟩
    | n + 4, h => cases h
  have e12 : But p H H1 := Same.trans e1 e2
  clear e1 e2 B1
  refine ⟨(j : Int), rfl, by omega, by omega, fun D hD => ?_⟩
  have nD := B2.ne hD
  have nDb := B2.nl hD
  refine lc_range (lo := 0) (n := (j : Int).toNat) (fun i H2 => BoxAt H2 p b ∧ But p H1 H2 ∧ ∃ cs : List Nat, cs.length = i ∧ (∀ c ∈ cs, c ∈ alpha) ∧ H2 D = some (.lst ((cs.map fun c => S [c]).map V.str)))
    ⟨B2.new hD _, But.of (same_new hD _), [], rfl, (by intro c hc; cases hc), upd_same⟩ ?_ ?_
  · rintro i H2 hi ⟨B3, e3, cs, hcs, hlow, hd⟩
    refine ⟨rfl, _, rfl, _, rfl, p, b, _, rfl, B3, .inr ⟨_, rfl, by decide +kernel, by decide +kernel, fun c H3 hc B4 e4 => ?_⟩⟩
    have hd' : H3 D = some (.lst ((cs.map fun c => S [c]).map V.str)) := hide_le _ _ (e4 _ _ (by rw [hide_ne nD]; exact hd))
    refine ⟨_, hd', ?_, B4.mut nD nDb _, But.mut (Same.trans e3 e4) hD _, cs ++ [c], by rw [List.length_append, hcs]; rfl, ?_, ?_⟩
    · rw [List.length_map, List.length_map]
      exact small' (by omega)
    · intro x hx
      rcases List.mem_append.mp hx with h | h
      · exact hlow x h
      · rw [List.mem_singleton.mp h, ← alpha_eq]
        exact hc
    · rw [upd_same, List.map_append, List.map_append]
      rfl
  · rintro H2 ⟨B3, e3, cs, hcs, hlow, hd⟩
    rw [Int.toNat_natCast] at hcs
    refine ⟨_, D, cs.map fun c => S [c], rfl, rfl, .inl (SqL.of hd), ?_, ?_⟩
    · have h1 : ∀ l : List Nat, ((l.map fun c => S [c]).map (·.length)).sum = l.length := by
        intro l
        induction l with
        | nil => rfl
        | cons c l ih =>
          rw [List.map_cons, List.map_cons, List.sum_cons, ih, List.length_cons]
          show 1 + l.length = l.length + 1
          omega
      rw [h1, show ("" : Str).length = 0 by decide +kernel, Nat.mul_zero]
      omega
    rw [join_one]
    have e123 : But p H H2 := Same.trans e12 e3
    -- spot, first
    refine ⟨_, rfl, _, rfl, _, rfl, small (by rw [SX.S_len]; omega), _, _, rfl, rfl, ?_⟩
    refine ⟨p, b, _, rfl, B3, by omega, by rw [SX.S_len]; omega, fun sp H3 hsp0 hsp1 B4 e4 => ?_⟩
    refine ⟨_, rfl, p, b, _, rfl, B4, by decide, by decide, fun fi H4 hf0 hf1 B5 e5 => ?_⟩
    obtain ⟨sp, rfl⟩ := Int.eq_ofNat_of_zero_le hsp0
    obtain ⟨f, rfl⟩ := Int.eq_ofNat_of_zero_le hf0
    rw [SX.S_len] at hsp1
    have hsp : sp ≤ cs.length := by omega
    refine ⟨(by show 2 ≤ sizeLine; decide), fun t ht => ?_⟩
    have B6 := B5.new ht (.tup [.int sp, .int f])
    have e6 : But p H _ := Same.trans e123 (Same.trans e4 (Same.trans e5 (But.of (same_new ht (.tup [.int sp, .int f])))))
    have ht1 : (upd H4 t (.tup [.int sp, .int f])) t = some (.tup [.int sp, .int f]) := upd_same
    refine ⟨t, _, rfl, SqT.of ht1, rfl, _, _, rfl, _, _, rfl, rfl, ?_⟩
    show tSeq _ _ _ _ (upd H4 t (.tup [.int sp, .int f]))
    generalize (upd H4 t (.tup [.int sp, .int f])) = H5 at B6 e6 ⊢
    -- the words
    refine ⟨_, rfl, _, _, rfl, rfl, _, rfl, (by omega), (by omega), fun D2 hD2 => ?_⟩
    refine lc_range (lo := 0) (n := ((n : Int) + 2).toNat) (fun i H2 => Same H5 H2 ∧ H2 D2 = some (.lst (((List.range i).map (wd cs sp f)).map nameV))) ⟨same_new hD2 _, upd_same⟩ ?_ ?_
    · rintro i H6 hi ⟨g, hd6⟩
      have hidx : ((f : Int) + 7 * (0 + (i : Int))) % 26 = (((f + 7 * i) % 26 : Nat) : Int) := by omega
      have hlt : (f + 7 * i) % 26 < 26 := Nat.mod_lt _ (by decide)
      refine ⟨rfl, _, rfl, _, rfl, _, rfl, _, rfl, small (by rw [SX.S_len]; omega), ?_⟩
      refine ⟨_, rfl, _, rfl, _, rfl, _, _, rfl, rfl, .inl (by constructor <;> decide), _, _, rfl, rfl, .inl ⟨_, rfl, _, _, rfl, rfl, (by show (0 : Int) < 26; decide), ?_⟩⟩
      refine ⟨_, _, alpha.getD ((f + 7 * i) % 26) 0, rfl, rfl, (by decide +kernel), ?_, ?_⟩
      · rw [hidx, alpha_eq]
        exact atI_nat (alpha_at _ hlt)
      · rw [cut_pre hsp]
        refine ⟨_, _, rfl, rfl, ?_, ?_⟩
        · rw [SX.S_len, List.length_take]
          show min sp cs.length + 1 ≤ sizeLine
          exact small (by omega)
        refine ⟨_, rfl, _, rfl, _, rfl, _, rfl, small (by rw [SX.S_len]; omega), ?_⟩
        rw [cut_suf hsp]
        have ew : S (cs.take sp) ++ (⟨#[alpha.getD ((f + 7 * i) % 26) 0]⟩ : Str) ++ S (cs.drop sp) = S (wd cs sp f i) := by
          show S (cs.take sp) ++ S [alpha.getD ((f + 7 * i) % 26) 0] ++ S (cs.drop sp) = _
          rw [SX.S_cat, SX.S_cat, List.append_assoc]
          rfl
        refine ⟨_, _, rfl, rfl, ?_, ?_⟩
        · have h1 : (S (cs.take sp) ++ (⟨#[alpha.getD ((f + 7 * i) % 26) 0]⟩ : Str)).length = min sp cs.length + 1 := by
            show (S (cs.take sp) ++ S [alpha.getD ((f + 7 * i) % 26) 0]).length = _
            rw [SX.S_cat, SX.S_len, List.length_append, List.length_take]
            rfl
          rw [h1, SX.S_len, List.length_drop]
          exact small (by omega)
        · rw [ew]
          refine ⟨_, hd6, ?_, Same.mut g hD2 _, ?_⟩
          · rw [List.length_map, List.length_map, List.length_range]
            exact small' (by omega)
          · rw [upd_same, List.range_succ, List.map_append, List.map_append]
            rfl
    rintro H6 ⟨g6, hd6⟩
    rw [show ((n : Int) + 2).toNat = n + 2 by omega] at hd6
    obtain ⟨hz1, hz2, hz3, hz4⟩ := wds_names (sp := sp) (f := f) hn5 hlow (by omega)
    -- those let
    refine ⟨_, rfl, D2, rfl, ⟨_, SqL.of hd6⟩, fun D3 hD3 => ?_⟩
    refine lc_list (K := K) (a := D2) (xs := (wds cs sp f (n + 2)).map nameV) (fun i H2 => Same H6 H2 ∧ H2 D3 = some (.lst ((((wds cs sp f (n + 2)).take i).filter keepB).map nameV))) ⟨same_new hD3 _, upd_same⟩ (fun i H2 _ q => q.1.seq (SqL.of hd6)) ?_ ?_
    · rintro i x H7 hx ⟨g, hd7⟩
      rw [List.getElem?_map] at hx
      obtain ⟨z, hz, rfl⟩ : ∃ z, (wds cs sp f (n + 2))[i]? = some z ∧ x = nameV z := by
        cases e : (wds cs sp f (n + 2))[i]? with
        | none => rw [e] at hx; cases hx
        | some z => rw [e] at hx; exact ⟨z, rfl, (Option.some.inj hx).symm⟩
      refine ⟨rfl, _, rfl, (by show 4 ≤ sizeLine; decide), fun l4 hl4 => ?_⟩
      have g8 := g.trans (same_new hl4 (.lst bads))
      have hd8 : (upd H7 l4 (.lst bads)) D3 = some (.lst ((((wds cs sp f (n + 2)).take i).filter keepB).map nameV)) := by
        rw [upd_ne (ne_of_none hd7 hl4)]
        exact hd7
      refine ⟨l4, bads, rfl, .inl (SqL.of upd_same), rfl, rfl, _, rfl, ?_⟩
      show if (!inV (.str (S z)) bads) = true then _ else _
      rw [inV_bads]
      have ef : ((wds cs sp f (n + 2)).take (i + 1)).filter keepB = ((wds cs sp f (n + 2)).take i).filter keepB ++ (if keepB z = true then [z] else []) := by
        rw [List.take_add_one, hz, List.filter_append]
        congr 1
        by_cases hk : keepB z = true
        · rw [if_pos hk]
          exact List.filter_cons_of_pos hk
        · rw [if_neg hk]
          exact List.filter_cons_of_neg hk
      refine ite2 (fun hk => ?_) (fun hk => ?_)
      · have hk' : keepB z = true := hk
        rw [if_pos hk'] at ef
        refine ⟨_, rfl, _, hd8, ?_, Same.mut g8 hD3 _, ?_⟩
        · rw [List.length_map]
          have h1 := List.length_filter_le keepB ((wds cs sp f (n + 2)).take i)
          have h2 : ((wds cs sp f (n + 2)).take i).length ≤ n + 2 := by
            rw [List.length_take]
            unfold wds
            rw [List.length_map, List.length_range]
            omega
          exact small' (by omega)
        · rw [upd_same, ef, List.map_append]
          rfl
      · have hk' : ¬ keepB z = true := hk
        rw [if_neg hk', List.append_nil] at ef
        refine ⟨g8, ?_⟩
        rw [ef]
        exact hd8
    · rintro H7 ⟨g7, hd7⟩
      rw [List.length_map, List.take_of_length_le (Nat.le_refl _)] at hd7
      refine ⟨_, rfl, _, rfl, D3, _, rfl, SqL.of hd7, fun q hq => ?_⟩
      rw [cutV_pre, ← List.map_take]
      have B7 := (B6.mono g6).mono g7
      have e7 : But p H H7 := Same.trans e6 (But.of (g6.trans g7))
      refine k q _ _ hz1 hz2 hz3 ⟨_, hz4⟩ ?_ (B7.ne hq) upd_same (B7.new hq _) (Same.trans e7 (But.of (same_new hq _)))
      exact e7.free (hide_free hq)
end
end Bl

namespace Bl
open PySem L2
open SX (S)
/-! short words: array_get_dec closes a side condition; array_mem_dec goes one step into a reading; sizeOf_list_dec goes on while it can -/
local macro_rules | `(tactic| array_get_dec) => `(tactic| first
  | (with_reducible assumption)
  | ((with_reducible apply Bl.gEq); first
    | rfl
    | assumption
    | exact upd_same
    | (with_reducible exact kit_d some_str)
    | (with_reducible exact kit_d some_int)
    | (with_reducible exact kit_d some_bool)
    | (with_reducible exact kit_d some_list)
    | (with_reducible exact kit_d some_tuple)
    | ((with_reducible apply Bl.get_new); assumption; array_get_dec)
    | ((with_reducible apply Bl.get_tr); assumption; array_get_dec)
    )
  | ((with_reducible apply Bl.gLe); first
    | omega
    | exact small (by omega)
    | exact small (by simp only [List.length_cons, List.length_nil]; decide)
    | exact small (by simp only [List.length_append, List.length_cons, List.length_nil]; omega)
    | decide)
  | ((with_reducible apply Bl.gLt); first
    | omega
    | exact small' (by omega)
    | exact small' (by simp only [List.length_cons, List.length_nil]; decide)
    | decide)
  | ((fail_if_success (with_reducible apply Bl.gEq)); (fail_if_success (with_reducible apply Bl.gLe)); (fail_if_success (with_reducible apply Bl.gLt)); first
    | assumption
    | exact SqL.of upd_same
    | exact SqT.of upd_same
    | ((with_reducible apply SqL.of); assumption)
    | ((with_reducible apply SqT.of); assumption)
    | exact Same.refl _
    | exact .ty _
    | exact .str _
    | exact .int _
    | exact ⟨_, rfl⟩
    | ((with_reducible apply Dp.ty); assumption)
    | ((with_reducible apply Bl.seq_new); assumption; array_get_dec)
    | ((with_reducible apply Bl.tup_new); assumption; array_get_dec)
    | ((with_reducible apply Bl.dp_new); assumption; array_get_dec)
    | ((with_reducible apply Bl.dpa_new); assumption; array_get_dec)
    | ((with_reducible apply Bl.same_nw); assumption; array_get_dec)
    | ((with_reducible apply Bl.seq_tr); assumption; array_get_dec)
    | ((with_reducible apply Bl.tup_tr); assumption; array_get_dec)
    | ((with_reducible apply Bl.dp_tr); assumption; array_get_dec)
    | ((with_reducible apply Bl.dpa_tr); assumption; array_get_dec)
    | ((with_reducible apply Bl.same_tr); assumption; array_get_dec)
    | ((with_reducible apply Dp.ty); assumption)
    | ((with_reducible apply Dp.ty); array_get_dec)
    | ((with_reducible refine Or.inl ?_); array_get_dec)
    | ((with_reducible refine Or.inr ?_); array_get_dec)
    | ((with_reducible apply Bl.gEx); array_get_dec)))
local macro_rules | `(tactic| array_mem_dec) => `(tactic| first
  | ((with_reducible apply Bl.gIte); first
    | (refine Bl.gT (by rfl) ?_)
    | (refine Bl.gF (by rfl) ?_))
  | ((fail_if_success (with_reducible apply Bl.gIte)); (fail_if_success (with_reducible apply Bl.gLoop)); (fail_if_success (with_reducible apply Bl.gComp)); (fail_if_success (with_reducible apply Bl.gWhile)); first
    | (with_reducible intro _ _)
    | (with_reducible intro _)
    | (refine And.intro (by array_get_dec) ?_)
    | (apply Bl.gEx)
    | (refine Or.inl (And.intro (by array_get_dec) ?_))
    | (refine Or.inr (And.intro (by array_get_dec) ?_))
    | (refine Or.inl ⟨_, by array_get_dec, ?_⟩)
    | (refine Or.inr ⟨_, by array_get_dec, ?_⟩)
    ))
local macro_rules | `(tactic| sizeOf_list_dec) => `(tactic| repeat array_mem_dec)

abbrev n_is_thing : List Str := ["value", "name"]
theorem sc_is_thing : FnScope n_is_thing ["value"] (defScope s_is_thing) := ⟨rfl, rfl, rfl, by decide +kernel, rfl, by decide +kernel, by decide +kernel⟩
def spIsThing (K : PySem.W.Frag) : Sp := fun vs H Q _ => ∃ (t : Addr) (n : Str), vs = [.ref t] ∧ SqT K H t [.str n] ∧ nameB n = true ∧ ∀ H', Same H H' → Q (.bl true) H'
section
variable {P : Program} {w : World} {K : PySem.W.Frag} {mg : Str → Option Value} {base : Heap}
theorem ok_is_thing (T : Top K mg) : FnOk P w K mg base CX0 4 T.a_is_thing T.d_is_thing ["value"] (spIsThing K) := by
  refine T.F_is_thing.ok sc_is_thing (fun vs H Q E h => ?_) (fun cdv A outer s H vs Q E hr h => ?_)
  · obtain ⟨t, n, rfl, _⟩ := h
    rfl
  obtain ⟨t, n, rfl, ht, hn, k⟩ := h
  refine ⟨_, (pss_cons (ps_if (PW.pt (pw_or (pt_not (pt_val (pe_callB call_isi (by rfl) T.z_isinstance (by decide +kernel) (pa_cons (pv 0) (pa_cons (pe_bltn (v := .ty "tuple") (by rfl) T.z_tuple (by decide +kernel) rfl) pa_nil))))) (pw_or1 (pt_not (pt_chain op_le op_le pe_int (pe_callB call_len_seq (by rfl) T.z_len (by decide +kernel) (pa_cons (pv 0) pa_nil)) (pe_glob rfl T.c_MOST_OF_THING T.r_MOST_OF_THING)))))) (pss_one (ps_ret pe_bl)) pss_nil)
    (pss_one (ps_ret (pe_and (pe_callB (cr_all rfl) (by rfl) T.z_all (by decide +kernel) (pa_cons (pe_lc (own := [("name", 1)]) (g := gName 1) (tt := tYes) rfl sc_is_thing.nd (pi_tup (pv 0)) (blkOk_by (own := [("name", 1)]) (N := n_is_thing) (sc := defScope s_is_thing) (by decide +kernel)) (fun _ _ _ _ _ => (pg_name (i := 1) sc_is_thing.nd rfl (Or.inl rfl))) (fun _ _ _ _ _ => pts_nil) (fun _ _ _ _ _ => (pe_call (ok_is_name T) (hr.mono (by decide)) rfl T.m_is_name T.F_is_name.kp T.b_is_name .nil pass0 (pa_cons (pv 1) pa_nil)))) pa_nil)) (pe_one (pe_cmpR op_eq (pe_lenSet rfl (by rfl) T.z_len (by rfl) T.z_set (pv 0)) (pe_callB call_len_seq (by rfl) T.z_len (by decide +kernel) (pa_cons (pv 0) pa_nil)) (nomark _))))))), ?_⟩
  have hty := tyT ht
  have hk : PySem.W.kitOne K (.type "tuple") (.type "tuple") = some true := kit_ty (by decide +kernel)
  have hz : ∀ z : Str, PyData.str n = .str z → z.length ≤ 100000 := fun z e => by
    cases e
    have h1 := (Bool.and_eq_true_iff.mp (Bool.and_eq_true_iff.mp hn).1).2
    have := of_decide_eq_true h1
    omega
  sizeOf_list_dec
  rename_i D fD
  refine lc_tup (K := K) (a := t) (xs := [V.str n]) (fun i Hx => Hold (Same H Hx ∧ Hx D = some (.lst (([true].take i).map V.bl)))) ⟨same_new fD _, upd_same⟩ (fun i Hx _ h => Same.tup h.h.1 ht) ?_ ?_
  · rintro i x Hx hi ⟨e, hD⟩
    match i, hi with
    | 0, hi =>
      obtain rfl : V.str n = x := Option.some.inj hi
      refine ⟨rfl, _, rfl, _, .str n, rfl, .str n, hz, fun H3 e3 => ⟨_, e3 _ _ hD, (by show 0 < sizeLine; decide), ⟨Same.mut (e.trans e3) fD _, ?_⟩⟩⟩
      rw [upd_same, show nameD (.str n) = true from hn]
      rfl
    | i + 1, hi => cases hi
  · rintro Hx ⟨e, hD⟩
    have ht2 := Same.tup e ht
    refine ⟨D, [true], rfl, SqL.of hD, _, rfl, iteT ?_⟩
    refine ⟨_, rfl, t, [n], rfl, .inr ht2, (by show 1 ≤ 1; decide), ?_⟩
    sizeOf_list_dec
    exact k _ e
/-- a row as it is handed in -/
def RowV (w : Row) : Prop := (∀ q ∈ w, nameB q.1 = true ∧ nameB q.2 = true) ∧ w.length ≤ 300
abbrev n_is_row : List Str := ["value", "field"]
theorem sc_is_row : FnScope n_is_row ["value"] (defScope s_is_row) := ⟨rfl, rfl, rfl, by decide +kernel, rfl, by decide +kernel, by decide +kernel⟩
abbrev n_Ledger___init__ : List Str := ["self", "things", "thing"]
theorem sc_Ledger___init__ : FnScope n_Ledger___init__ ["self", "things"] (defScope s_Ledger___init__) := ⟨rfl, rfl, rfl, by decide +kernel, rfl, by decide +kernel, by decide +kernel⟩
abbrev n_Ledger__marks_of : List Str := ["self", "row", "found", "at", "thing", "field"]
theorem sc_Ledger__marks_of : FnScope n_Ledger__marks_of ["self", "row"] (defScope s_Ledger__marks_of) := ⟨rfl, rfl, rfl, by decide +kernel, rfl, by decide +kernel, by decide +kernel⟩
abbrev n_Ledger_offer : List Str := ["self", "row", "marks", "alike", "learns", "judges", "number", "elder"]
theorem sc_Ledger_offer : FnScope n_Ledger_offer ["self", "row"] (defScope s_Ledger_offer) := ⟨rfl, rfl, rfl, by decide +kernel, rfl, by decide +kernel, by decide +kernel⟩
abbrev n_Ledger_add : List Str := ["self", "row", "side", "due", "taken"]
theorem sc_Ledger_add : FnScope n_Ledger_add ["self", "row", "side"] (defScope s_Ledger_add) := ⟨rfl, rfl, rfl, by decide +kernel, rfl, by decide +kernel, by decide +kernel⟩
abbrev n_Ledger_undo : List Str := ["self"]
theorem sc_Ledger_undo : FnScope n_Ledger_undo ["self"] (defScope s_Ledger_undo) := ⟨rfl, rfl, rfl, by decide +kernel, rfl, by decide +kernel, by decide +kernel⟩
abbrev n_Ledger_redo : List Str := ["self", "row", "lot"]
theorem sc_Ledger_redo : FnScope n_Ledger_redo ["self"] (defScope s_Ledger_redo) := ⟨rfl, rfl, rfl, by decide +kernel, rfl, by decide +kernel, by decide +kernel⟩
abbrev n_Ledger___eq__ : List Str := ["self", "other"]
theorem sc_Ledger___eq__ : FnScope n_Ledger___eq__ ["self", "other"] (defScope s_Ledger___eq__) := ⟨rfl, rfl, rfl, by decide +kernel, rfl, by decide +kernel, by decide +kernel⟩
def spIsRow (K : PySem.W.Frag) : Sp := fun vs H Q _ => ∃ (t : Addr) (w : Row), vs = [.ref t] ∧ H t = some (.dK (rowK w)) ∧ RowV w ∧ (w.map (·.1)).Nodup ∧ ∀ H', Same H H' → Q (.bl true) H'
theorem nm_len {n : Str} (hn : nameB n = true) : ∀ z : Str, PyData.str n = .str z → z.length ≤ 100000 := fun z e => by
  cases e
  have h1 := (Bool.and_eq_true_iff.mp (Bool.and_eq_true_iff.mp hn).1).2
  have := of_decide_eq_true h1
  omega
theorem same_lock {H G : Hp} {t : Addr} {o : HO} {od : Obj} (h : H t = some o) (e : Same (upd H t (.frz od o)) G) : Same H (upd G t o) := fun b u hb => by
  by_cases k : b = t
  · subst k
    rw [upd_same, ← h, hb]
  · rw [upd_ne k]
    refine e b u ?_
    rw [upd_ne k]
    exact hb
theorem ok_is_row (T : Top K mg) : FnOk P w K mg base CX0 4 T.a_is_row T.d_is_row ["value"] (spIsRow K) := by
  refine T.F_is_row.ok sc_is_row (fun vs H Q E h => ?_) (fun cdv A outer s H vs Q E hr h => ?_)
  · obtain ⟨t, n, rfl, _⟩ := h
    rfl
  obtain ⟨t, w, rfl, ht, hw, nd, k⟩ := h
  have hu := hu_of hr
  refine ⟨_, (pss_cons (ps_if (pt_not (pt_val (pe_callB call_isi (by rfl) T.z_isinstance (by decide +kernel) (pa_cons (pv 0) (pa_cons (pe_bltn (v := .ty "dict") (by rfl) T.z_dict (by decide +kernel) rfl) pa_nil))))) (pss_one (ps_ret pe_bl)) pss_nil)
    (pss_one (ps_ret (pe_callB (cr_all rfl) (by rfl) T.z_all (by decide +kernel) (pa_cons (pe_lock (pe_lc (own := [("field", 1)]) (g := gName 1) (tt := tYes) rfl sc_is_row.nd (pi_keys (pv 0)) (blkOk_by (own := [("field", 1)]) (N := n_is_row) (sc := defScope s_is_row) (by decide +kernel)) (fun _ _ _ _ _ => (pg_name (i := 1) sc_is_row.nd rfl (Or.inl rfl))) (fun _ _ _ _ _ => pts_nil) (fun _ _ _ _ _ => (pe_and (pe_call (ok_is_name T) (hr.mono (by decide)) rfl T.m_is_name T.F_is_name.kp T.b_is_name .nil pass0 (pa_cons (pv 1) pa_nil)) (pe_one (pe_call (ok_is_name T) (hr.mono (by decide)) rfl T.m_is_name T.F_is_name.kp T.b_is_name .nil pass0 (pa_cons (pe_dget (hu_of hr) (pv 0) (pv 1) (fun _ _ => rfl)) pa_nil))))))) pa_nil))))), ?_⟩
  have hty : TyX K H (.ref t) (.type "dict") := .base (.dK ht)
  have hk : PySem.W.kitOne K (.type "dict") (.type "dict") = some true := kit_ty (by decide +kernel)
  have hm : Mut (some (.dK (rowK w))) := True.intro
  sizeOf_list_dec
  rename_i od D fD
  refine lc_it (walk_keys (kvs := rowK w)) (fun i Hx => Hold (Same (upd H t (.frz od (.dK (rowK w)))) Hx ∧ Hx D = some (.lst ((List.replicate i true).map V.bl)))) ⟨same_new fD _, upd_same⟩ (fun i Hx _ h => h.h.1 _ _ upd_same) ?_ ?_
  · rintro i x Hx H2 hi ⟨e, hD⟩ ⟨rfl, k0, v0, hi2, rfl⟩
    have hl : (rowK w).length = w.length := List.length_map ..
    obtain ⟨q, hq, e1, e2⟩ : ∃ q, w[i]? = some q ∧ k0 = Sum.inr q.1 ∧ v0 = .str q.2 := by
      unfold rowK at hi2
      rw [List.getElem?_map] at hi2
      cases eq : w[i]? with
      | none => rw [eq] at hi2; cases hi2
      | some q =>
        rw [eq] at hi2
        cases hi2
        exact ⟨q, rfl, rfl, rfl⟩
    subst e1 e2
    obtain ⟨n1, n2⟩ := hw.1 q (List.mem_of_getElem? hq)
    have hg : ∀ G, Same H2 G → DGet G t (.str q.1) (some (.str q.2)) := fun G g => .inl ⟨rowK w, Sum.inr q.1, .inr ⟨od, g _ _ (e _ _ upd_same)⟩, rfl, (rowK_get nd hq).symm⟩
    refine ⟨rfl, _, rfl, .str q.1, .str q.1, rfl, .str _, nm_len n1, fun H3 e3 => ?_⟩
    refine ⟨true, by rw [show nameD (.str q.1) = true from n1], iteT ?_⟩
    refine ⟨_, rfl, _, rfl, t, .str q.2, rfl, hg _ e3, .str q.2, .str q.2, rfl, .str _, nm_len n2, fun H4 e4 => ?_⟩
    have hlt := hw.2
    refine ⟨_, e4 _ _ (e3 _ _ hD), ?_, ⟨Same.mut (e.trans (e3.trans e4)) fD _, ?_⟩⟩
    · rw [List.length_map, List.length_replicate]
      exact small' (by omega)
    · rw [upd_same, show nameD (.str q.2) = true from n2, List.replicate_succ', List.map_append]
      rfl
  · rintro Hx ⟨e, hD⟩
    have hDt : D ≠ t := by
      rintro rfl
      rw [upd_same] at fD
      cases fD
    refine ⟨e _ _ upd_same, D, List.replicate (rowK w).length true, rfl, SqL.of (by rw [upd_ne hDt]; exact hD), ?_⟩
    rw [show (List.replicate (rowK w).length true).all id = true from by simp]
    exact k _ (same_lock ht e)

def spInitL (K : PySem.W.Frag) (C : Addr) : Sp := fun vs H Q _ => ∃ (p t dx : Addr) (ts : List Addr) (ns : List Str), vs = [.ref p, .ref t] ∧ H p = some (.ins C dx []) ∧ SqT K H t (ts.map V.ref) ∧ Paired (fun a n => ThOk K H a [n]) ts ns ∧ (∀ n ∈ ns, nameB n = true) ∧
  1 ≤ ns.length ∧ ns.length ≤ 4 ∧ ∀ (f : LFt) (H' : Hp), LedAt K C H' p f ⟨ns.map fun n => [n], [], [], []⟩ → Fr [p] H H' → (∀ x ∈ [f.th, f.ro, f.si, f.un], H x = none) → Q .non H'
theorem pr_len {α β : Type} {R : α → β → Prop} {l : List α} {m : List β} (p : PySem.Paired R l m) : l.length = m.length := by
  induction p with
  | nil => rfl
  | cons _ _ ih => rw [List.length_cons, List.length_cons, ih]
theorem pr_get {α β : Type} {R : α → β → Prop} {l : List α} {m : List β} (p : PySem.Paired R l m) : ∀ {i : Nat} {a : α}, l[i]? = some a → ∃ b, m[i]? = some b ∧ R a b := by
  induction p with
  | nil => intro i a h; simp at h
  | cons r _ ih =>
    intro i a h
    cases i with
    | zero =>
      simp at h
      subst h
      exact ⟨_, rfl, r⟩
    | succ i =>
      simp at h
      obtain ⟨b, h1, h2⟩ := ih h
      exact ⟨b, by simpa using h1, h2⟩
theorem pfl {x : Str} {v : V} {n : Nat} : ∀ {l : List (Str × V)}, l.length < n → (putF x v l).length < n + 1
  | [], h => by
    show 1 < n + 1
    have : 0 < n := h
    omega
  | (y, z) :: l, h => by
    show (if y = x then (y, v) :: l else (y, z) :: putF x v l).length < n + 1
    have h' : l.length < n - 1 := by have : l.length + 1 < n := h; omega
    split
    · exact Nat.lt_succ_of_lt h
    · have := pfl (x := x) (v := v) h'
      show (putF x v l).length + 1 < n + 1
      omega
theorem pf1 {x : Str} {v : V} : (putF x v []).length < 1000 := Nat.lt_of_lt_of_le (pfl (n := 1) Nat.zero_lt_one) (by decide)
theorem pf2 {x x2 : Str} {v v2 : V} : (putF x2 v2 (putF x v [])).length < 1000 := Nat.lt_of_lt_of_le (pfl (pfl (n := 1) Nat.zero_lt_one)) (by decide)
theorem pf3 {x x2 x3 : Str} {v v2 v3 : V} : (putF x3 v3 (putF x2 v2 (putF x v []))).length < 1000 := Nat.lt_of_lt_of_le (pfl (pfl (pfl (n := 1) Nat.zero_lt_one))) (by decide)
theorem pr_map1 {α β γ : Type} {R : α → γ → Prop} {g : β → γ} {l : List α} {m : List β} (p : PySem.Paired (fun a b => R a (g b)) l m) : PySem.Paired R l (m.map g) := by
  induction p with
  | nil => exact .nil
  | cons r _ ih => exact .cons r ih
theorem ok_Ledger___init__0 (T : Top K mg) (cdv : Value) (A : Around) (outer : List Env) (s : Shared) (H : Hp) (vs : List V) (Q : VK) (E : XK) (hr : Room 5 (A.deeper (PyProof.Rows.envOfC "Ledger.__init__" (defScope s_Ledger___init__) s.heap.objs.size T.a_Ledger___init__ cdv))) (h : spInitL K T.C_Ledger vs H Q E) :
    ∃ t, PSs (cxOf CX0 P w K mg base n_Ledger___init__ "Ledger.__init__" (defScope s_Ledger___init__) T.a_Ledger___init__ cdv A outer s H E).nox (defBody s_Ledger___init__) t ∧ t { nx := fun _ H' => Q .non H', rt := Q } (start n_Ledger___init__ vs) H := by
  obtain ⟨p, t, dx, ts, ns, rfl, hp, ht, hts, hn, h1, h4, k⟩ := h
  refine ⟨_, (pss_cons (ps_for PassesOwn.never rfl (pi_tup (pv 1)) (pg_name (i := 2) sc_Ledger___init__.nd rfl (Or.inl rfl))
    (pss_one (ps_if (pt_not (pt_val (pe_call (ok_is_thing T) (hr.mono (by decide)) rfl T.m_is_thing T.F_is_thing.kp T.b_is_thing .nil pass0 (pa_cons (pv 2) pa_nil)))) (pss_one ps_never) pss_nil)))
    (pss_cons (ps_if (pt_cmpR op_gt (pe_callB call_len_seq (by rfl) T.z_len (by decide +kernel) (pa_cons (pv 1) pa_nil)) (ClX.pe_cval (pe_glob (v := .ref T.C_Ledger) rfl T.mc_Ledger rfl)) (nomark _)) (pss_one ps_never) pss_nil)
    (pss_cons (ps_if (pt_cmpR op_eq (pe_callB call_len_seq (by rfl) T.z_len (by decide +kernel) (pa_cons (pv 1) pa_nil)) pe_int (nomark _)) (pss_one ps_never) pss_nil)
    (pss_cons (ps_fld (pv 0) (pe_callTy call_list_of (by rfl) T.z_list (by decide +kernel) (pa_cons (pv 1) pa_nil)) rfl)
    (pss_cons (ps_fld (pv 0) (pe_lst pa_nil) rfl)
    (pss_cons (ps_fld (pv 0) (pe_lst pa_nil) rfl)
    (pss_one (ps_fld (pv 0) (pe_lst pa_nil) rfl)))))))), ?_⟩
  have hl : ts.length = ns.length := pr_len hts
  have hlm : (ts.map V.ref).length = ns.length := by rw [List.length_map, hl]
  have hcl := T.cl_Ledger
  have hcr := T.cr_Ledger
  have hcv := T.cv_Ledger_MOST_THINGS
  have hn1 := T.n_Ledger__things
  have hn2 := T.n_Ledger__rows
  have hn3 := T.n_Ledger__sides
  have hn4 := T.n_Ledger__undone
  sizeOf_list_dec
  refine for_tup (K := K) (a := t) (xs := ts.map V.ref) (fun i σ Hx => Hold (Same H Hx ∧ ∃ v, σ = [some (.ref p), some (.ref t), v])) ⟨Same.refl _, none, rfl⟩ (fun i σ Hx _ h => Same.tup h.h.1 ht) ?_ ?_
  · rintro i x σ Hx hi ⟨e, v, rfl⟩
    obtain ⟨a, ha, rfl⟩ : ∃ a, ts[i]? = some a ∧ x = .ref a := by
      rw [List.getElem?_map] at hi
      cases e : ts[i]? with
      | none => rw [e] at hi; cases hi
      | some a =>
        rw [e] at hi
        exact ⟨a, rfl, (Option.some.inj hi).symm⟩
    obtain ⟨n, h2, h3⟩ := pr_get hts ha
    refine ⟨_, rfl, a, n, rfl, Same.tup e h3, hn n (List.mem_of_getElem? h2), fun H3 e3 => ⟨_, rfl, iteF ?_⟩⟩
    exact ⟨e.trans e3, _, rfl⟩
  · rintro σ Hx ⟨e, v, rfl⟩
    have hp1 := e _ _ hp
    have ht1 := Same.tup e ht
    have z1 : decide (((ts.map V.ref).length : Int) > 4) = false := decide_eq_false (by omega)
    have z2 : decide (V.int ((ts.map V.ref).length : Int) = V.int 0) = false := decide_eq_false (fun z => by have := V.int.inj z; omega)
    sizeOf_list_dec
    refine gF z1 ?_
    sizeOf_list_dec
    refine gF z2 ?_
    sizeOf_list_dec
    refine ⟨pf1, ?_⟩
    sizeOf_list_dec
    refine ⟨pf2, ?_⟩
    sizeOf_list_dec
    refine ⟨pf3, ?_⟩
    rename_i a1 f1 a2 f2 a3 f3 a4 f4
    have np1 : p ≠ a1 := ne_of_none hp1 f1
    have np2 : p ≠ a2 := ne_of_none upd_same f2
    have np3 : p ≠ a3 := ne_of_none upd_same f3
    have np4 : p ≠ a4 := ne_of_none upd_same f4
    have n12 : a1 ≠ a2 := ne_of_none (by rw [upd_ne np1.symm]; exact upd_same) f2
    have n13 : a1 ≠ a3 := ne_of_none (by rw [upd_ne np1.symm, upd_ne n12, upd_ne np1.symm]; exact upd_same) f3
    have n14 : a1 ≠ a4 := ne_of_none (by rw [upd_ne np1.symm, upd_ne n13, upd_ne np1.symm, upd_ne n12, upd_ne np1.symm]; exact upd_same) f4
    have n23 : a2 ≠ a3 := ne_of_none (by rw [upd_ne np2.symm]; exact upd_same) f3
    have n24 : a2 ≠ a4 := ne_of_none (by rw [upd_ne np2.symm, upd_ne n23, upd_ne np2.symm]; exact upd_same) f4
    have n34 : a3 ≠ a4 := ne_of_none (by rw [upd_ne np3.symm]; exact upd_same) f4
    have mp : p ∈ [p] := List.mem_singleton.mpr rfl
    have F1 : Fr [p] H _ := ((Fr.of e).new f1 (o := .lst (ts.map V.ref))).put (o := .ins T.C_Ledger dx (putF "_things" (V.ref a1) [])) mp
    have F2 : Fr [p] H _ := (F1.new f2 (o := .lst [])).put (o := .ins T.C_Ledger dx (putF "_rows" (V.ref a2) (putF "_things" (V.ref a1) []))) mp
    have F3 : Fr [p] H _ := (F2.new f3 (o := .lst [])).put (o := .ins T.C_Ledger dx (putF "_sides" (V.ref a3) (putF "_rows" (V.ref a2) (putF "_things" (V.ref a1) [])))) mp
    have F4 : Fr [p] H _ := (F3.new f4 (o := .lst [])).put (o := .ins T.C_Ledger dx (putF "_undone" (V.ref a4) (putF "_sides" (V.ref a3) (putF "_rows" (V.ref a2) (putF "_things" (V.ref a1) []))))) mp
    have nm : ∀ x, p ≠ x → x ∉ [p] := fun x n h => n (List.mem_singleton.mp h).symm
    have hS : ∀ x ∈ [p], ListIns H x := fun x hx => by
      obtain rfl := List.mem_singleton.mp hx
      exact .inr ⟨_, _, _, hp⟩
    refine k ⟨dx, a1, a2, a3, a4⟩ _ ⟨?_, ⟨ts, ?_, ?_⟩, ⟨[], ?_, .nil⟩, ?_, ⟨[], ?_, .nil⟩, ?_⟩ F4 ?_
    · rw [upd_same, ← LFt.made]
    · rw [upd_ne np1.symm, upd_ne n14, upd_ne np1.symm, upd_ne n13, upd_ne np1.symm, upd_ne n12, upd_ne np1.symm]
      exact upd_same
    · exact pr_map1 (prMp hts fun a n (h : ThOk K H a [n]) => fr_tup F4 hS h)
    · rw [upd_ne np2.symm, upd_ne n24, upd_ne np2.symm, upd_ne n23, upd_ne np2.symm]
      exact upd_same
    · rw [upd_ne np3.symm, upd_ne n34, upd_ne np3.symm]
      exact upd_same
    · rw [upd_ne np4.symm]
      exact upd_same
    · simp [LFt.all, np1, np2, np3, np4, n12, n13, n14, n23, n24, n34]
    · intro x hx
      simp only [List.mem_cons, List.not_mem_nil, or_false] at hx
      rcases hx with rfl | rfl | rfl | rfl
      · exact (Fr.of e).free f1 (nm _ np1)
      · exact F1.free f2 (nm _ np2)
      · exact F2.free f3 (nm _ np3)
      · exact F3.free f4 (nm _ np4)

theorem ok_Ledger___init__ (T : Top K mg) : FnR P w K mg base CX0 6 T.a_Ledger___init__ (fun vs H Q E => ∃ ws rest, vs = ws ++ rest ∧ ws.length = 1 ∧ rest.length ≤ sizeLine ∧ ∀ p, H p = none → spInitL K T.C_Ledger (ws ++ [V.ref p]) (upd H p (.tup rest)) Q E) := by
  obtain ⟨oc, od, kV, doc, pm, an, cdv, ct, osl, e, lk, hcd⟩ := T.F_Ledger___init__.ex
  rw [e] at lk
  refine StX.fn_star (ps := ["self"]) (pv := "things") lk hcd sc_Ledger___init__ StX.cxUp_none (StX.bind_star1 (B := fun us => bindArgs (PySem.W.fnOf "__init__" "Ledger.__init__" (defArgs s_Ledger___init__) (defBody s_Ledger___init__) (defScope s_Ledger___init__) Value.none kV doc pm an cdv ct) ⟨us, []⟩) (p1 := "self") (pv := "things") (fun a => rfl) (fun a r rs => rfl)) fun A outer s H vs Q E hr h => ?_
  obtain ⟨t, h1, h2⟩ := ok_Ledger___init__0 (w := w) (base := base) T cdv A outer s H vs Q E hr h
  exact ⟨t, h1.nox, h2⟩

def spMarks0 (K : PySem.W.Frag) (C : Addr) : Sp := fun vs H Q _ => ∃ (p d : Addr) (f : LFt) (L : LSt) (w : Row), vs = [.ref p, .ref d] ∧ LedAt K C H p f L ∧ H d = some (.dK (rowK w)) ∧ (∀ th ∈ L.things, ∃ n, th = [n] ∧ n ∉ w.map (·.1)) ∧
  ∀ (m : Addr) (H' : Hp), H m = none → H' m = some (.dK []) → Same H H' → Q (.ref m) H'
theorem rowK_none {w : Row} {n : Str} (h : n ∉ w.map (·.1)) : valV (rowK w) (Sum.inr n) = none := by
  cases e : valV (rowK w) (Sum.inr n) with
  | none => rfl
  | some v =>
    have := valV_in e
    rw [rowK, List.map_map] at this
    obtain ⟨q, h1, h2⟩ := List.mem_map.mp this
    exact absurd (List.mem_map.mpr ⟨q, h1, Sum.inr.inj h2⟩) h
theorem ok_Ledger__marks_of (T : Top K mg) : FnOk P w K mg base CX0 1 T.a_Ledger__marks_of T.d_Ledger__marks_of ["self", "row"] (spMarks0 K T.C_Ledger) := by
  refine T.F_Ledger__marks_of.ok sc_Ledger__marks_of (fun vs H Q E h => ?_) (fun cdv A outer s H vs Q E hr h => ?_)
  · obtain ⟨p, d, f, L, w, rfl, _⟩ := h
    rfl
  obtain ⟨p, d, f, L, w, rfl, L0, hd, hno, k⟩ := h
  have hu := hu_of hr
  have hcl := T.cl_Ledger
  have hn1 := T.n_Ledger__things
  obtain ⟨ts, hth, hts⟩ := L0.th
  have hins := L0.ins
  have hlk := f.lkT
  refine ⟨_, (pss_cons (ps_set (i := 2) sc_Ledger__marks_of.nd rfl (Or.inl rfl) pe_dnewK)
    (pss_cons (ps_for PassesOwn.never rfl (pi_enum (by rfl) T.z_enumerate (pa_cons (pe_fld (pv 0) rfl) pa_nil)) (pg_tup rfl (pgs_cons (pg_name (i := 3) sc_Ledger__marks_of.nd rfl (Or.inl rfl)) (pgs_cons (pg_name (i := 4) sc_Ledger__marks_of.nd rfl (Or.inl rfl)) pgs_nil)))
    (pss_one (ps_if (pt_val (pe_callB (cr_all rfl) (by rfl) T.z_all (by decide +kernel) (pa_cons (pe_lc (own := [("field", 5)]) (g := gName 5) (tt := tYes) rfl sc_Ledger__marks_of.nd (pi_tup (pv 4)) (blkOk_by (own := [("field", 5)]) (N := n_Ledger__marks_of) (sc := defScope s_Ledger__marks_of) (by decide +kernel)) (fun _ _ _ _ _ => (pg_name (i := 5) sc_Ledger__marks_of.nd rfl (Or.inl rfl))) (fun _ _ _ _ _ => pts_nil) (fun _ _ _ _ _ => (pe_cmp (pc_din (hu_of hr) (pv 5) (pv 1)) rfl))) pa_nil))) (pss_one ps_never) pss_nil)))
    (pss_one (ps_ret (pv 2))))), ?_⟩
  refine fun m fm => ?_
  have s0 := same_new fm (.dK [])
  have hins1 := s0 _ _ hins
  have hth1 := s0 _ _ hth
  sizeOf_list_dec
  refine for_it walk_enum (fun i σ Hx => Hold (Same (upd H m (.dK [])) Hx ∧ ∃ u v z, σ = [some (.ref p), some (.ref d), some (.ref m), u, v, z])) ⟨Same.refl _, _, _, _, rfl⟩ (fun i σ Hx _ h => SqL.of (h.h.1 _ _ hth1)) ?_ ?_
  · rintro i x σ Hx H2 hi ⟨e, u, v, z, rfl⟩ ⟨Tp, y1, y2, rfl, fT, rfl, h1, h2⟩
    obtain ⟨a, ha, rfl⟩ := ref_get h2
    obtain ⟨th, h3, h4⟩ := pr_get hts ha
    obtain ⟨n, rfl, hnn⟩ := hno th (List.mem_of_getElem? h3)
    have hth4 : SqT K Hx a [V.str n] := Same.tup (s0.trans e) h4
    have hd2 : Hx d = some (.dK (rowK w)) := e _ _ (s0 _ _ hd)
    have hm2 : Hx m = some (.dK []) := e _ _ upd_same
    sizeOf_list_dec
    rename_i D fD
    have sT := same_new fT (.tup [y1, V.ref a])
    refine lc_tup (K := K) (a := a) (xs := [V.str n]) (fun j Hz => Hold (Same (upd Hx Tp (.tup [y1, V.ref a])) Hz ∧ Hz D = some (.lst (([false].take j).map V.bl)))) ⟨same_new fD _, upd_same⟩ (fun j Hz _ h => Same.tup (sT.trans h.h.1) hth4) ?_ ?_
    · rintro j x Hz hj ⟨ez, hD⟩
      match j, hj with
      | 0, hj =>
        obtain rfl : V.str n = x := Option.some.inj hj
        have hd3 := ez _ _ (sT _ _ hd2)
        refine ⟨rfl, _, rfl, _, rfl, _, _, rfl, DGet.k (k := Sum.inr n) hd3, _, hD, (by show 0 < sizeLine; decide), ⟨Same.mut ez fD _, ?_⟩⟩
        rw [upd_same, rowK_none hnn]
        rfl
      | j + 1, hj => cases hj
    · rintro Hz ⟨ez, hD⟩
      refine ⟨D, [false], rfl, SqL.of hD, _, rfl, iteF ?_⟩
      exact ⟨e.trans (sT.trans ez), _, _, _, rfl⟩
  · rintro σ Hx ⟨e, u, v, z, rfl⟩
    exact ⟨_, rfl, k _ _ fm (e _ _ upd_same) (s0.trans e)⟩

def spOffer0 (K : PySem.W.Frag) (C : Addr) : Sp := fun vs H Q _ => ∃ (p d : Addr) (f : LFt) (L : LSt) (w : Row), vs = [.ref p, .ref d] ∧ LedAt K C H p f L ∧ L.rows = [] ∧ H d = some (.dK (rowK w)) ∧ RowV w ∧ (w.map (·.1)).Nodup ∧ (∀ th ∈ L.things, ∃ n, th = [n] ∧ n ∉ w.map (·.1)) ∧
  ∀ (H' : Hp), Same H H' → Q .non H'
theorem ok_Ledger_offer (T : Top K mg) : FnOk P w K mg base CX0 6 T.a_Ledger_offer T.d_Ledger_offer ["self", "row"] (spOffer0 K T.C_Ledger) := by
  refine T.F_Ledger_offer.ok sc_Ledger_offer (fun vs H Q E h => ?_) (fun cdv A outer s H vs Q E hr h => ?_)
  · obtain ⟨p, d, f, L, w, rfl, _⟩ := h
    rfl
  obtain ⟨p, d, f, L, w, rfl, L0, hrow, hd, hw, nd, hno, k⟩ := h
  have hcl := T.cl_Ledger
  have hn1 := T.n_Ledger__rows
  obtain ⟨rs, hro, hrs⟩ := L0.ro
  rw [hrow] at hrs
  obtain rfl : rs = [] := List.eq_nil_of_length_eq_zero (pr_len hrs)
  have hins := L0.ins
  have hlk := f.lkR
  have hlm : f.fs.lookup ("_marks_of" : Str) = none := LFt.lkN (by decide +kernel)
  refine ⟨_, (pss_cons (ps_if (pt_not (pt_val (pe_call (ok_is_row T) (hr.mono (by decide)) rfl T.m_is_row T.F_is_row.kp T.b_is_row .nil pass0 (pa_cons (pv 1) pa_nil)))) (pss_one ps_never) pss_nil)
    (pss_cons (ps_set (i := 2) sc_Ledger_offer.nd rfl (Or.inr rfl) (pe_meth (pv 0) T.cl_Ledger T.M_Ledger__marks_of (ok_Ledger__marks_of T) (hr.mono (by decide)) T.b_Ledger__marks_of .nil pass0 (pa_cons (pv 1) pa_nil)))
    (pss_cons (ps_setLc (i := 3) (own := [("number", 6), ("elder", 7)]) (g := gTup K 2 (gCons (gName 6) (gCons (gName 7) gNil))) rfl sc_Ledger_offer.nd rfl rfl (sw_true rfl rfl rfl (by decide +kernel)) (pi_enum (by rfl) T.z_enumerate (pa_cons (pe_fld (pv 0) rfl) pa_nil)) (blkOk_by (own := [("number", 6), ("elder", 7)]) (N := n_Ledger_offer) (sc := defScope s_Ledger_offer) (by decide +kernel)) (fun _ _ _ _ _ => by exact (pg_tup rfl (pgs_cons (pg_name (i := 6) sc_Ledger_offer.nd rfl (Or.inl rfl)) (pgs_cons (pg_name (i := 7) sc_Ledger_offer.nd rfl (Or.inl rfl)) pgs_nil)))) (fun _ _ _ _ _ => (pts_one pt_never)) (fun _ _ _ _ _ => (pv 6)))
    (pss_cons (ps_setLc (i := 4) (own := [("number", 6)]) (g := gName 6) rfl sc_Ledger_offer.nd rfl rfl (sw_true rfl rfl rfl (by decide +kernel)) (pi_list (pv 3)) (blkOk_by (own := [("number", 6)]) (N := n_Ledger_offer) (sc := defScope s_Ledger_offer) (by decide +kernel)) (fun _ _ _ _ _ => (pg_name (i := 6) sc_Ledger_offer.nd rfl (Or.inl rfl))) (fun _ _ _ _ _ => (pts_one pt_never)) (fun _ _ _ _ _ => (pv 6)))
    (pss_cons (ps_setLc (i := 5) (own := [("number", 6)]) (g := gName 6) rfl sc_Ledger_offer.nd rfl rfl (sw_true rfl rfl rfl (by decide +kernel)) (pi_list (pv 3)) (blkOk_by (own := [("number", 6)]) (N := n_Ledger_offer) (sc := defScope s_Ledger_offer) (by decide +kernel)) (fun _ _ _ _ _ => (pg_name (i := 6) sc_Ledger_offer.nd rfl (Or.inl rfl))) (fun _ _ _ _ _ => (pts_one pt_never)) (fun _ _ _ _ _ => (pv 6)))
    (pss_cons (ps_if (PW.pt (pw_and (pt_cmpR op_gt (pe_callB call_len_seq (by rfl) T.z_len (by decide +kernel) (pa_cons (pv 4) pa_nil)) pe_int (nomark _)) (pw_and1 (pt_cmpR op_gt (pe_callB call_len_seq (by rfl) T.z_len (by decide +kernel) (pa_cons (pv 5) pa_nil)) pe_int (nomark _))))) (pss_one ps_never) pss_nil)
    (pss_one (ps_ret (pe_ifExp (pt_cmpR op_gt (pe_callB call_len_seq (by rfl) T.z_len (by decide +kernel) (pa_cons (pv 3) pa_nil)) pe_int (nomark _)) pe_never pe_non))))))))), ?_⟩
  sizeOf_list_dec
  rename_i H1 s1
  refine ⟨L0.mono s1, s1 _ _ hd, hno, fun m H2 fm hm s2 => ?_⟩
  have s12 := s1.trans s2
  have hins2 := s12 _ _ hins
  have hro2 := s12 _ _ hro
  clear hins hro
  sizeOf_list_dec
  rename_i D1 f1
  refine lc_it (walk_enum (K := K) (a := f.ro) (xs := ([] : List V))) (fun i Hx => Hold (Same H2 Hx ∧ Hx D1 = some (.lst []))) ⟨same_new f1 _, upd_same⟩ (fun i Hx _ h => SqL.of (h.h.1 _ _ hro2)) (fun i x Hx Hy hi => absurd hi (Nat.not_lt_zero i)) ?_
  rintro Hx ⟨e1, hD1⟩
  sizeOf_list_dec
  rename_i D2 f2
  refine lc_list (K := K) (a := D1) (xs := ([] : List V)) (fun i Hy => Hold (Same Hx Hy ∧ Hy D2 = some (.lst []))) ⟨same_new f2 _, upd_same⟩ (fun i Hy _ h => SqL.of (h.h.1 _ _ hD1)) (fun i x Hy hi => nomatch hi) ?_
  rintro Hy ⟨e2, hD2⟩
  have hD1y := e2 _ _ hD1
  sizeOf_list_dec
  rename_i D3 f3
  refine lc_list (K := K) (a := D1) (xs := ([] : List V)) (fun i Hz => Hold (Same Hy Hz ∧ Hz D3 = some (.lst []))) ⟨same_new f3 _, upd_same⟩ (fun i Hz _ h => SqL.of (h.h.1 _ _ hD1y)) (fun i x Hz hi => nomatch hi) ?_
  rintro Hz ⟨e3, hD3⟩
  have hD2z := e3 _ _ hD2
  have hD1z := e3 _ _ hD1y
  sizeOf_list_dec
  exact k _ (s12.trans (e1.trans (e2.trans e3)))

@[irreducible] def spAdd0 (K : PySem.W.Frag) (C : Addr) : Sp := fun vs H Q _ => ∃ (p d : Addr) (z : Str) (f : LFt) (L : LSt) (w : Row), vs = [.ref p, .ref d, .str z] ∧ lotB z = true ∧ LedAt K C H p f L ∧ L.rows = [] ∧ L.sides = [] ∧ H d = some (.dK (rowK w)) ∧ RowV w ∧ (w.map (·.1)).Nodup ∧
  (∀ th ∈ L.things, ∃ n, th = [n] ∧ n ∉ w.map (·.1)) ∧
  ∀ (au : Addr) (H' : Hp), LedAt K C H' p { f with un := au } ⟨L.things, [w], [z], []⟩ → Fr (f.wr p) H H' → H au = none → Q (.str z) H'
theorem lot_in {z : Str} (h : lotB z = true) : inV (.str z) [.str "learn", .str "judge"] = true := by
  rcases Bool.or_eq_true_iff.mp h with h | h
  · rw [of_decide_eq_true h]
    decide +kernel
  · rw [of_decide_eq_true h]
    decide +kernel
theorem ok_Ledger_add (T : Top K mg) : FnOk P w K mg base CX0 8 T.a_Ledger_add T.d_Ledger_add ["self", "row", "side"] (spAdd0 K T.C_Ledger) := by
  refine T.F_Ledger_add.ok sc_Ledger_add (fun vs H Q E h => ?_) (fun cdv A outer s H vs Q E hr h => ?_)
  · unfold spAdd0 at h
    obtain ⟨p, d, z, f, L, w, rfl, _⟩ := h
    rfl
  unfold spAdd0 at h
  obtain ⟨p, d, z, f, L, w, rfl, hz, L0, hrow, hsid, hd, hw, nd, hno, k⟩ := h
  have hcl := T.cl_Ledger
  have hcr := T.cr_Ledger
  have hcv := T.cv_Ledger_MOST
  have hn1 := T.n_Ledger__rows
  have hn2 := T.n_Ledger__sides
  have hn3 := T.n_Ledger__undone
  obtain ⟨rs, hro, hrs⟩ := L0.ro
  rw [hrow] at hrs
  obtain rfl : rs = [] := List.eq_nil_of_length_eq_zero (pr_len hrs)
  have hsi := L0.si
  rw [hsid] at hsi
  have hins := L0.ins
  have hlkR := f.lkR
  have hlkS := f.lkS
  have hlkU := f.lkU
  have hlo : f.fs.lookup ("offer" : Str) = none := LFt.lkN (by decide +kernel)
  have hlots := T.q_LOTS H
  have hin := lot_in hz
  have hnin : (!inV (.str z) [.str "learn", .str "judge"]) = false := by rw [hin]; rfl
  refine ⟨_, (pss_cons (ps_if (PW.pt (pw_and (pt_cmpR op_notN (pv 2) pe_non (nomark _)) (pw_and1 (pt_cmpR op_notIn_seq (pv 2) (pe_glob rfl T.c_LOTS T.r_LOTS) rfl)))) (pss_one ps_never) pss_nil)
    (pss_cons (ps_if (pt_cmpR op_ge (pe_callB call_len_seq (by rfl) T.z_len (by decide +kernel) (pa_cons (pe_fld (pv 0) rfl) pa_nil)) (ClX.pe_cval (pe_glob (v := .ref T.C_Ledger) rfl T.mc_Ledger rfl)) (nomark _)) (pss_one ps_never) pss_nil)
    (pss_cons (ps_set (i := 3) sc_Ledger_add.nd rfl (Or.inl rfl) (pe_meth (pv 0) T.cl_Ledger T.M_Ledger_offer (ok_Ledger_offer T) (hr.mono (by decide)) T.b_Ledger_offer .nil pass0 (pa_cons (pv 1) pa_nil)))
    (pss_cons (ps_if (pt_cmpR op_isN (pv 3) pe_non (nomark _)) (pss_one (ps_set (i := 4) sc_Ledger_add.nd rfl (Or.inl rfl) (pe_ifExp (pt_cmpR op_isN (pv 2) pe_non (nomark _)) pe_never (pv 2)))) (pss_one (ps_if pt_never (pss_one (ps_set (i := 4) sc_Ledger_add.nd rfl (Or.inl rfl) (pv 3))) (pss_one ps_never))))
    (pss_cons (ps_expr (pe_bm PySem.F.plainAttrs_list PySem.F.slot_list_append PySem.F.type_list_append mt_append (pe_fld (pv 0) rfl) (pa_cons (pe_callTy call_dictD (by rfl) T.z_dict (by decide +kernel) (pa_cons (pv 1) pa_nil)) pa_nil)))
    (pss_cons (ps_expr (pe_bm PySem.F.plainAttrs_list PySem.F.slot_list_append PySem.F.type_list_append mt_append (pe_fld (pv 0) rfl) (pa_cons (pv 4) pa_nil)))
    (pss_cons (ps_fld (pv 0) (pe_lst pa_nil) rfl)
    (pss_one (ps_ret (pv 4)))))))))), ?_⟩
  sizeOf_list_dec
  refine gF hnin ?_
  sizeOf_list_dec
  rename_i H1 s1
  have hd1 := s1 _ _ hd
  have hins1 := s1 _ _ hins
  have hro1 := s1 _ _ hro
  have hsi1 := s1 _ _ hsi
  clear hins hro hsi
  have hrd := Rd.of hd1
  sizeOf_list_dec
  refine ⟨.inl ⟨rfl, _, SqL.of hro1⟩, ?_⟩
  obtain ⟨n1, n2, n3, n4, n5, n6, n7, n8, n9, n10⟩ := L0.ne
  refine ⟨_, rfl, d, _, rfl, hrd, fun r fr => ?_⟩
  have F0 : Fr (f.wr p) H _ := (Fr.of s1).new fr (o := .dK (rowK w))
  have s2 := same_new fr (.dK (rowK w))
  have hins2 := s2 _ _ hins1
  have hro2 := s2 _ _ hro1
  have hsi2 := s2 _ _ hsi1
  have hr2 : upd H1 r (.dK (rowK w)) r = some (.dK (rowK w)) := upd_same
  have hth : ∃ ts : List Addr, upd H1 r (.dK (rowK w)) f.th = some (.lst (ts.map V.ref)) ∧ PySem.Paired (ThOk K (upd H1 r (.dK (rowK w)))) ts L.things := ((L0.mono s1).mono s2).th
  have hli : ∀ x ∈ f.wr p, ListIns (upd H1 r (.dK (rowK w))) x := fun x hx => ((L0.mono s1).mono s2).li x (LFt.wr_all hx)
  have hun : ∃ o, upd H1 r (.dK (rowK w)) f.un = some o := ⟨_, ((L0.mono s1).mono s2).un.choose_spec.1⟩
  generalize upd H1 r (.dK (rowK w)) = G at *
  refine ⟨f.ro, [], .ref r, rfl, rfl, hro2, (by show 0 < sizeLine; decide), ?_⟩
  have hins3 : upd G f.ro (.lst ([] ++ [V.ref r])) p = _ := (upd_ne n2).trans hins2
  have hsi3 : upd G f.ro (.lst ([] ++ [V.ref r])) f.si = _ := (upd_ne n8.symm).trans hsi2
  sizeOf_list_dec
  refine ⟨.inl ⟨rfl, _, SqL.of hsi3⟩, ?_⟩
  refine ⟨_, rfl, f.si, [], .str z, rfl, rfl, hsi3, (by show 0 < sizeLine; decide), ?_⟩
  refine ⟨by show 0 ≤ sizeLine; decide, fun au fa => ?_⟩
  have hins4 : upd (upd G f.ro (.lst ([] ++ [V.ref r]))) f.si (.lst ([] ++ [V.str z])) p = _ := (upd_ne n3).trans hins3
  have hpa : p ≠ au := ne_of_none hins4 fa
  have hra : f.ro ≠ au := ne_of_none (by rw [upd_ne n8]; exact upd_same) fa
  have hsa : f.si ≠ au := ne_of_none upd_same fa
  have hta : f.th ≠ au := ne_of_none (by rw [upd_ne n6, upd_ne n5]; exact hth.choose_spec.1) fa
  have hua : f.un ≠ au := ne_of_none (by rw [upd_ne n10.symm, upd_ne n9.symm]; exact hun.choose_spec) fa
  sizeOf_list_dec
  refine ⟨by show 4 < 1000; decide, ?_⟩
  have m1 : p ∈ f.wr p := by simp [LFt.wr]
  have m2 : f.ro ∈ f.wr p := by simp [LFt.wr]
  have m3 : f.si ∈ f.wr p := by simp [LFt.wr]
  have F4 : Fr (f.wr p) G _ := ((((Fr.of (Same.refl G)).put m2 (o := .lst ([] ++ [V.ref r]))).put m3 (o := .lst ([] ++ [V.str z]))).new fa (o := .lst [])).put m1 (o := .ins T.C_Ledger f.dx (putF "_undone" (V.ref au) f.fs))
  refine ⟨_, rfl, k au _ ⟨?_, ?_, ⟨[r], ?_, .cons (fr_dk F4 hli hr2) .nil⟩, ?_, ⟨[], ?_, .nil⟩, ?_⟩ (F0.trans F4) ?_⟩
  · rw [upd_same, LFt.putU]
  · obtain ⟨ts, h1, h2⟩ := hth
    refine ⟨ts, ?_, fr_th F4 hli h2⟩
    rw [upd_ne n1.symm, upd_ne hta, upd_ne n6, upd_ne n5]
    exact h1
  · rw [upd_ne n2.symm, upd_ne hra, upd_ne n8]
    exact upd_same
  · rw [upd_ne n3.symm, upd_ne hsa]
    exact upd_same
  · rw [upd_ne hpa.symm]
    exact upd_same
  · simp [LFt.all, n1, n2, n3, n5, n6, n8, hpa, hra, hsa, hta]
  · refine ((F0.put m2 (o := .lst ([] ++ [V.ref r]))).put m3 (o := .lst ([] ++ [V.str z]))).free fa ?_
    simp [LFt.wr, hpa.symm, hra.symm, hsa.symm, hua.symm]

theorem pr_snoc {α β : Type} {R : α → β → Prop} {b : β} : ∀ {m : List β} {l : List α}, PySem.Paired R l (m ++ [b]) → ∃ l' a, l = l' ++ [a] ∧ PySem.Paired R l' m ∧ R a b
  | [], l, h => by
    cases h with
    | cons r t =>
      cases t
      exact ⟨[], _, rfl, .nil, r⟩
  | c :: m, l, h => by
    cases h with
    | cons r t =>
      obtain ⟨l', a, rfl, h1, h2⟩ := pr_snoc t
      exact ⟨_ :: l', a, rfl, .cons r h1, h2⟩
theorem pr_app {α β : Type} {R : α → β → Prop} {l l' : List α} {m m' : List β} (h : PySem.Paired R l m) (k : PySem.Paired R l' m') : PySem.Paired R (l ++ l') (m ++ m') := by
  induction h with
  | nil => exact k
  | cons r _ ih => exact .cons r ih
theorem last_get {α : Type} {l : List α} {a : α} : (l ++ [a])[(l ++ [a]).length - 1]? = some a := by
  rw [List.length_append]
  simp
@[irreducible] def spUndo (K : PySem.W.Frag) (C : Addr) : Sp := fun vs H Q _ => ∃ (p : Addr) (f : LFt) (L : LSt) (R : List Row) (S : List Str) (w : Row) (z : Str), vs = [.ref p] ∧ LedAt K C H p f L ∧ L.rows = R ++ [w] ∧ L.sides = S ++ [z] ∧ L.undone.length ≤ 1000 ∧
  ∀ (H' : Hp), LedAt K C H' p f ⟨L.things, R, S, L.undone ++ [(w, z)]⟩ → Fr (f.wr p) H H' → Q .non H'
theorem ok_Ledger_undo (T : Top K mg) : FnOk P w K mg base CX0 1 T.a_Ledger_undo T.d_Ledger_undo ["self"] (spUndo K T.C_Ledger) := by
  refine T.F_Ledger_undo.ok sc_Ledger_undo (fun vs H Q E h => ?_) (fun cdv A outer s H vs Q E hr h => ?_)
  · unfold spUndo at h
    obtain ⟨p, f, L, R, S, w, z, rfl, _⟩ := h
    rfl
  unfold spUndo at h
  obtain ⟨p, f, L, R, S, w, z, rfl, L0, hR, hS, hul, k⟩ := h
  have hcl := T.cl_Ledger
  have hn1 := T.n_Ledger__rows
  have hn2 := T.n_Ledger__sides
  have hn3 := T.n_Ledger__undone
  obtain ⟨rs, hro, hrs⟩ := L0.ro
  rw [hR] at hrs
  obtain ⟨rs, r, rfl, hrs, hw⟩ := pr_snoc hrs
  have hsi := L0.si
  rw [hS, List.map_append] at hsi
  obtain ⟨us, hun, hus⟩ := L0.un
  rw [List.map_append] at hro
  have hins := L0.ins
  have hlkR := f.lkR
  have hlkS := f.lkS
  have hlkU := f.lkU
  obtain ⟨n1, n2, n3, n4, n5, n6, n7, n8, n9, n10⟩ := L0.ne
  refine ⟨_, (pss_cons (ps_if (pt_cmpR op_eq (pe_callB call_len_seq (by rfl) T.z_len (by decide +kernel) (pa_cons (pe_fld (pv 0) rfl) pa_nil)) pe_int (nomark _)) (pss_one ps_never) pss_nil)
    (pss_one (ps_expr (pe_bm PySem.F.plainAttrs_list PySem.F.slot_list_append PySem.F.type_list_append mt_append (pe_fld (pv 0) rfl) (pa_cons (pe_tup (pa_cons (pe_bm0 PySem.F.plainAttrs_list PySem.F.slot_list_pop PySem.F.type_list_pop mt_pop (pe_fld (pv 0) rfl)) (pa_cons (pe_bm0 PySem.F.plainAttrs_list PySem.F.slot_list_pop PySem.F.type_list_pop mt_pop (pe_fld (pv 0) rfl)) pa_nil))) pa_nil))))), ?_⟩
  have z1 : decide (V.int ((rs.map V.ref ++ [V.ref r]).length : Int) = V.int 0) = false := decide_eq_false (fun z => by have := V.int.inj z; rw [List.length_append] at this; simp at this; omega)
  refine ⟨_, rfl, p, _, _, _, _, rfl, hins, hcl, hn1, hlkR, f.ro, _, rfl, .inl (SqL.of hro), ?_⟩
  refine ⟨rfl, _, rfl, gF z1 ?_⟩
  refine ⟨_, rfl, p, _, _, _, _, rfl, hins, hcl, hn3, hlkU, .inl ⟨rfl, _, SqL.of hun⟩, ?_⟩
  refine ⟨_, rfl, p, _, _, _, _, rfl, hins, hcl, hn1, hlkR, .inl ⟨rfl, _, SqL.of hro⟩, ?_⟩
  refine ⟨f.ro, rs.map V.ref ++ [V.ref r], .ref r, rfl, rfl, hro, last_get, ?_⟩
  have hins1 : upd H f.ro (.lst (rs.map V.ref ++ [V.ref r]).dropLast) p = _ := (upd_ne n2).trans hins
  have hsi1 : upd H f.ro (.lst (rs.map V.ref ++ [V.ref r]).dropLast) f.si = _ := (upd_ne n8.symm).trans hsi
  refine ⟨_, rfl, p, _, _, _, _, rfl, hins1, hcl, hn2, hlkS, .inl ⟨rfl, _, SqL.of hsi1⟩, ?_⟩
  refine ⟨f.si, S.map V.str ++ [V.str z], .str z, rfl, rfl, hsi1, last_get, ?_⟩
  refine ⟨by show 2 ≤ sizeLine; decide, fun t ft => ?_⟩
  have hun2 : upd (upd H f.ro (.lst (rs.map V.ref ++ [V.ref r]).dropLast)) f.si (.lst (S.map V.str ++ [V.str z]).dropLast) f.un = _ := (upd_ne n10.symm).trans ((upd_ne n9.symm).trans hun)
  have nut : f.un ≠ t := ne_of_none hun2 ft
  have nrt : f.ro ≠ t := ne_of_none (by rw [upd_ne n8]; exact upd_same) ft
  have nst : f.si ≠ t := ne_of_none upd_same ft
  have npt : p ≠ t := ne_of_none (by rw [upd_ne n3]; exact hins1) ft
  obtain ⟨ts, hth, hts⟩ := L0.th
  have ntt : f.th ≠ t := ne_of_none (by rw [upd_ne n6, upd_ne n5]; exact hth) ft
  have hul2 : us.length = L.undone.length := pr_len hus
  refine ⟨f.un, us.map V.ref, .ref t, rfl, rfl, (upd_ne nut).trans hun2, small' (by rw [List.length_map]; omega), ?_⟩
  have m2 : f.ro ∈ f.wr p := by simp [LFt.wr]
  have m3 : f.si ∈ f.wr p := by simp [LFt.wr]
  have m4 : f.un ∈ f.wr p := by simp [LFt.wr]
  have F4 : Fr (f.wr p) H _ := ((((Fr.of (Same.refl H)).put m2 (o := .lst (rs.map V.ref ++ [V.ref r]).dropLast)).put m3 (o := .lst (S.map V.str ++ [V.str z]).dropLast)).new ft (o := .tup [V.ref r, V.str z])).put m4 (o := .lst (us.map V.ref ++ [V.ref t]))
  have hli : ∀ x ∈ f.wr p, ListIns H x := fun x hx => L0.li x (LFt.wr_all hx)
  refine k _ ⟨?_, ⟨ts, ?_, fr_th F4 hli hts⟩, ⟨rs, ?_, fr_ro F4 hli hrs⟩, ?_, ⟨us ++ [t], ?_, pr_app (fr_un F4 hli hus) (.cons ⟨r, .inl (.inl ?_), fr_dk F4 hli hw⟩ .nil)⟩, L0.nd⟩ F4
  · rw [upd_ne n4, upd_ne npt, upd_ne n3, upd_ne n2]
    exact hins
  · rw [upd_ne n7, upd_ne ntt, upd_ne n6, upd_ne n5]
    exact hth
  · rw [upd_ne n9, upd_ne nrt, upd_ne n8, upd_same, List.dropLast_concat]
  · rw [upd_ne n10, upd_ne nst, upd_same, List.dropLast_concat]
  · rw [upd_same, List.map_append]
    rfl
  · rw [upd_ne nut.symm]
    exact upd_same
@[irreducible] def spRedo (K : PySem.W.Frag) (C : Addr) : Sp := fun vs H Q _ => ∃ (p : Addr) (f : LFt) (L : LSt) (U : List (Row × Str)) (w : Row) (z : Str), vs = [.ref p] ∧ LedAt K C H p f L ∧ L.undone = U ++ [(w, z)] ∧ L.rows.length ≤ 1000 ∧ L.sides.length ≤ 1000 ∧
  ∀ (H' : Hp), LedAt K C H' p f ⟨L.things, L.rows ++ [w], L.sides ++ [z], U⟩ → Fr (f.wr p) H H' → Q .non H'
theorem ok_Ledger_redo (T : Top K mg) : FnOk P w K mg base CX0 1 T.a_Ledger_redo T.d_Ledger_redo ["self"] (spRedo K T.C_Ledger) := by
  refine T.F_Ledger_redo.ok sc_Ledger_redo (fun vs H Q E h => ?_) (fun cdv A outer s H vs Q E hr h => ?_)
  · unfold spRedo at h
    obtain ⟨p, f, L, U, w, z, rfl, _⟩ := h
    rfl
  unfold spRedo at h
  obtain ⟨p, f, L, U, w, z, rfl, L0, hU, hl1, hl2, k⟩ := h
  have hcl := T.cl_Ledger
  have hn1 := T.n_Ledger__rows
  have hn2 := T.n_Ledger__sides
  have hn3 := T.n_Ledger__undone
  obtain ⟨rs, hro, hrs⟩ := L0.ro
  have hsi := L0.si
  obtain ⟨us, hun, hus⟩ := L0.un
  rw [hU] at hus
  obtain ⟨us, t, rfl, hus, r, ht, hw⟩ := pr_snoc hus
  rw [List.map_append] at hun
  obtain ⟨ts, hth, hts⟩ := L0.th
  have hins := L0.ins
  have hlkR := f.lkR
  have hlkS := f.lkS
  have hlkU := f.lkU
  obtain ⟨n1, n2, n3, n4, n5, n6, n7, n8, n9, n10⟩ := L0.ne
  have hli : ∀ x ∈ f.wr p, ListIns H x := fun x hx => L0.li x (LFt.wr_all hx)
  refine ⟨_, (pss_cons (ps_if (pt_cmpR op_eq (pe_callB call_len_seq (by rfl) T.z_len (by decide +kernel) (pa_cons (pe_fld (pv 0) rfl) pa_nil)) pe_int (nomark _)) (pss_one ps_never) pss_nil)
    (pss_cons (ps_asg (pe_bm0 PySem.F.plainAttrs_list PySem.F.slot_list_pop PySem.F.type_list_pop mt_pop (pe_fld (pv 0) rfl)) (pg_tup rfl (pgs_cons (pg_name (i := 1) sc_Ledger_redo.nd rfl (Or.inl rfl)) (pgs_cons (pg_name (i := 2) sc_Ledger_redo.nd rfl (Or.inl rfl)) pgs_nil))))
    (pss_cons (ps_expr (pe_bm PySem.F.plainAttrs_list PySem.F.slot_list_append PySem.F.type_list_append mt_append (pe_fld (pv 0) rfl) (pa_cons (pv 1) pa_nil)))
    (pss_one (ps_expr (pe_bm PySem.F.plainAttrs_list PySem.F.slot_list_append PySem.F.type_list_append mt_append (pe_fld (pv 0) rfl) (pa_cons (pv 2) pa_nil))))))), ?_⟩
  have z1 : decide (V.int ((us.map V.ref ++ [V.ref t]).length : Int) = V.int 0) = false := decide_eq_false (fun z => by have := V.int.inj z; rw [List.length_append] at this; simp at this; omega)
  refine ⟨_, rfl, p, _, _, _, _, rfl, hins, hcl, hn3, hlkU, f.un, _, rfl, .inl (SqL.of hun), ?_⟩
  refine ⟨rfl, _, rfl, gF z1 ?_⟩
  refine ⟨_, rfl, p, _, _, _, _, rfl, hins, hcl, hn3, hlkU, .inl ⟨rfl, _, SqL.of hun⟩, ?_⟩
  refine ⟨f.un, us.map V.ref ++ [V.ref t], .ref t, rfl, rfl, hun, last_get, ?_⟩
  have m1 : p ∈ f.wr p := by simp [LFt.wr]
  have m2 : f.ro ∈ f.wr p := by simp [LFt.wr]
  have m3 : f.si ∈ f.wr p := by simp [LFt.wr]
  have m4 : f.un ∈ f.wr p := by simp [LFt.wr]
  have F1 : Fr (f.wr p) H _ := (Fr.of (Same.refl H)).put m4 (o := .lst (us.map V.ref ++ [V.ref t]).dropLast)
  have ht1 := fr_tup F1 hli ht
  refine ⟨t, _, rfl, ht1, rfl, ?_⟩
  have hins1 : upd H f.un (.lst (us.map V.ref ++ [V.ref t]).dropLast) p = _ := (upd_ne n4).trans hins
  have hro1 : upd H f.un (.lst (us.map V.ref ++ [V.ref t]).dropLast) f.ro = _ := (upd_ne n9).trans hro
  have hsi1 : upd H f.un (.lst (us.map V.ref ++ [V.ref t]).dropLast) f.si = _ := (upd_ne n10).trans hsi
  have hrl : rs.length = L.rows.length := pr_len hrs
  sizeOf_list_dec
  refine ⟨.inl ⟨rfl, _, SqL.of hro1⟩, _, rfl, f.ro, _, _, rfl, rfl, hro1, small' (by rw [List.length_map]; omega), ?_⟩
  have hins2 : upd (upd H f.un (.lst (us.map V.ref ++ [V.ref t]).dropLast)) f.ro (.lst (rs.map V.ref ++ [V.ref r])) p = _ := (upd_ne n2).trans hins1
  have hsi2 : upd (upd H f.un (.lst (us.map V.ref ++ [V.ref t]).dropLast)) f.ro (.lst (rs.map V.ref ++ [V.ref r])) f.si = _ := (upd_ne n8.symm).trans hsi1
  sizeOf_list_dec
  refine ⟨.inl ⟨rfl, _, SqL.of hsi2⟩, _, rfl, f.si, _, _, rfl, rfl, hsi2, small' (by rw [List.length_map]; omega), ?_⟩
  have F4 : Fr (f.wr p) H _ := (F1.put m2 (o := .lst (rs.map V.ref ++ [V.ref r]))).put m3 (o := .lst (L.sides.map V.str ++ [V.str z]))
  refine k _ ⟨?_, ⟨ts, ?_, fr_th F4 hli hts⟩, ⟨rs ++ [r], ?_, pr_app (fr_ro F4 hli hrs) (.cons (fr_dk F4 hli hw) .nil)⟩, ?_, ⟨us, ?_, fr_un F4 hli hus⟩, L0.nd⟩ F4
  · rw [upd_ne n3, upd_ne n2, upd_ne n4]
    exact hins
  · rw [upd_ne n6, upd_ne n5, upd_ne n7]
    exact hth
  · rw [upd_ne n8, upd_same, List.map_append]
    rfl
  · rw [upd_same, List.map_append]
    rfl
  · rw [upd_ne n10.symm, upd_ne n9.symm, upd_same, List.dropLast_concat]

/-- of names and lots, rows with different keys -/
structure LOk (L : LSt) : Prop where
  th : ∀ th ∈ L.things, ∀ z ∈ th, nameB z = true
  ro : ∀ w ∈ L.rows, (w.map (·.1)).Nodup
  si : ∀ z ∈ L.sides, lotB z = true
def spEqL (K : PySem.W.Frag) (C : Addr) : Sp := fun vs H Q _ => ∃ (p q : Addr) (f : LFt) (L : LSt), vs = [.ref p, .ref q] ∧ LedAt K C H p f L ∧ LOk L ∧
  ((∃ f' L', LedAt K C H q f' L' ∧ LOk L' ∧ (L.things = L'.things → L.rows = L'.rows) ∧ Q (.bl (decide (L.things = L'.things) && decide (L.sides = L'.sides))) H) ∨
    (∃ xs, H q = some (.lst xs) ∧ Q (.bl false) H))
theorem ok_Ledger___eq__ (T : Top K mg) : FnOk P w K mg base CX0 1 T.a_Ledger___eq__ T.d_Ledger___eq__ ["self", "other"] (spEqL K T.C_Ledger) := by
  refine T.F_Ledger___eq__.ok sc_Ledger___eq__ (fun vs H Q E h => ?_) (fun cdv A outer s H vs Q E hr h => ?_)
  · obtain ⟨p, q, f, L, rfl, _⟩ := h
    rfl
  obtain ⟨p, q, f, L, rfl, L0, K0, h⟩ := h
  have hcl := T.cl_Ledger
  have hn1 := T.n_Ledger__things
  have hn2 := T.n_Ledger__rows
  have hn3 := T.n_Ledger__sides
  refine ⟨_, (pss_one (ps_ret (pe_and (pe_callB call_isi (by rfl) T.z_isinstance (by decide +kernel) (pa_cons (pv 1) (pa_cons (pe_glob (v := .ref T.C_Ledger) rfl T.mc_Ledger rfl) pa_nil))) (pe_and (pe_cmpR (op_eqD hr.units) (pe_fld (pv 0) rfl) (pe_fld (pv 1) rfl) (nomark _)) (pe_and (pe_cmpR (op_eqV hr.units) (pe_fld (pv 0) rfl) (pe_fld (pv 1) rfl) (nomark _)) (pe_one (pe_cmpR (op_eqD hr.units) (pe_fld (pv 0) rfl) (pe_fld (pv 1) rfl) (nomark _)))))))), ?_⟩
  rcases h with ⟨f', L', M0, M1, hro, k⟩ | ⟨xs, hq, k⟩
  · obtain ⟨ts, hth, hts⟩ := L0.th
    obtain ⟨ts', hth', hts'⟩ := M0.th
    obtain ⟨rs, hrs, hrp⟩ := L0.ro
    obtain ⟨rs', hrs', hrp'⟩ := M0.ro
    refine ⟨_, rfl, _, _, _, _, _, rfl, .own _, ty_own T.is_Ledger M0.ins, T.is_Ledger.me, _, rfl, iteT ?_⟩
    refine ⟨_, rfl, p, _, _, _, _, rfl, L0.ins, hcl, hn1, f.lkT, _, rfl, q, _, _, _, _, rfl, M0.ins, hcl, hn1, f'.lkT, ?_⟩
    refine ⟨_, _, dp_th (SqL.of hth) hts, dp_th (SqL.of hth') hts', shaped_th fun th ht z hz => okS_name (K0.th th ht z hz), shaped_th fun th ht z hz => okS_name (M1.th th ht z hz), _, rfl, ?_⟩
    rw [eqv_th]
    by_cases e : L.things = L'.things
    · rw [decide_eq_true e] at k ⊢
      rw [Bool.true_and] at k
      refine iteT ?_
      have er := hro e
      rw [← er] at hrp'
      refine ⟨_, rfl, p, _, _, _, _, rfl, L0.ins, hcl, hn2, f.lkR, _, rfl, q, _, _, _, _, rfl, M0.ins, hcl, hn2, f'.lkR, ?_⟩
      refine ⟨3, by decide, rows_eq (SqL.of hrs) (SqL.of hrs') hrp hrp' K0.ro, _, rfl, iteT ?_⟩
      refine ⟨_, rfl, p, _, _, _, _, rfl, L0.ins, hcl, hn3, f.lkS, _, rfl, q, _, _, _, _, rfl, M0.ins, hcl, hn3, f'.lkS, ?_⟩
      refine ⟨_, _, dp_si (SqL.of L0.si), dp_si (SqL.of M0.si), shaped_si fun z hz => okS_lot (K0.si z hz), shaped_si fun z hz => okS_lot (M1.si z hz), ?_⟩
      rw [eqv_si]
      exact k
    · rw [decide_eq_false e] at k ⊢
      exact iteF k
  · refine ⟨_, rfl, _, _, _, _, _, rfl, .own _, .base (.lst hq), own_kit T.ob_Ledger (by decide), _, rfl, iteF k⟩

/-! what the law asks of two ledgers, and what it does with one -/
theorem eq_led (T : Top K mg) {H : Hp} {p q : Addr} {f f' : LFt} {L L' : LSt} {Q : VK} {E : XK} (A : LedAt K T.C_Ledger H p f L) (B : LedAt K T.C_Ledger H q f' L') (KA : LOk L) (KB : LOk L') (hr : L.things = L'.things → L.rows = L'.rows) {b : Bool}
    (hb : (decide (L.things = L'.things) && decide (L.sides = L'.sides)) = b) (k : Q (.bl b) H) : rOwnI K T.C_Ledger (spEqL K T.C_Ledger) E (.ref p) (.ref q) H Q := by
  unfold rOwnI
  exact ⟨p, _, _, _, rfl, A.ins, ty_own T.is_Ledger B.ins, own_me T.ob_Ledger, p, q, f, L, rfl, A, KA, .inl ⟨f', L', B, KB, hr, hb ▸ k⟩⟩
theorem eq_led_list (T : Top K mg) {H : Hp} {p q : Addr} {f : LFt} {L : LSt} {Q : VK} {E : XK} {xs : List V} (A : LedAt K T.C_Ledger H p f L) (KA : LOk L) (hq : H q = some (.lst xs)) (k : Q (.bl false) H) : rOwnI K T.C_Ledger (spEqL K T.C_Ledger) E (.ref p) (.ref q) H Q := by
  unfold rOwnI
  exact ⟨p, _, _, _, rfl, A.ins, .base (.lst hq), own_nf T.ob_Ledger (by decide), p, q, f, L, rfl, A, KA, .inr ⟨xs, hq, k⟩⟩

theorem add_led {C p d : Addr} {H : Hp} {f : LFt} {ths : List (List Str)} {U : List (Row × Str)} {w : Row} {z : Str} {Q : VK} {E : XK} (A : LedAt K C H p f ⟨ths, [], [], U⟩) (hd : H d = some (.dK (rowK w))) (hz : lotB z = true) (hw : RowV w) (nd : (w.map (·.1)).Nodup)
    (hno : ∀ th ∈ ths, ∃ n, th = [n] ∧ n ∉ w.map (·.1)) (k : ∀ (au : Addr) (H' : Hp), LedAt K C H' p { f with un := au } ⟨ths, [w], [z], []⟩ → Fr (f.wr p) H H' → H au = none → Q (.str z) H') : spAdd0 K C [.ref p, .ref d, .str z] H Q E := by
  unfold spAdd0
  exact ⟨p, d, z, f, _, w, rfl, hz, A, rfl, rfl, hd, hw, nd, hno, k⟩
theorem undo_led {C p : Addr} {H : Hp} {f : LFt} {ths : List (List Str)} {w : Row} {z : Str} {Q : VK} {E : XK} (A : LedAt K C H p f ⟨ths, [w], [z], []⟩) (k : ∀ H', LedAt K C H' p f ⟨ths, [], [], [(w, z)]⟩ → Fr (f.wr p) H H' → Q .non H') : spUndo K C [.ref p] H Q E := by
  unfold spUndo
  exact ⟨p, f, _, [], [], w, z, rfl, A, rfl, rfl, (by show 0 ≤ 1000; decide), k⟩
theorem redo_led {C p : Addr} {H : Hp} {f : LFt} {ths : List (List Str)} {w : Row} {z : Str} {Q : VK} {E : XK} (A : LedAt K C H p f ⟨ths, [], [], [(w, z)]⟩) (k : ∀ H', LedAt K C H' p f ⟨ths, [w], [z], []⟩ → Fr (f.wr p) H H' → Q .non H') : spRedo K C [.ref p] H Q E := by
  unfold spRedo
  exact ⟨p, f, _, [], w, z, rfl, A, rfl, (by show 0 ≤ 1000; decide), (by show 0 ≤ 1000; decide), k⟩
end
end Bl

namespace Bl
open PySem L2
open SX (S)
/-! short words: array_get_dec closes a side condition; array_mem_dec goes one step into a reading; sizeOf_list_dec goes on while it can -/
local macro_rules | `(tactic| array_get_dec) => `(tactic| first
  | (with_reducible assumption)
  | ((with_reducible apply Bl.gEq); first
    | rfl
    | assumption
    | exact upd_same
    | (with_reducible exact kit_d some_str)
    | (with_reducible exact kit_d some_int)
    | (with_reducible exact kit_d some_bool)
    | (with_reducible exact kit_d some_list)
    | (with_reducible exact kit_d some_tuple)
    | ((with_reducible apply Bl.get_new); assumption; array_get_dec)
    | ((with_reducible apply Bl.get_tr); assumption; array_get_dec)
    )
  | ((with_reducible apply Bl.gLe); first
    | omega
    | exact small (by omega)
    | exact small (by simp only [List.length_cons, List.length_nil]; decide)
    | exact small (by simp only [List.length_append, List.length_cons, List.length_nil]; omega)
    | decide)
  | ((with_reducible apply Bl.gLt); first
    | omega
    | exact small' (by omega)
    | exact small' (by simp only [List.length_cons, List.length_nil]; decide)
    | decide)
  | ((fail_if_success (with_reducible apply Bl.gEq)); (fail_if_success (with_reducible apply Bl.gLe)); (fail_if_success (with_reducible apply Bl.gLt)); first
    | assumption
    | exact SqL.of upd_same
    | exact SqT.of upd_same
    | ((with_reducible apply SqL.of); assumption)
    | ((with_reducible apply SqT.of); assumption)
    | exact Same.refl _
    | exact .ty _
    | exact .str _
    | exact .int _
    | exact ⟨_, rfl⟩
    | ((with_reducible apply Dp.ty); assumption)
    | ((with_reducible apply Bl.seq_new); assumption; array_get_dec)
    | ((with_reducible apply Bl.tup_new); assumption; array_get_dec)
    | ((with_reducible apply Bl.dp_new); assumption; array_get_dec)
    | ((with_reducible apply Bl.dpa_new); assumption; array_get_dec)
    | ((with_reducible apply Bl.same_nw); assumption; array_get_dec)
    | ((with_reducible apply Bl.seq_tr); assumption; array_get_dec)
    | ((with_reducible apply Bl.tup_tr); assumption; array_get_dec)
    | ((with_reducible apply Bl.dp_tr); assumption; array_get_dec)
    | ((with_reducible apply Bl.dpa_tr); assumption; array_get_dec)
    | ((with_reducible apply Bl.same_tr); assumption; array_get_dec)
    | ((with_reducible apply Dp.ty); assumption)
    | ((with_reducible apply Dp.ty); array_get_dec)
    | ((with_reducible refine Or.inl ?_); array_get_dec)
    | ((with_reducible refine Or.inr ?_); array_get_dec)
    | ((with_reducible apply Bl.gEx); array_get_dec)))
local macro_rules | `(tactic| array_mem_dec) => `(tactic| first
  | ((with_reducible apply Bl.gIte); first
    | (refine Bl.gT (by rfl) ?_)
    | (refine Bl.gF (by rfl) ?_))
  | ((fail_if_success (with_reducible apply Bl.gIte)); (fail_if_success (with_reducible apply Bl.gLoop)); (fail_if_success (with_reducible apply Bl.gComp)); (fail_if_success (with_reducible apply Bl.gWhile)); first
    | (with_reducible intro _ _)
    | (with_reducible intro _)
    | (refine And.intro (by array_get_dec) ?_)
    | (apply Bl.gEx)
    | (refine Or.inl (And.intro (by array_get_dec) ?_))
    | (refine Or.inr (And.intro (by array_get_dec) ?_))
    | (refine Or.inl ⟨_, by array_get_dec, ?_⟩)
    | (refine Or.inr ⟨_, by array_get_dec, ?_⟩)
    ))
local macro_rules | `(tactic| sizeOf_list_dec) => `(tactic| repeat array_mem_dec)

abbrev n_ledger : List Str := ["_law_things"]
theorem sc_ledger : FnScope n_ledger ["_law_things"] (defScope s_ledger) := ⟨rfl, rfl, rfl, by decide +kernel, rfl, by decide +kernel, by decide +kernel⟩
@[irreducible] def spLedger (K : PySem.W.Frag) (C : Addr) : Sp := fun vs H Q _ => ∃ (a : Addr) (ts : List Addr) (ns : List Str), vs = [.ref a] ∧ SqL K H a (ts.map V.ref) ∧ PySem.Paired (fun a n => ThOk K H a [n]) ts ns ∧ (∀ n ∈ ns, nameB n = true) ∧ (ns.length = 1 ∨ ns.length = 2) ∧
  ∀ (p : Addr) (f : LFt) (H' : Hp), LedAt K C H' p f ⟨ns.map fun n => [n], [], [], []⟩ → Same H H' → (∀ x ∈ f.all p, H x = none) → Q (.ref p) H'
section
variable {P : Program} {w : World} {K : PySem.W.Frag} {mg : Str → Option Value} {base : Heap}
/-- what a new ledger gives -/
theorem made_led {C p dx t : Addr} {H : Hp} {ts : List Addr} {ns : List Str} {Q : VK} {E : XK} (fp : H p = none) (fd : H dx = none) (nd : dx ≠ p) (ft : upd (upd H dx (.own p)) p (.ins C dx []) t = none) (hts : PySem.Paired (fun a n => ThOk K H a [n]) ts ns) (hn : ∀ n ∈ ns, nameB n = true)
    (h1 : 1 ≤ ns.length) (h4 : ns.length ≤ 4) (k : ∀ (f : LFt) (H' : Hp), LedAt K C H' p f ⟨ns.map fun n => [n], [], [], []⟩ → Same H H' → (∀ x ∈ f.all p, H x = none) → Q .non H') :
    spInitL K C [.ref p, .ref t] (upd (upd (upd H dx (.own p)) p (.ins C dx [])) t (.tup (ts.map V.ref))) Q E := by
  have s1 : Same H (upd (upd H dx (.own p)) p (.ins C dx [])) := fun b o e => by
    rw [upd_ne (ne_of_none e fp), upd_ne (ne_of_none e fd)]
    exact e
  have s2 := s1.trans (same_new ft (.tup (ts.map V.ref)))
  have np : p ≠ t := ne_of_none upd_same ft
  refine ⟨p, t, dx, ts, ns, rfl, ?_, SqT.of upd_same, prMp hts fun _ _ x => x.mono s2, hn, h1, h4, fun f H' L0 F hf => k f H' L0 ?_ ?_⟩
  · rw [upd_ne np]
    exact upd_same
  · intro b o e
    refine F b o (s2 b o e) fun hb => ?_
    rw [List.mem_singleton.mp hb, fp] at e
    cases e
  · intro x hx
    simp only [LFt.all, List.mem_cons, List.not_mem_nil, or_false] at hx
    have fr : ∀ x, x ∈ [f.th, f.ro, f.si, f.un] → H x = none := fun x hx => by
      cases e : H x with
      | none => rfl
      | some o =>
        have := hf x hx
        rw [s2 x o e] at this
        cases this
    rcases hx with rfl | rfl | rfl | rfl | rfl
    · exact fp
    · exact fr _ (by simp)
    · exact fr _ (by simp)
    · exact fr _ (by simp)
    · exact fr _ (by simp)
theorem ok_ledger (T : Top K mg) : FnOk P w K mg base CX0 8 T.a_ledger T.d_ledger ["_law_things"] (spLedger K T.C_Ledger) := by
  refine T.F_ledger.ok sc_ledger (fun vs H Q E h => ?_) (fun cdv A outer s H vs Q E hr h => ?_)
  · unfold spLedger at h
    obtain ⟨a, ts, ns, rfl, _⟩ := h
    rfl
  unfold spLedger at h
  obtain ⟨a, ts, ns, rfl, ha, hts, hn, hl, k⟩ := h
  have hlt := pr_len hts
  refine ⟨_, (pss_cons (ps_if (pt_cmpR op_eq (pe_callB call_len_seq (by rfl) T.z_len (by decide +kernel) (pa_cons (pv 0) pa_nil)) pe_int (nomark _)) (pss_one (ps_ret (StX.pe_makeR (mk_Ledger T) (ok_Ledger___init__ T) (hr.mono (by decide)) rfl T.mc_Ledger pass0 (pa_cons (pe_ix ix_list (pv 0) pe_int (fun _ _ => rfl)) pa_nil)))) pss_nil)
    (pss_cons (ps_if (pt_cmpR op_eq (pe_callB call_len_seq (by rfl) T.z_len (by decide +kernel) (pa_cons (pv 0) pa_nil)) pe_int (nomark _)) (pss_one (ps_ret (StX.pe_makeR (mk_Ledger T) (ok_Ledger___init__ T) (hr.mono (by decide)) rfl T.mc_Ledger pass0 (pa_cons (pe_ix ix_list (pv 0) pe_int (fun _ _ => rfl)) (pa_cons (pe_ix ix_list (pv 0) pe_int (fun _ _ => rfl)) pa_nil))))) pss_nil)
    (pss_cons (ps_if (pt_cmpR op_eq (pe_callB call_len_seq (by rfl) T.z_len (by decide +kernel) (pa_cons (pv 0) pa_nil)) pe_int (nomark _)) (pss_one (ps_ret (StX.pe_makeR (mk_Ledger T) (ok_Ledger___init__ T) (hr.mono (by decide)) rfl T.mc_Ledger pass0 (pa_cons (pe_ix ix_list (pv 0) pe_int (fun _ _ => rfl)) (pa_cons (pe_ix ix_list (pv 0) pe_int (fun _ _ => rfl)) (pa_cons (pe_ix ix_list (pv 0) pe_int (fun _ _ => rfl)) pa_nil)))))) pss_nil)
    (pss_one (ps_ret (StX.pe_makeR (mk_Ledger T) (ok_Ledger___init__ T) (hr.mono (by decide)) rfl T.mc_Ledger pass0 (pa_cons (pe_ix ix_list (pv 0) pe_int (fun _ _ => rfl)) (pa_cons (pe_ix ix_list (pv 0) pe_int (fun _ _ => rfl)) (pa_cons (pe_ix ix_list (pv 0) pe_int (fun _ _ => rfl)) (pa_cons (pe_ix ix_list (pv 0) pe_int (fun _ _ => rfl)) pa_nil)))))))))), ?_⟩
  rcases hl with hl | hl
  · obtain ⟨t0, rfl⟩ : ∃ t0, ts = [t0] := List.length_eq_one_iff.mp (by omega)
    sizeOf_list_dec
    refine fun x dx fx fd ne => ⟨[.ref x], [.ref t0], rfl, rfl, (by show 1 ≤ sizeLine; decide), fun t ft => ?_⟩
    exact made_led fx fd ne ft hts hn (by omega) (by omega) fun f H' L0 s hf => ⟨rfl, k x f H' L0 s hf⟩
  · obtain ⟨t0, t1, rfl⟩ : ∃ t0 t1, ts = [t0, t1] := match ts, hlt, hl with | [t0, t1], _, _ => ⟨t0, t1, rfl⟩ | [], h1, h2 => absurd (h1.trans h2) (by decide) | [_], h1, h2 => absurd (h1.trans h2) (by simp) | _ :: _ :: _ :: _, h1, h2 => absurd (h1.trans h2) (by simp)
    sizeOf_list_dec
    refine fun x dx fx fd ne => ⟨[.ref x], [.ref t0, .ref t1], rfl, rfl, (by show 2 ≤ sizeLine; decide), fun t ft => ?_⟩
    exact made_led fx fd ne ft hts hn (by omega) (by omega) fun f H' L0 s hf => ⟨rfl, k x f H' L0 s hf⟩

theorem led1 {C t l : Addr} {G : Hp} {y : List Nat} {Q : VK} {E : XK} (ft : G t = none) (fl : upd G t (.tup [nameV y]) l = none) (hz : nameB (S y) = true)
    (k : ∀ (p : Addr) (f : LFt) (H' : Hp), LedAt K C H' p f ⟨[[S y]], [], [], []⟩ → Same G H' → (∀ x ∈ f.all p, G x = none) → Q (.ref p) H') : spLedger K C [.ref l] (upd (upd G t (.tup [nameV y])) l (.lst [.ref t])) Q E := by
  have s1 := same_new ft (.tup [nameV y])
  have s2 := same_new fl (.lst [.ref t])
  have ht : upd (upd G t (.tup [nameV y])) l (.lst [.ref t]) t = some (.tup [nameV y]) := s2 _ _ upd_same
  unfold spLedger
  refine ⟨l, [t], [S y], rfl, SqL.of upd_same, .cons (SqT.of ht) .nil, ?_, .inl rfl, fun p f H' L0 s d => k p f H' L0 (s1.trans (s2.trans s)) fun x hx => (s1.trans s2).free (d x hx)⟩
  intro n hn
  rw [List.mem_singleton.mp hn]
  exact hz
theorem led2 {C t u l : Addr} {G : Hp} {y z : List Nat} {Q : VK} {E : XK} (ft : G t = none) (fu : upd G t (.tup [nameV y]) u = none) (fl : upd (upd G t (.tup [nameV y])) u (.tup [nameV z]) l = none) (hy : nameB (S y) = true) (hz : nameB (S z) = true)
    (k : ∀ (p : Addr) (f : LFt) (H' : Hp), LedAt K C H' p f ⟨[[S y], [S z]], [], [], []⟩ → Same G H' → (∀ x ∈ f.all p, G x = none) → Q (.ref p) H') : spLedger K C [.ref l] (upd (upd (upd G t (.tup [nameV y])) u (.tup [nameV z])) l (.lst [.ref t, .ref u])) Q E := by
  have s1 := same_new ft (.tup [nameV y])
  have s2 := same_new fu (.tup [nameV z])
  have s3 := same_new fl (.lst [.ref t, .ref u])
  have ht := s3 _ _ (s2 _ _ upd_same)
  have hu := s3 u _ upd_same
  unfold spLedger
  refine ⟨l, [t, u], [S y, S z], rfl, SqL.of upd_same, .cons (SqT.of ht) (.cons (SqT.of hu) .nil), ?_, .inr rfl, fun p f H' L0 s d => k p f H' L0 (s1.trans (s2.trans (s3.trans s))) fun x hx => (s1.trans (s2.trans s3)).free (d x hx)⟩
  intro n hn
  rcases List.mem_cons.mp hn with rfl | hn
  · exact hy
  rw [List.mem_singleton.mp hn]
  exact hz
end
end Bl

namespace Bl
open PySem L2
open SX (S)
/-! short words: array_get_dec closes a side condition; array_mem_dec goes one step into a reading; sizeOf_list_dec goes on while it can -/
local macro_rules | `(tactic| array_get_dec) => `(tactic| first
  | (with_reducible assumption)
  | ((with_reducible apply Bl.gEq); first
    | rfl
    | assumption
    | exact upd_same
    | (with_reducible exact kit_d some_str)
    | (with_reducible exact kit_d some_int)
    | (with_reducible exact kit_d some_bool)
    | (with_reducible exact kit_d some_list)
    | (with_reducible exact kit_d some_tuple)
    | ((with_reducible apply Bl.get_new); assumption; array_get_dec)
    | ((with_reducible apply Bl.get_tr); assumption; array_get_dec)
    )
  | ((with_reducible apply Bl.gLe); first
    | omega
    | exact small (by omega)
    | exact small (by simp only [List.length_cons, List.length_nil]; decide)
    | exact small (by simp only [List.length_append, List.length_cons, List.length_nil]; omega)
    | decide)
  | ((with_reducible apply Bl.gLt); first
    | omega
    | exact small' (by omega)
    | exact small' (by simp only [List.length_cons, List.length_nil]; decide)
    | decide)
  | ((fail_if_success (with_reducible apply Bl.gEq)); (fail_if_success (with_reducible apply Bl.gLe)); (fail_if_success (with_reducible apply Bl.gLt)); first
    | assumption
    | exact SqL.of upd_same
    | exact SqT.of upd_same
    | ((with_reducible apply SqL.of); assumption)
    | ((with_reducible apply SqT.of); assumption)
    | exact Same.refl _
    | exact .ty _
    | exact .str _
    | exact .int _
    | exact ⟨_, rfl⟩
    | ((with_reducible apply Dp.ty); assumption)
    | ((with_reducible apply Bl.seq_new); assumption; array_get_dec)
    | ((with_reducible apply Bl.tup_new); assumption; array_get_dec)
    | ((with_reducible apply Bl.dp_new); assumption; array_get_dec)
    | ((with_reducible apply Bl.dpa_new); assumption; array_get_dec)
    | ((with_reducible apply Bl.same_nw); assumption; array_get_dec)
    | ((with_reducible apply Bl.seq_tr); assumption; array_get_dec)
    | ((with_reducible apply Bl.tup_tr); assumption; array_get_dec)
    | ((with_reducible apply Bl.dp_tr); assumption; array_get_dec)
    | ((with_reducible apply Bl.dpa_tr); assumption; array_get_dec)
    | ((with_reducible apply Bl.same_tr); assumption; array_get_dec)
    | ((with_reducible apply Dp.ty); assumption)
    | ((with_reducible apply Dp.ty); array_get_dec)
    | ((with_reducible refine Or.inl ?_); array_get_dec)
    | ((with_reducible refine Or.inr ?_); array_get_dec)
    | ((with_reducible apply Bl.gEx); array_get_dec)))
local macro_rules | `(tactic| array_mem_dec) => `(tactic| first
  | ((with_reducible apply Bl.gIte); first
    | (refine Bl.gT (by rfl) ?_)
    | (refine Bl.gF (by rfl) ?_))
  | ((fail_if_success (with_reducible apply Bl.gIte)); (fail_if_success (with_reducible apply Bl.gLoop)); (fail_if_success (with_reducible apply Bl.gComp)); (fail_if_success (with_reducible apply Bl.gWhile)); first
    | (with_reducible intro _ _)
    | (with_reducible intro _)
    | (refine And.intro (by array_get_dec) ?_)
    | (apply Bl.gEx)
    | (refine Or.inl (And.intro (by array_get_dec) ?_))
    | (refine Or.inr (And.intro (by array_get_dec) ?_))
    | (refine Or.inl ⟨_, by array_get_dec, ?_⟩)
    | (refine Or.inr ⟨_, by array_get_dec, ?_⟩)
    ))
local macro_rules | `(tactic| sizeOf_list_dec) => `(tactic| repeat array_mem_dec)

abbrev n_law : List Str := ["_law_script", "_law_box_here", "_law_turn", "_law_words", "_law_lots", "_law_turned", "_law_found", "_law_told"]
theorem sc_law : FnScope n_law ["_law_script"] (defScope s_law) := ⟨rfl, rfl, rfl, by decide +kernel, rfl, by decide +kernel, by decide +kernel⟩
def spLaw (K : PySem.W.Frag) : Sp := fun vs H Q _ => ∃ (a : Addr) (ns : List Int), vs = [.ref a] ∧ SqL K H a (ns.map V.int) ∧ ns.length ≤ 63 ∧ ∀ H', Q (.bl true) H'
def g3 {α : Type} (us ws : List α) : List α := match us, ws with | [a, b], [c] => [a, b, c] | _, _ => []
theorem g3_rel {us : List Value} {vs : List V} {ws : List Value} {zs : List V} (r : Vals vs us) (r2 : Vals zs ws) : Vals (g3 vs zs) (g3 us ws) := by
  cases r with
  | nil => exact .nil
  | cons a k =>
    cases k with
    | nil => exact .nil
    | cons b k =>
      cases k with
      | cons _ _ => exact .nil
      | nil =>
        cases r2 with
        | nil => exact .nil
        | cons c k =>
          cases k with
          | nil => exact .cons a (.cons b (.cons c .nil))
          | cons _ _ => exact .nil
theorem g3_three {α : Type} : ∀ {us ws : List α}, (g3 us ws).length = 3 → ∃ a b c, us = [a, b] ∧ ws = [c]
  | [a, b], [c], _ => ⟨a, b, c, rfl, rfl⟩
section
variable {P : Program} {w : World} {K : PySem.W.Frag} {mg : Str → Option Value} {base : Heap}
theorem SX_inj {x y : List Nat} (h : S x = S y) : x = y := by
  have := congrArg (fun s : Str => s.cps.toList) h
  simpa [S] using this
theorem disp_one {G : Hp} {d : Addr} (fd : G d = none) (a b : Str) : Same G (upd (upd G d (.dK [])) d (.dK (mergeK [] [((Sum.inr a : Key), V.str b)]))) ∧
    upd (upd G d (.dK [])) d (.dK (mergeK [] [((Sum.inr a : Key), V.str b)])) d = some (.dK (rowK [(a, b)])) := by
  rw [upd_upd]
  exact ⟨same_new fd _, upd_same⟩
theorem kb_Ledger_add_side (T : Top K mg) : KBinds K T.d_Ledger_add ["self", "row", "side"] ["side"] g3 g3 := ⟨fun s us ws _ hl => by
  obtain ⟨a, b, c, rfl, rfl⟩ := g3_three hl
  obtain ⟨oc, od, kV, doc, pm, an, cdv, ct, osl, e, _⟩ := T.F_Ledger_add.ex
  rw [e]
  exact .of_eq rfl, g3_rel⟩
theorem ok_law (T : Top K mg) : FnOk P w K mg base CX0 12 T.a_law T.d_law ["_law_script"] (spLaw K) := by
  refine T.F_law.ok sc_law (fun vs H Q E h => ?_) (fun cdv A outer s H vs Q E hr h => ?_)
  · obtain ⟨a, ns, rfl, _⟩ := h
    rfl
  obtain ⟨a, ns, rfl, hS, hlen, k⟩ := h
  refine ⟨_, (pss_cons (ps_set (i := 1) sc_law.nd rfl (Or.inl rfl) (pe_call (ok_box T) (hr.mono (by decide)) rfl T.m_box T.F_box.kp T.b_box .nil pass0 (pa_cons (pv 0) pa_nil)))
    (pss_cons (ps_for PassesOwn.never rfl (pi_range1 (by rfl) T.z_range (pa_cons pe_int pa_nil)) (pg_name (i := 2) sc_law.nd rfl (Or.inl rfl))
    (pss_cons (ps_set (i := 3) sc_law.nd rfl (Or.inl rfl) (pe_call (ok_names T) (hr.mono (by decide)) rfl T.m_names T.F_names.kp T.b_names .nil pass0 (pa_cons (pv 1) (pa_cons pe_int pa_nil))))
    (pss_cons (ps_set (i := 4) sc_law.nd rfl (Or.inl rfl) (pe_lst (pa_cons (pe_call (ok_ledger T) (hr.mono (by decide)) rfl T.m_ledger T.F_ledger.kp T.b_ledger .nil pass0 (pa_cons (pe_lst (pa_cons (pe_tup (pa_cons (pe_ix ix_list (pv 3) pe_int (fun _ _ => rfl)) pa_nil)) pa_nil)) pa_nil)) (pa_cons (pe_call (ok_ledger T) (hr.mono (by decide)) rfl T.m_ledger T.F_ledger.kp T.b_ledger .nil pass0 (pa_cons (pe_lst (pa_cons (pe_tup (pa_cons (pe_ix ix_list (pv 3) pe_int (fun _ _ => rfl)) pa_nil)) pa_nil)) pa_nil)) (pa_cons (pe_call (ok_ledger T) (hr.mono (by decide)) rfl T.m_ledger T.F_ledger.kp T.b_ledger .nil pass0 (pa_cons (pe_lst (pa_cons (pe_tup (pa_cons (pe_ix ix_list (pv 3) pe_int (fun _ _ => rfl)) pa_nil)) pa_nil)) pa_nil)) pa_nil)))))
    (pss_cons (ps_set (i := 5) sc_law.nd rfl (Or.inl rfl) (pe_lst (pa_cons (pe_call (ok_ledger T) (hr.mono (by decide)) rfl T.m_ledger T.F_ledger.kp T.b_ledger .nil pass0 (pa_cons (pe_lst (pa_cons (pe_tup (pa_cons (pe_ix ix_list (pv 3) pe_int (fun _ _ => rfl)) pa_nil)) (pa_cons (pe_tup (pa_cons (pe_ix ix_list (pv 3) pe_int (fun _ _ => rfl)) pa_nil)) pa_nil))) pa_nil)) (pa_cons (pe_call (ok_ledger T) (hr.mono (by decide)) rfl T.m_ledger T.F_ledger.kp T.b_ledger .nil pass0 (pa_cons (pe_lst (pa_cons (pe_tup (pa_cons (pe_ix ix_list (pv 3) pe_int (fun _ _ => rfl)) pa_nil)) (pa_cons (pe_tup (pa_cons (pe_ix ix_list (pv 3) pe_int (fun _ _ => rfl)) pa_nil)) pa_nil))) pa_nil)) pa_nil))))
    (pss_cons (ps_set (i := 6) sc_law.nd rfl (Or.inl rfl) (pe_lst (pa_cons (pe_cmpR (op_ownI T.M_Ledger___eq__.at_ T.M_Ledger___eq__.fn (ok_Ledger___eq__ T) T.b_Ledger___eq__ (hr.mono (by decide)) pass0) (pe_ix ix_list (pv 4) pe_int (fun _ _ => rfl)) (pe_ix ix_list (pv 4) pe_int (fun _ _ => rfl)) (nomark _)) (pa_cons (pe_cmpR (op_ownI T.M_Ledger___eq__.at_ T.M_Ledger___eq__.fn (ok_Ledger___eq__ T) T.b_Ledger___eq__ (hr.mono (by decide)) pass0) (pe_ix ix_list (pv 4) pe_int (fun _ _ => rfl)) (pe_ix ix_list (pv 4) pe_int (fun _ _ => rfl)) (nomark _)) (pa_cons (pe_cmpR (op_ownI T.M_Ledger___eq__.at_ T.M_Ledger___eq__.fn (ok_Ledger___eq__ T) T.b_Ledger___eq__ (hr.mono (by decide)) pass0) (pe_ix ix_list (pv 5) pe_int (fun _ _ => rfl)) (pe_ix ix_list (pv 5) pe_int (fun _ _ => rfl)) (nomark _)) pa_nil)))))
    (pss_cons (ps_expr (pe_methK (pe_ix ix_list (pv 4) pe_int (fun _ _ => rfl)) T.cl_Ledger T.M_Ledger_add (ok_Ledger_add T) (hr.mono (by decide)) (kb_Ledger_add_side T) pass0 (pa_cons (pe_disp (pps_cons (pe_ix ix_list (pv 3) pe_int (fun _ _ => rfl)) (pe_ix ix_list (pv 3) pe_int (fun _ _ => rfl)) pps_nil) (by rfl) (by rfl) (fun z => by cases z) (by decide)) pa_nil) (pk_cons pe_str pk_nil)))
    (pss_cons (ps_expr (pe_methK (pe_ix ix_list (pv 4) pe_int (fun _ _ => rfl)) T.cl_Ledger T.M_Ledger_add (ok_Ledger_add T) (hr.mono (by decide)) (kb_Ledger_add_side T) pass0 (pa_cons (pe_disp (pps_cons (pe_ix ix_list (pv 3) pe_int (fun _ _ => rfl)) (pe_ix ix_list (pv 3) pe_int (fun _ _ => rfl)) pps_nil) (by rfl) (by rfl) (fun z => by cases z) (by decide)) pa_nil) (pk_cons pe_str pk_nil)))
    (pss_cons (ps_expr (pe_bm PySem.F.plainAttrs_list PySem.F.slot_list_append PySem.F.type_list_append mt_append (pv 6) (pa_cons (pe_cmpR (op_ownI T.M_Ledger___eq__.at_ T.M_Ledger___eq__.fn (ok_Ledger___eq__ T) T.b_Ledger___eq__ (hr.mono (by decide)) pass0) (pe_ix ix_list (pv 4) pe_int (fun _ _ => rfl)) (pe_ix ix_list (pv 4) pe_int (fun _ _ => rfl)) (nomark _)) pa_nil)))
    (pss_cons (ps_set (i := 7) sc_law.nd rfl (Or.inl rfl) (pe_lst (pa_cons (pe_meth0 (pe_ix ix_list (pv 4) pe_int (fun _ _ => rfl)) T.cl_Ledger T.M_Ledger_undo (ok_Ledger_undo T) (hr.mono (by decide)) T.b_Ledger_undo .nil pass0) (pa_cons (pe_meth0 (pe_ix ix_list (pv 4) pe_int (fun _ _ => rfl)) T.cl_Ledger T.M_Ledger_redo (ok_Ledger_redo T) (hr.mono (by decide)) T.b_Ledger_redo .nil pass0) (pa_cons (pe_meth0 (pe_ix ix_list (pv 4) pe_int (fun _ _ => rfl)) T.cl_Ledger T.M_Ledger_undo (ok_Ledger_undo T) (hr.mono (by decide)) T.b_Ledger_undo .nil pass0) pa_nil)))))
    (pss_cons (ps_expr (pe_methK (pe_ix ix_list (pv 4) pe_int (fun _ _ => rfl)) T.cl_Ledger T.M_Ledger_add (ok_Ledger_add T) (hr.mono (by decide)) (kb_Ledger_add_side T) pass0 (pa_cons (pe_disp (pps_cons (pe_ix ix_list (pv 3) pe_int (fun _ _ => rfl)) (pe_ix ix_list (pv 3) pe_int (fun _ _ => rfl)) pps_nil) (by rfl) (by rfl) (fun z => by cases z) (by decide)) pa_nil) (pk_cons pe_str pk_nil)))
    (pss_one (ps_if (pt_not (pt_val (pe_call (ok_same T 4) (hr.mono (by decide)) rfl T.m_same T.F_same.kp T.b_same .nil pass0 (pa_cons (pe_op op_cat (pv 6) (pe_lst (pa_cons (pe_cmpR (op_ownI T.M_Ledger___eq__.at_ T.M_Ledger___eq__.fn (ok_Ledger___eq__ T) T.b_Ledger___eq__ (hr.mono (by decide)) pass0) (pe_ix ix_list (pv 4) pe_int (fun _ _ => rfl)) (pe_ix ix_list (pv 4) pe_int (fun _ _ => rfl)) (nomark _)) (pa_cons (pe_cmpR (op_ownI T.M_Ledger___eq__.at_ T.M_Ledger___eq__.fn (ok_Ledger___eq__ T) T.b_Ledger___eq__ (hr.mono (by decide)) pass0) (pe_ix ix_list (pv 4) pe_int (fun _ _ => rfl)) (pe_lst (pa_cons (pe_ix ix_list (pv 3) pe_int (fun _ _ => rfl)) pa_nil)) (nomark _)) (pa_cons (pv 7) pa_nil))))) (pa_cons (pe_lst (pa_cons pe_bl (pa_cons pe_bl (pa_cons pe_bl (pa_cons pe_bl (pa_cons pe_bl (pa_cons pe_bl (pa_cons (pe_op op_rep (pe_lst (pa_cons pe_non pa_nil)) pe_int) pa_nil)))))))) pa_nil))))) (pss_one (ps_ret pe_bl)) pss_nil))))))))))))
    (pss_one (ps_ret pe_bl)))), ?_⟩
  sizeOf_list_dec
  rename_i p b H0 fp B0 s0
  refine for_range (lo := 0) (n := 4) (fun i σ H2 => Hold (∃ o : List (Option V), o.length = 6 ∧ σ = some (.ref a) :: some (.ref p) :: o ∧ BoxAt H2 p b)) ⟨_, rfl, rfl, B0⟩ ?_ ?_
  rotate_left
  · rintro σ H2 ⟨o, ho, rfl, B⟩
    sizeOf_list_dec
    exact k _
  rintro i σ H1 hi ⟨o, ho, rfl, B1⟩
  obtain ⟨o2, o3, o4, o5, o6, o7, rfl⟩ : ∃ o2 o3 o4 o5 o6 o7, o = [o2, o3, o4, o5, o6, o7] := by
    match o, ho with
    | [o2, o3, o4, o5, o6, o7], _ => exact ⟨o2, o3, o4, o5, o6, o7, rfl⟩
  clear ho
  refine ⟨_, rfl, p, b, 4, rfl, B1, by decide, by decide, fun q zs G hzl hnm hnd hsm hfq hqp hq BG eG => ?_⟩
  obtain ⟨y0, y1, y2, y3, rfl⟩ : ∃ y0 y1 y2 y3, zs = [y0, y1, y2, y3] := by
    match zs, hzl with
    | [y0, y1, y2, y3], _ => exact ⟨y0, y1, y2, y3, rfl⟩
  have m0 : nameB (S y0) = true := NameL.nameB (hnm y0 (by simp))
  have m1 : nameB (S y1) = true := NameL.nameB (hnm y1 (by simp))
  have m2 : nameB (S y2) = true := NameL.nameB (hnm y2 (by simp))
  have m3 : nameB (S y3) = true := NameL.nameB (hnm y3 (by simp))
  clear hzl hsm hfq eG B1 hi
  sizeOf_list_dec
  rename_i t ft l fl
  refine led1 ft fl m0 fun p0 f0 G0 A0 e0 d0 => ?_
  have hq0 := e0 _ _ hq
  have Bx0 := BG.mono e0
  sizeOf_list_dec
  rename_i t1 ft1 l1 fl1
  refine led1 ft1 fl1 m1 fun p1 f1 G1 A1 e1 d1 => ?_
  have hq1 := e1 _ _ hq0
  have Bx1 := Bx0.mono e1
  have C0 := A0.mono e1
  sizeOf_list_dec
  rename_i t2 ft2 l2 fl2
  refine led1 ft2 fl2 m0 fun p2 f2 G2 A2 e2 d2 => ?_
  have hq2 := e2 _ _ hq1
  have Bx2 := Bx1.mono e2
  have D0 := C0.mono e2
  have D1 := A1.mono e2
  have W0 : Out [q, p, b] (f0.all p0) := .fresh (Tr.cons hq (Tr.cons (box_tr BG).1.choose_spec (Tr.cons (box_tr BG).2.choose_spec .nil))) d0
  have W2 : Out ([q, p, b] ++ f0.all p0) (f2.all p2) := .fresh (Tr.app (Tr.cons hq1 (Tr.cons (box_tr Bx1).1.choose_spec (Tr.cons (box_tr Bx1).2.choose_spec .nil))) C0.tr) d2
  have E0x := D0.tr
  have E2x := A2.tr
  clear ft fl ft1 fl1 ft2 fl2 hq hq0 hq1 BG Bx0 Bx1 A0 A1 C0
  sizeOf_list_dec
  rename_i X fX t fT u fU l fL
  have sX := same_new fX (.lst [.ref p0, .ref p1, .ref p2])
  have hX : upd G2 X (.lst [.ref p0, .ref p1, .ref p2]) X = _ := upd_same
  have Bx3 := Bx2.mono sX
  have hq3 := sX _ _ hq2
  replace A2 := A2.mono sX
  replace D0 := D0.mono sX
  replace D1 := D1.mono sX
  replace d0 : ∀ x ∈ f0.all p0, G x = none := d0
  have eG2 : Same G G2 := e0.trans (e1.trans e2)
  generalize upd G2 X (.lst [.ref p0, .ref p1, .ref p2]) = G3 at *
  refine led2 fT fU fL m0 m1 fun p3 f3 G4 A3 e3 _ => ?_
  replace hX := e3 _ _ hX
  replace hq3 := e3 _ _ hq3
  replace Bx3 := Bx3.mono e3
  replace A2 := A2.mono e3
  replace D0 := D0.mono e3
  replace D1 := D1.mono e3
  clear fT fU fL
  sizeOf_list_dec
  rename_i t fT u fU l fL
  refine led2 fT fU fL m1 m0 fun p4 f4 G5 A4 e4 _ => ?_
  replace hX := e4 _ _ hX
  replace hq3 := e4 _ _ hq3
  replace Bx3 := Bx3.mono e4
  replace A2 := A2.mono e4
  replace D0 := D0.mono e4
  replace D1 := D1.mono e4
  replace A3 := A3.mono e4
  clear fT fU fL
  sizeOf_list_dec
  rename_i Y fY
  have W0x : X ∉ f0.all p0 := fun h => by
    obtain ⟨o, e⟩ := (E0x : Tr G2 (f0.all p0)) X h
    rw [fX] at e
    cases e
  have W2x : X ∉ f2.all p2 := fun h => by
    obtain ⟨o, e⟩ := (E2x : Tr G2 (f2.all p2)) X h
    rw [fX] at e
    cases e
  have n01 : S y0 ≠ S y1 := fun e => by
    have := SX_inj e
    subst this
    simp at hnd
  have n20 : S y2 ≠ S y0 := fun e => by
    have := SX_inj e
    subst this
    simp at hnd
  have K0 : LOk ⟨[[S y0]], [], [], []⟩ := ⟨by simpa using m0, by simp, by simp⟩
  have K1 : LOk ⟨[[S y1]], [], [], []⟩ := ⟨by simpa using m1, by simp, by simp⟩
  have K3 : LOk ⟨[[S y0], [S y1]], [], [], []⟩ := ⟨by simpa using ⟨m0, m1⟩, by simp, by simp⟩
  have K4 : LOk ⟨[[S y1], [S y0]], [], [], []⟩ := ⟨by simpa using ⟨m1, m0⟩, by simp, by simp⟩
  have sY := same_new fY (.lst [.ref p3, .ref p4])
  have hY : upd G5 Y (.lst [.ref p3, .ref p4]) Y = _ := upd_same
  replace hX := sY _ _ hX
  replace hq3 := sY _ _ hq3
  replace Bx3 := Bx3.mono sY
  replace A2 := A2.mono sY
  replace D0 := D0.mono sY
  replace D1 := D1.mono sY
  replace A3 := A3.mono sY
  replace A4 := A4.mono sY
  generalize upd G5 Y (.lst [.ref p3, .ref p4]) = G6 at *
  refine eq_led T D0 D1 K0 K1 (fun h => absurd h (by simp [n01])) (b := false) (by simp [n01]) ?_
  sizeOf_list_dec
  refine eq_led T D0 A2 K0 K0 (fun _ => rfl) (b := true) (by simp) ?_
  sizeOf_list_dec
  refine eq_led T A3 A4 K3 K4 (fun _ => rfl) (b := false) (by simp [n01]) ?_
  sizeOf_list_dec
  rename_i F fF
  have nF : Out [X, q, p, b] [F] := .fresh (Tr.cons hX (Tr.cons hq3 (Tr.cons (box_tr Bx3).1.choose_spec (Tr.cons (box_tr Bx3).2.choose_spec .nil)))) (fun x hx => by
    rw [List.mem_singleton.mp hx]
    exact fF)
  have W0f : F ∉ f0.all p0 := fun h => by
    obtain ⟨o, e⟩ := D0.tr F h
    rw [fF] at e
    cases e
  have W2f : F ∉ f2.all p2 := fun h => by
    obtain ⟨o, e⟩ := A2.tr F h
    rw [fF] at e
    cases e
  have sF := same_new fF (.lst [.bl false, .bl true, .bl false])
  have hF : upd G6 F (.lst [.bl false, .bl true, .bl false]) F = _ := upd_same
  replace hX := sF _ _ hX
  replace hq3 := sF _ _ hq3
  replace Bx3 := Bx3.mono sF
  replace A2 := A2.mono sF
  replace D0 := D0.mono sF
  generalize upd G6 F (.lst [.bl false, .bl true, .bl false]) = G7 at *
  have U0 : Out [F, X, q, p, b] (f0.all p0) := Out.cons W0f (Out.cons W0x W0)
  have U2 : Out [F, X, q, p, b] (f2.all p2) := Out.cons W2f (Out.cons W2x (W2.sub (by simp)))
  have U02 : Out (f0.all p0) (f2.all p2) := W2.sub fun x hx => List.mem_append_right _ hx
  have hla0 : f0.fs.lookup ("add" : Str) = none := LFt.lkN (by decide +kernel)
  have hla2 : f2.fs.lookup ("add" : Str) = none := LFt.lkN (by decide +kernel)
  have i0 := D0.ins
  sizeOf_list_dec
  refine fun d fd => ?_
  sizeOf_list_dec
  refine ⟨show [(nameV y2, nameV y3)] = List.map (fun kv => (kV kv.1, kv.2)) [((Sum.inr (S y2) : Key), nameV y3)] from rfl, by show 1 ≤ 15; decide, ?_⟩
  sizeOf_list_dec
  obtain ⟨s8, hd8⟩ := disp_one fd (S y2) (S y3)
  replace hX := s8 _ _ hX
  replace hq3 := s8 _ _ hq3
  replace hF := s8 _ _ hF
  replace Bx3 := Bx3.mono s8
  replace A2 := A2.mono s8
  replace D0 := D0.mono s8
  have hw1 : RowV [(S y2, S y3)] := ⟨by simpa using ⟨m2, m3⟩, by show 1 ≤ 300; decide⟩
  have hwn : ([(S y2, S y3)].map (·.1)).Nodup := by simp
  have hwo : ∀ th ∈ [[S y0]], ∃ n, th = [n] ∧ n ∉ [(S y2, S y3)].map (·.1) := fun th ht => ⟨S y0, List.mem_singleton.mp ht, by simpa using n20.symm⟩
  refine add_led D0 hd8 (by decide +kernel) hw1 hwn hwo fun au G9 D0' e9 ha9 => ?_
  have k9 := kept_led D0 e9
  have tr8 : Tr _ [F, X, q, p, b] := Tr.cons hF (Tr.cons hX (Tr.cons hq3 (Tr.cons (box_tr Bx3).1.choose_spec (Tr.cons (box_tr Bx3).2.choose_spec .nil))))
  have V0 := U0.unA tr8 ha9
  have V02 := (U02.symm.unA A2.tr ha9).symm
  replace hX := k9.get hX (U0.wr _ (by simp))
  replace hq3 := k9.get hq3 (U0.wr _ (by simp))
  replace hF := k9.get hF (U0.wr _ (by simp))
  replace Bx3 := box_fr Bx3 e9 (U0.wr _ (by simp)) (U0.wr _ (by simp))
  replace A2 := k9.led A2 U02.symm.wr
  generalize ({ f0 with un := au } : LFt) = g0 at *
  have i2 := A2.ins
  sizeOf_list_dec
  refine fun d2 fd2 => ?_
  sizeOf_list_dec
  refine ⟨show [(nameV y2, nameV y3)] = List.map (fun kv => (kV kv.1, kv.2)) [((Sum.inr (S y2) : Key), nameV y3)] from rfl, by show 1 ≤ 15; decide, ?_⟩
  sizeOf_list_dec
  obtain ⟨s10, hd10⟩ := disp_one fd2 (S y2) (S y3)
  replace hX := s10 _ _ hX
  replace hq3 := s10 _ _ hq3
  replace hF := s10 _ _ hF
  replace Bx3 := Bx3.mono s10
  replace A2 := A2.mono s10
  replace D0' := D0'.mono s10
  refine add_led A2 hd10 (by decide +kernel) hw1 hwn hwo fun au2 G11 A2' e11 ha11 => ?_
  have k11 := kept_led A2 e11
  have tr10 : Tr _ ([F, X, q, p, b] ++ g0.all p0) := Tr.app (Tr.cons hF (Tr.cons hX (Tr.cons hq3 (Tr.cons (box_tr Bx3).1.choose_spec (Tr.cons (box_tr Bx3).2.choose_spec .nil))))) D0'.tr
  have V2 := (U2.app V02).unA tr10 ha11
  replace hX := k11.get hX (U2.wr _ (by simp))
  replace hq3 := k11.get hq3 (U2.wr _ (by simp))
  replace hF := k11.get hF (U2.wr _ (by simp))
  replace Bx3 := box_fr Bx3 e11 (U2.wr _ (by simp)) (U2.wr _ (by simp))
  replace D0' := k11.led D0' V02.wr
  generalize ({ f2 with un := au2 } : LFt) = g2 at *
  have Ka : LOk ⟨[[S y0]], [[(S y2, S y3)]], ["learn"], []⟩ := ⟨by simpa using m0, by simp, by simp; decide +kernel⟩
  have Kb : LOk ⟨[[S y0]], [[(S y2, S y3)]], ["judge"], []⟩ := ⟨by simpa using m0, by simp, by simp; decide +kernel⟩
  refine ⟨_, rfl, .inl ⟨rfl, _, SqL.of hF⟩, ?_⟩
  sizeOf_list_dec
  refine eq_led T D0' A2' Ka Kb (fun _ => rfl) (b := false) (by simp; decide +kernel) ?_
  have k12 := kept_list hF (o := .lst ([V.bl false, V.bl true, V.bl false] ++ [V.bl false]))
  have hF2 : upd G11 F (.lst ([V.bl false, V.bl true, V.bl false] ++ [V.bl false])) F = _ := upd_same
  have oF : ∀ {g : LFt} {r : Addr}, F ∉ g.all r → Out (g.all r) [F] := fun h x hx hs => h (List.mem_singleton.mp hs ▸ hx)
  replace hX := k12.get hX (nF _ (by simp))
  replace hq3 := k12.get hq3 (nF _ (by simp))
  replace Bx3 := box_fr Bx3 k12.fr (nF _ (by simp)) (nF _ (by simp))
  replace D0' := k12.led D0' (oF (V0 _ (by simp)))
  replace A2' := k12.led A2' (oF (V2 _ (by simp)))
  refine ⟨F, _, _, rfl, rfl, hF, (by show 3 < sizeLine; decide), ?_⟩
  generalize upd G11 F (.lst ([V.bl false, V.bl true, V.bl false] ++ [V.bl false])) = G12 at *
  have i2b := A2'.ins
  have hlu2 : g2.fs.lookup ("undo" : Str) = none := LFt.lkN (by decide +kernel)
  have hlr2 : g2.fs.lookup ("redo" : Str) = none := LFt.lkN (by decide +kernel)
  have hla2b : g2.fs.lookup ("add" : Str) = none := LFt.lkN (by decide +kernel)
  sizeOf_list_dec
  refine undo_led A2' fun G13 A3' e13 => ?_
  have k13 := kept_led A2' e13
  replace hX := k13.get hX (V2.wr _ (by simp))
  replace hq3 := k13.get hq3 (V2.wr _ (by simp))
  replace hF2 := k13.get hF2 (V2.wr _ (by simp))
  replace Bx3 := box_fr Bx3 e13 (V2.wr _ (by simp)) (V2.wr _ (by simp))
  replace D0' := k13.led D0' (Out.wr (V2.sub fun x hx => List.mem_append_right _ hx))
  have i3 := A3'.ins
  sizeOf_list_dec
  refine redo_led A3' fun G14 A4' e14 => ?_
  have k14 := kept_led A3' e14
  replace hX := k14.get hX (V2.wr _ (by simp))
  replace hq3 := k14.get hq3 (V2.wr _ (by simp))
  replace hF2 := k14.get hF2 (V2.wr _ (by simp))
  replace Bx3 := box_fr Bx3 e14 (V2.wr _ (by simp)) (V2.wr _ (by simp))
  replace D0' := k14.led D0' (Out.wr (V2.sub fun x hx => List.mem_append_right _ hx))
  have i4 := A4'.ins
  sizeOf_list_dec
  refine undo_led A4' fun G15 A5' e15 => ?_
  have k15 := kept_led A4' e15
  replace hX := k15.get hX (V2.wr _ (by simp))
  replace hq3 := k15.get hq3 (V2.wr _ (by simp))
  replace hF2 := k15.get hF2 (V2.wr _ (by simp))
  replace Bx3 := box_fr Bx3 e15 (V2.wr _ (by simp)) (V2.wr _ (by simp))
  replace D0' := k15.led D0' (Out.wr (V2.sub fun x hx => List.mem_append_right _ hx))
  have i5 := A5'.ins
  sizeOf_list_dec
  rename_i R fR
  have sR := same_new fR (.lst [.non, .non, .non])
  have hR : upd G15 R (.lst [.non, .non, .non]) R = _ := upd_same
  have oR : ∀ {g : LFt} {r : Addr} {M : LSt}, LedAt K T.C_Ledger G15 r g M → R ∉ g.all r := fun h hr => by
    obtain ⟨o, e⟩ := h.tr R hr
    rw [fR] at e
    cases e
  have nR2 := oR A5'
  replace hX := sR _ _ hX
  replace hq3 := sR _ _ hq3
  replace hF2 := sR _ _ hF2
  replace Bx3 := Bx3.mono sR
  replace D0' := D0'.mono sR
  replace A5' := A5'.mono sR
  generalize upd G15 R (.lst [.non, .non, .non]) = G16 at *
  refine fun d3 fd3 => ?_
  sizeOf_list_dec
  refine ⟨show [(nameV y2, nameV y3)] = List.map (fun kv => (kV kv.1, kv.2)) [((Sum.inr (S y2) : Key), nameV y3)] from rfl, by show 1 ≤ 15; decide, ?_⟩
  sizeOf_list_dec
  obtain ⟨s17, hd17⟩ := disp_one fd3 (S y2) (S y3)
  replace hX := s17 _ _ hX
  replace hq3 := s17 _ _ hq3
  replace hF2 := s17 _ _ hF2
  replace hR := s17 _ _ hR
  replace Bx3 := Bx3.mono s17
  replace D0' := D0'.mono s17
  replace A5' := A5'.mono s17
  refine add_led A5' hd17 (by decide +kernel) hw1 hwn hwo fun au3 G18 A6' e18 ha18 => ?_
  have k18 := kept_led A5' e18
  replace hX := k18.get hX (V2.wr _ (by simp))
  replace hq3 := k18.get hq3 (V2.wr _ (by simp))
  replace hF2 := k18.get hF2 (V2.wr _ (by simp))
  replace hR := k18.get hR (fun h => nR2 (LFt.wr_all h))
  replace Bx3 := box_fr Bx3 e18 (V2.wr _ (by simp)) (V2.wr _ (by simp))
  replace D0' := k18.led D0' (Out.wr (V2.sub fun x hx => List.mem_append_right _ hx))
  generalize ({ g2 with un := au3 } : LFt) = h2 at *
  sizeOf_list_dec
  refine eq_led T D0' A6' Ka Ka (fun _ => rfl) (b := true) (by simp) ?_
  sizeOf_list_dec
  rename_i z fz
  refine eq_led_list T (D0'.mono (same_new fz _)) Ka upd_same ?_
  sizeOf_list_dec
  rename_i c1 g1 c2 g2' c3 g3' c4 g4 c5 g5
  have t0 := same_new fz (.lst [nameV y2])
  have t1 := same_new g1 (.lst [.bl true, .bl false, .ref R])
  have t2 := same_new g2' (.lst ([.bl false, .bl true, .bl false] ++ [.bl false] ++ [.bl true, .bl false, .ref R]))
  have t3 := same_new g3' (.lst [.non])
  have t4 := same_new g4 (.lst (List.replicate (Int.toNat 3) [V.non]).flatten)
  have t5 := same_new g5 (.lst [.bl false, .bl true, .bl false, .bl false, .bl true, .bl false, .ref c4])
  have hc2 := t5 _ _ (t4 _ _ (t3 _ _ (upd_same (H := _) (a := c2) (o := .lst ([.bl false, .bl true, .bl false] ++ [.bl false] ++ [.bl true, .bl false, .ref R])))))
  have hc4 := t5 c4 _ upd_same
  have hRR := t5 _ _ (t4 _ _ (t3 _ _ (t2 _ _ (t1 _ _ (t0 _ _ hR)))))
  have Bx9 := Bx3.mono (t0.trans (t1.trans (t2.trans (t3.trans (t4.trans t5)))))
  have nn : ∀ {H : Hp}, DpAll K H [V.non, V.non, V.non] [.none, .none, .none] := .cons .non (.cons .non (.cons .non .nil))
  refine ⟨show Dp K _ _ (.list [.bool false, .bool true, .bool false, .bool false, .bool true, .bool false, .list [.none, .none, .none]]) from .lst (SqL.of hc2) (.cons (.bl _) (.cons (.bl _) (.cons (.bl _) (.cons (.bl _) (.cons (.bl _) (.cons (.bl _) (.cons (.lst (SqL.of hRR) nn) .nil))))))),
    .lst (SqL.of upd_same) (.cons (.bl _) (.cons (.bl _) (.cons (.bl _) (.cons (.bl _) (.cons (.bl _) (.cons (.bl _) (.cons (.lst (SqL.of hc4) nn) .nil))))))), ⟨by show 7 < 1000000; decide, fun d hd => ?_⟩, fun Hz ez => ⟨_, rfl, iteF ⟨_, rfl, rfl, Bx9.mono ez⟩⟩⟩
  simp only [List.mem_cons, List.not_mem_nil, or_false] at hd
  rcases hd with rfl | rfl | rfl | rfl | rfl | rfl | rfl
  any_goals exact True.intro
  refine ⟨by show 3 < 1000000; decide, fun d hd => ?_⟩
  simp only [List.mem_cons, List.not_mem_nil, or_false] at hd
  rcases hd with rfl | rfl | rfl <;> exact True.intro
end
end Bl

namespace Bl
open PySem L2
theorem top_mk {K : PySem.W.Frag} {h : Heap} {mg : Str → Option Value} {fa : Addr} (X : K.In h) (G : h.Ns mainGlobals mg) (hfa : mg "law" = some (.ref fa))
    {C_Ledger : Addr}
    {tk_Ledger_MOST : Tok}
    {tk_Ledger_MOST_THINGS : Tok}
    {a0 : Addr} {od0 an0 : Option Addr} {sl0 : Array (Option Value)} {oc0 kV0 dc0 pm0 cd0 ct0 : Value}
    {a1 : Addr} {od1 an1 : Option Addr} {sl1 : Array (Option Value)} {oc1 kV1 dc1 pm1 cd1 ct1 : Value}
    {a2 : Addr} {od2 an2 : Option Addr} {sl2 : Array (Option Value)} {oc2 kV2 dc2 pm2 cd2 ct2 : Value}
    {a3 : Addr} {od3 an3 : Option Addr} {sl3 : Array (Option Value)} {oc3 kV3 dc3 pm3 cd3 ct3 : Value}
    {a4 : Addr} {od4 an4 : Option Addr} {sl4 : Array (Option Value)} {oc4 kV4 dc4 pm4 cd4 ct4 : Value}
    {a5 : Addr} {od5 an5 : Option Addr} {sl5 : Array (Option Value)} {oc5 kV5 dc5 pm5 cd5 ct5 : Value}
    {a6 : Addr} {od6 an6 : Option Addr} {sl6 : Array (Option Value)} {oc6 kV6 dc6 pm6 cd6 ct6 : Value}
    {a7 : Addr} {od7 an7 : Option Addr} {sl7 : Array (Option Value)} {oc7 kV7 dc7 pm7 cd7 ct7 : Value}
    {a8 : Addr} {od8 an8 : Option Addr} {sl8 : Array (Option Value)} {oc8 kV8 dc8 pm8 cd8 ct8 : Value}
    {a9 : Addr} {od9 an9 : Option Addr} {sl9 : Array (Option Value)} {oc9 kV9 dc9 pm9 cd9 ct9 : Value}
    {a10 : Addr} {od10 an10 : Option Addr} {sl10 : Array (Option Value)} {oc10 kV10 dc10 pm10 cd10 ct10 : Value}
    {a11 : Addr} {od11 an11 : Option Addr} {sl11 : Array (Option Value)} {oc11 kV11 dc11 pm11 cd11 ct11 : Value}
    {a12 : Addr} {od12 an12 : Option Addr} {sl12 : Array (Option Value)} {oc12 kV12 dc12 pm12 cd12 ct12 : Value}
    {a13 : Addr} {od13 an13 : Option Addr} {sl13 : Array (Option Value)} {oc13 kV13 dc13 pm13 cd13 ct13 : Value}
    {a14 : Addr} {od14 an14 : Option Addr} {sl14 : Array (Option Value)} {oc14 kV14 dc14 pm14 cd14 ct14 : Value}
    {a15 : Addr} {od15 an15 : Option Addr} {sl15 : Array (Option Value)} {oc15 kV15 dc15 pm15 cd15 ct15 : Value}
    {a16 : Addr} {od16 an16 : Option Addr} {sl16 : Array (Option Value)} {oc16 kV16 dc16 pm16 cd16 ct16 : Value}
    {t_LETTERS : Tok}
    {t_LONGEST_NAME : Tok}
    {p_LOTS : Addr} {dd_LOTS : Option Addr} {n_LOTS : Nat} {sl_LOTS : Array (Option Value)} {tl0 tl1 : Tok}
    {t_MOST_OF_THING : Tok}
    (OA_Ledger : PySem.W.nsIn K mainGlobals "Ledger" = some (some (.ref C_Ledger)))
    (Oga_Ledger : PySem.W.plainGet K C_Ledger Str.empty = true)
    (Ohd_Ledger : PySem.W.hasDictIn K C_Ledger = true)
    (Opo_Ledger : PySem.W.plainOver K C_Ledger = true)
    (Osa_Ledger : PySem.W.findIn K (.ref C_Ledger) "__setattr__" = some (some (.builtin "object.__setattr__")))
    (Omk_Ledger : PySem.W.makesIn K C_Ledger = true)
    (Okp_Ledger : PySem.W.keepIn K (.ref C_Ledger) = true)
    (On_Ledger__things : PySem.W.findIn K (.ref C_Ledger) "_things" = some none)
    (On_Ledger__rows : PySem.W.findIn K (.ref C_Ledger) "_rows" = some none)
    (On_Ledger__sides : PySem.W.findIn K (.ref C_Ledger) "_sides" = some none)
    (On_Ledger__undone : PySem.W.findIn K (.ref C_Ledger) "_undone" = some none)
    (Oi1_Ledger : PySem.W.findIn K (.ref C_Ledger) "__class__" = some (some (.builtin "object.__class__"))) (Oi2_Ledger : PySem.W.specialIn K (.builtin "object.__class__") "__get__" = some (some (.builtin "getset_descriptor.__get__"))) (Oi3_Ledger : PySem.W.takesIn K (.builtin "object.__class__") = some true) (Oi4_Ledger : PySem.W.mroIn K C_Ledger (.type "object") = some true) (Oi5_Ledger : PySem.W.kitOne K (.ref C_Ledger) (.ref C_Ledger) = some true)
    (Oi6_Ledger : ownB K C_Ledger = true)
    (Or1_Ledger : PySem.W.readsIn K C_Ledger (.type "type") = true) (Or2_Ledger : PySem.W.specialIn K (.ref C_Ledger) "__getattribute__" = some (some (.builtin "type.__getattribute__")))
    (Oc_Ledger_MOST : PySem.W.findCls K (.ref C_Ledger) (.type "type") "MOST" = some (.val (.int 200 tk_Ledger_MOST)))
    (Oc_Ledger_MOST_THINGS : PySem.W.findCls K (.ref C_Ledger) (.type "type") "MOST_THINGS" = some (.val (.int 4 tk_Ledger_MOST_THINGS)))
    (A0 : PySem.W.nsIn K mainGlobals "is_name" = some (some (.ref a0))) (L0 : K.lookup a0 = some ⟨oc0, od0, .func (PySem.W.fnOf "is_name" "is_name" (defArgs s_is_name) (defBody s_is_name) (defScope s_is_name) .none kV0 dc0 pm0 an0 cd0 ct0), sl0⟩) (C0 : PySem.W.codeIn K cd0 "is_name" = true) (K0 : PySem.W.keepIn K (.ref a0) = true)
    (A1 : PySem.W.nsIn K mainGlobals "_is_thing" = some (some (.ref a1))) (L1 : K.lookup a1 = some ⟨oc1, od1, .func (PySem.W.fnOf "_is_thing" "_is_thing" (defArgs s_is_thing) (defBody s_is_thing) (defScope s_is_thing) .none kV1 dc1 pm1 an1 cd1 ct1), sl1⟩) (C1 : PySem.W.codeIn K cd1 "_is_thing" = true) (K1 : PySem.W.keepIn K (.ref a1) = true)
    (A2 : PySem.W.nsIn K mainGlobals "_is_row" = some (some (.ref a2))) (L2 : K.lookup a2 = some ⟨oc2, od2, .func (PySem.W.fnOf "_is_row" "_is_row" (defArgs s_is_row) (defBody s_is_row) (defScope s_is_row) .none kV2 dc2 pm2 an2 cd2 ct2), sl2⟩) (C2 : PySem.W.codeIn K cd2 "_is_row" = true) (K2 : PySem.W.keepIn K (.ref a2) = true)
    (A3 : PySem.W.nsIn K mainGlobals "_law_box" = some (some (.ref a3))) (L3 : K.lookup a3 = some ⟨oc3, od3, .func (PySem.W.fnOf "_law_box" "_law_box" (defArgs s_box) (defBody s_box) (defScope s_box) .none kV3 dc3 pm3 an3 cd3 ct3), sl3⟩) (C3 : PySem.W.codeIn K cd3 "_law_box" = true) (K3 : PySem.W.keepIn K (.ref a3) = true)
    (A4 : PySem.W.nsIn K mainGlobals "_law_pull" = some (some (.ref a4))) (L4 : K.lookup a4 = some ⟨oc4, od4, .func (PySem.W.fnOf "_law_pull" "_law_pull" (defArgs s_pull) (defBody s_pull) (defScope s_pull) .none kV4 dc4 pm4 an4 cd4 ct4), sl4⟩) (C4 : PySem.W.codeIn K cd4 "_law_pull" = true) (K4 : PySem.W.keepIn K (.ref a4) = true)
    (A5 : PySem.W.nsIn K mainGlobals "_law_of" = some (some (.ref a5))) (L5 : K.lookup a5 = some ⟨oc5, od5, .func (PySem.W.fnOf "_law_of" "_law_of" (defArgs s_of) (defBody s_of) (defScope s_of) .none kV5 dc5 pm5 an5 cd5 ct5), sl5⟩) (C5 : PySem.W.codeIn K cd5 "_law_of" = true) (K5 : PySem.W.keepIn K (.ref a5) = true)
    (A6 : PySem.W.nsIn K mainGlobals "_law_names" = some (some (.ref a6))) (L6 : K.lookup a6 = some ⟨oc6, od6, .func (PySem.W.fnOf "_law_names" "_law_names" (defArgs s_names) (defBody s_names) (defScope s_names) .none kV6 dc6 pm6 an6 cd6 ct6), sl6⟩) (C6 : PySem.W.codeIn K cd6 "_law_names" = true) (K6 : PySem.W.keepIn K (.ref a6) = true)
    (A7 : PySem.W.nsIn K mainGlobals "_law_same" = some (some (.ref a7))) (L7 : K.lookup a7 = some ⟨oc7, od7, .func (PySem.W.fnOf "_law_same" "_law_same" (defArgs s_same) (defBody s_same) (defScope s_same) .none kV7 dc7 pm7 an7 cd7 ct7), sl7⟩) (C7 : PySem.W.codeIn K cd7 "_law_same" = true) (K7 : PySem.W.keepIn K (.ref a7) = true)
    (A8 : PySem.W.nsIn K mainGlobals "_law_ledger" = some (some (.ref a8))) (L8 : K.lookup a8 = some ⟨oc8, od8, .func (PySem.W.fnOf "_law_ledger" "_law_ledger" (defArgs s_ledger) (defBody s_ledger) (defScope s_ledger) .none kV8 dc8 pm8 an8 cd8 ct8), sl8⟩) (C8 : PySem.W.codeIn K cd8 "_law_ledger" = true) (K8 : PySem.W.keepIn K (.ref a8) = true)
    (A9 : PySem.W.nsIn K mainGlobals "law" = some (some (.ref a9))) (L9 : K.lookup a9 = some ⟨oc9, od9, .func (PySem.W.fnOf "law" "law" (defArgs s_law) (defBody s_law) (defScope s_law) .none kV9 dc9 pm9 an9 cd9 ct9), sl9⟩) (C9 : PySem.W.codeIn K cd9 "law" = true) (K9 : PySem.W.keepIn K (.ref a9) = true)
    (A10 : PySem.W.findIn K (.ref C_Ledger) "__init__" = some (some (.ref a10))) (I10 : PySem.W.isFn K (.ref a10) = true) (L10 : K.lookup a10 = some ⟨oc10, od10, .func (PySem.W.fnOf "__init__" "Ledger.__init__" (defArgs s_Ledger___init__) (defBody s_Ledger___init__) (defScope s_Ledger___init__) .none kV10 dc10 pm10 an10 cd10 ct10), sl10⟩) (C10 : PySem.W.codeIn K cd10 "Ledger.__init__" = true) (K10 : PySem.W.keepIn K (.ref a10) = true)
    (A11 : PySem.W.findIn K (.ref C_Ledger) "offer" = some (some (.ref a11))) (I11 : PySem.W.isFn K (.ref a11) = true) (L11 : K.lookup a11 = some ⟨oc11, od11, .func (PySem.W.fnOf "offer" "Ledger.offer" (defArgs s_Ledger_offer) (defBody s_Ledger_offer) (defScope s_Ledger_offer) .none kV11 dc11 pm11 an11 cd11 ct11), sl11⟩) (C11 : PySem.W.codeIn K cd11 "Ledger.offer" = true) (K11 : PySem.W.keepIn K (.ref a11) = true)
    (A12 : PySem.W.findIn K (.ref C_Ledger) "add" = some (some (.ref a12))) (I12 : PySem.W.isFn K (.ref a12) = true) (L12 : K.lookup a12 = some ⟨oc12, od12, .func (PySem.W.fnOf "add" "Ledger.add" (defArgs s_Ledger_add) (defBody s_Ledger_add) (defScope s_Ledger_add) .none kV12 dc12 pm12 an12 cd12 ct12), sl12⟩) (C12 : PySem.W.codeIn K cd12 "Ledger.add" = true) (K12 : PySem.W.keepIn K (.ref a12) = true)
    (A13 : PySem.W.findIn K (.ref C_Ledger) "_marks_of" = some (some (.ref a13))) (I13 : PySem.W.isFn K (.ref a13) = true) (L13 : K.lookup a13 = some ⟨oc13, od13, .func (PySem.W.fnOf "_marks_of" "Ledger._marks_of" (defArgs s_Ledger__marks_of) (defBody s_Ledger__marks_of) (defScope s_Ledger__marks_of) .none kV13 dc13 pm13 an13 cd13 ct13), sl13⟩) (C13 : PySem.W.codeIn K cd13 "Ledger._marks_of" = true) (K13 : PySem.W.keepIn K (.ref a13) = true)
    (A14 : PySem.W.findIn K (.ref C_Ledger) "undo" = some (some (.ref a14))) (I14 : PySem.W.isFn K (.ref a14) = true) (L14 : K.lookup a14 = some ⟨oc14, od14, .func (PySem.W.fnOf "undo" "Ledger.undo" (defArgs s_Ledger_undo) (defBody s_Ledger_undo) (defScope s_Ledger_undo) .none kV14 dc14 pm14 an14 cd14 ct14), sl14⟩) (C14 : PySem.W.codeIn K cd14 "Ledger.undo" = true) (K14 : PySem.W.keepIn K (.ref a14) = true)
    (A15 : PySem.W.findIn K (.ref C_Ledger) "redo" = some (some (.ref a15))) (I15 : PySem.W.isFn K (.ref a15) = true) (L15 : K.lookup a15 = some ⟨oc15, od15, .func (PySem.W.fnOf "redo" "Ledger.redo" (defArgs s_Ledger_redo) (defBody s_Ledger_redo) (defScope s_Ledger_redo) .none kV15 dc15 pm15 an15 cd15 ct15), sl15⟩) (C15 : PySem.W.codeIn K cd15 "Ledger.redo" = true) (K15 : PySem.W.keepIn K (.ref a15) = true)
    (A16 : PySem.W.findIn K (.ref C_Ledger) "__eq__" = some (some (.ref a16))) (I16 : PySem.W.isFn K (.ref a16) = true) (L16 : K.lookup a16 = some ⟨oc16, od16, .func (PySem.W.fnOf "__eq__" "Ledger.__eq__" (defArgs s_Ledger___eq__) (defBody s_Ledger___eq__) (defScope s_Ledger___eq__) .none kV16 dc16 pm16 an16 cd16 ct16), sl16⟩) (C16 : PySem.W.codeIn K cd16 "Ledger.__eq__" = true) (K16 : PySem.W.keepIn K (.ref a16) = true)
    (Z0 : PySem.W.nsIn K mainGlobals "abs" = some none)
    (Z1 : PySem.W.nsIn K mainGlobals "all" = some none)
    (Z2 : PySem.W.nsIn K mainGlobals "bool" = some none)
    (Z3 : PySem.W.nsIn K mainGlobals "dict" = some none)
    (Z4 : PySem.W.nsIn K mainGlobals "enumerate" = some none)
    (Z5 : PySem.W.nsIn K mainGlobals "int" = some none)
    (Z6 : PySem.W.nsIn K mainGlobals "isinstance" = some none)
    (Z7 : PySem.W.nsIn K mainGlobals "len" = some none)
    (Z8 : PySem.W.nsIn K mainGlobals "list" = some none)
    (Z9 : PySem.W.nsIn K mainGlobals "range" = some none)
    (Z10 : PySem.W.nsIn K mainGlobals "set" = some none)
    (Z11 : PySem.W.nsIn K mainGlobals "str" = some none)
    (Z12 : PySem.W.nsIn K mainGlobals "tuple" = some none)
    (Z13 : PySem.W.nsIn K mainGlobals "zip" = some none)
    (Y0 : PySem.W.nsIn K mainGlobals "LETTERS" = some (some (.str "abcdefghijklmnopqrstuvwxyz" t_LETTERS)))
    (Y1 : PySem.W.nsIn K mainGlobals "LONGEST_NAME" = some (some (.int 6 t_LONGEST_NAME)))
    (Y2 : PySem.W.nsIn K mainGlobals "LOTS" = some (some (.ref p_LOTS))) (W_LOTS : K.lookup p_LOTS = some ⟨.type "tuple", dd_LOTS, .seq #[.str "learn" tl0, .str "judge" tl1] n_LOTS, sl_LOTS⟩)
    (Y3 : PySem.W.nsIn K mainGlobals "MOST_OF_THING" = some (some (.int 3 t_MOST_OF_THING))) :
    ∃ T : Top K mg, T.a_law = fa ∧ ∀ (s : Shared) (v : Value), BindsTo s T.d_law ⟨[v], []⟩ [("_law_script", v)] := by
  have e : a9 = fa := (Value.ref.inj (Option.some.inj (hfa.symm.trans (PySem.W.mg_of X G A9)))).symm
  subst e
  exact ⟨{
    C_Ledger := C_Ledger,
    mc_Ledger := PySem.W.mg_of X G OA_Ledger,
    cl_Ledger := ⟨Oga_Ledger, Ohd_Ledger, Opo_Ledger, Osa_Ledger⟩, mk_Ledger := Omk_Ledger, kp_Ledger := Okp_Ledger,
    n_Ledger__things := On_Ledger__things,
    n_Ledger__rows := On_Ledger__rows,
    n_Ledger__sides := On_Ledger__sides,
    n_Ledger__undone := On_Ledger__undone,
    is_Ledger := ⟨⟨Oga_Ledger, Ohd_Ledger, Opo_Ledger, Osa_Ledger⟩, Oi1_Ledger, Oi2_Ledger, Oi3_Ledger, Oi4_Ledger, Oi5_Ledger⟩, ob_Ledger := Oi6_Ledger,
    cr_Ledger := ⟨Or1_Ledger, Or2_Ledger⟩,
    tk_Ledger_MOST := tk_Ledger_MOST, cv_Ledger_MOST := ⟨Oc_Ledger_MOST, ⟨_, rfl⟩⟩,
    tk_Ledger_MOST_THINGS := tk_Ledger_MOST_THINGS, cv_Ledger_MOST_THINGS := ⟨Oc_Ledger_MOST_THINGS, ⟨_, rfl⟩⟩,
    a_is_name := a0, d_is_name := PySem.W.fnOf "is_name" "is_name" (defArgs s_is_name) (defBody s_is_name) (defScope s_is_name) .none kV0 dc0 pm0 an0 cd0 ct0, F_is_name := fun_mk (st := s_is_name) L0 C0 K0, m_is_name := PySem.W.mg_of X G A0, b_is_name := (fun_mk (st := s_is_name) L0 C0 K0).binds (ps := ["value"]) fun _ _ _ _ _ _ us hl => match us, hl with | [_], _ => rfl,
    a_is_thing := a1, d_is_thing := PySem.W.fnOf "_is_thing" "_is_thing" (defArgs s_is_thing) (defBody s_is_thing) (defScope s_is_thing) .none kV1 dc1 pm1 an1 cd1 ct1, F_is_thing := fun_mk (st := s_is_thing) L1 C1 K1, m_is_thing := PySem.W.mg_of X G A1, b_is_thing := (fun_mk (st := s_is_thing) L1 C1 K1).binds (ps := ["value"]) fun _ _ _ _ _ _ us hl => match us, hl with | [_], _ => rfl,
    a_is_row := a2, d_is_row := PySem.W.fnOf "_is_row" "_is_row" (defArgs s_is_row) (defBody s_is_row) (defScope s_is_row) .none kV2 dc2 pm2 an2 cd2 ct2, F_is_row := fun_mk (st := s_is_row) L2 C2 K2, m_is_row := PySem.W.mg_of X G A2, b_is_row := (fun_mk (st := s_is_row) L2 C2 K2).binds (ps := ["value"]) fun _ _ _ _ _ _ us hl => match us, hl with | [_], _ => rfl,
    a_box := a3, d_box := PySem.W.fnOf "_law_box" "_law_box" (defArgs s_box) (defBody s_box) (defScope s_box) .none kV3 dc3 pm3 an3 cd3 ct3, F_box := fun_mk (st := s_box) L3 C3 K3, m_box := PySem.W.mg_of X G A3, b_box := (fun_mk (st := s_box) L3 C3 K3).binds (ps := ["_law_script"]) fun _ _ _ _ _ _ us hl => match us, hl with | [_], _ => rfl,
    a_pull := a4, d_pull := PySem.W.fnOf "_law_pull" "_law_pull" (defArgs s_pull) (defBody s_pull) (defScope s_pull) .none kV4 dc4 pm4 an4 cd4 ct4, F_pull := fun_mk (st := s_pull) L4 C4 K4, m_pull := PySem.W.mg_of X G A4, b_pull := (fun_mk (st := s_pull) L4 C4 K4).binds (ps := ["_law_box_here", "_law_many"]) fun _ _ _ _ _ _ us hl => match us, hl with | [_, _], _ => rfl,
    a_of := a5, d_of := PySem.W.fnOf "_law_of" "_law_of" (defArgs s_of) (defBody s_of) (defScope s_of) .none kV5 dc5 pm5 an5 cd5 ct5, F_of := fun_mk (st := s_of) L5 C5 K5, m_of := PySem.W.mg_of X G A5, b_of := (fun_mk (st := s_of) L5 C5 K5).binds (ps := ["_law_box_here", "_law_some"]) fun _ _ _ _ _ _ us hl => match us, hl with | [_, _], _ => rfl,
    a_names := a6, d_names := PySem.W.fnOf "_law_names" "_law_names" (defArgs s_names) (defBody s_names) (defScope s_names) .none kV6 dc6 pm6 an6 cd6 ct6, F_names := fun_mk (st := s_names) L6 C6 K6, m_names := PySem.W.mg_of X G A6, b_names := (fun_mk (st := s_names) L6 C6 K6).binds (ps := ["_law_box_here", "_law_many"]) fun _ _ _ _ _ _ us hl => match us, hl with | [_, _], _ => rfl,
    a_same := a7, d_same := PySem.W.fnOf "_law_same" "_law_same" (defArgs s_same) (defBody s_same) (defScope s_same) .none kV7 dc7 pm7 an7 cd7 ct7, F_same := fun_mk (st := s_same) L7 C7 K7, m_same := PySem.W.mg_of X G A7, b_same := (fun_mk (st := s_same) L7 C7 K7).binds (ps := ["_law_found", "_law_due"]) fun _ _ _ _ _ _ us hl => match us, hl with | [_, _], _ => rfl,
    a_ledger := a8, d_ledger := PySem.W.fnOf "_law_ledger" "_law_ledger" (defArgs s_ledger) (defBody s_ledger) (defScope s_ledger) .none kV8 dc8 pm8 an8 cd8 ct8, F_ledger := fun_mk (st := s_ledger) L8 C8 K8, m_ledger := PySem.W.mg_of X G A8, b_ledger := (fun_mk (st := s_ledger) L8 C8 K8).binds (ps := ["_law_things"]) fun _ _ _ _ _ _ us hl => match us, hl with | [_], _ => rfl,
    a_law := a9, d_law := PySem.W.fnOf "law" "law" (defArgs s_law) (defBody s_law) (defScope s_law) .none kV9 dc9 pm9 an9 cd9 ct9, F_law := fun_mk (st := s_law) L9 C9 K9, m_law := PySem.W.mg_of X G A9, b_law := (fun_mk (st := s_law) L9 C9 K9).binds (ps := ["_law_script"]) fun _ _ _ _ _ _ us hl => match us, hl with | [_], _ => rfl,
    a_Ledger___init__ := a10, d_Ledger___init__ := PySem.W.fnOf "__init__" "Ledger.__init__" (defArgs s_Ledger___init__) (defBody s_Ledger___init__) (defScope s_Ledger___init__) .none kV10 dc10 pm10 an10 cd10 ct10, F_Ledger___init__ := fun_mk (st := s_Ledger___init__) L10 C10 K10, M_Ledger___init__ := ⟨A10, I10, K10⟩,
    a_Ledger_offer := a11, d_Ledger_offer := PySem.W.fnOf "offer" "Ledger.offer" (defArgs s_Ledger_offer) (defBody s_Ledger_offer) (defScope s_Ledger_offer) .none kV11 dc11 pm11 an11 cd11 ct11, F_Ledger_offer := fun_mk (st := s_Ledger_offer) L11 C11 K11, M_Ledger_offer := ⟨A11, I11, K11⟩, b_Ledger_offer := (fun_mk (st := s_Ledger_offer) L11 C11 K11).binds (ps := ["self", "row"]) fun _ _ _ _ _ _ us hl => match us, hl with | [_, _], _ => rfl,
    a_Ledger_add := a12, d_Ledger_add := PySem.W.fnOf "add" "Ledger.add" (defArgs s_Ledger_add) (defBody s_Ledger_add) (defScope s_Ledger_add) .none kV12 dc12 pm12 an12 cd12 ct12, F_Ledger_add := fun_mk (st := s_Ledger_add) L12 C12 K12, M_Ledger_add := ⟨A12, I12, K12⟩,
    a_Ledger__marks_of := a13, d_Ledger__marks_of := PySem.W.fnOf "_marks_of" "Ledger._marks_of" (defArgs s_Ledger__marks_of) (defBody s_Ledger__marks_of) (defScope s_Ledger__marks_of) .none kV13 dc13 pm13 an13 cd13 ct13, F_Ledger__marks_of := fun_mk (st := s_Ledger__marks_of) L13 C13 K13, M_Ledger__marks_of := ⟨A13, I13, K13⟩, b_Ledger__marks_of := (fun_mk (st := s_Ledger__marks_of) L13 C13 K13).binds (ps := ["self", "row"]) fun _ _ _ _ _ _ us hl => match us, hl with | [_, _], _ => rfl,
    a_Ledger_undo := a14, d_Ledger_undo := PySem.W.fnOf "undo" "Ledger.undo" (defArgs s_Ledger_undo) (defBody s_Ledger_undo) (defScope s_Ledger_undo) .none kV14 dc14 pm14 an14 cd14 ct14, F_Ledger_undo := fun_mk (st := s_Ledger_undo) L14 C14 K14, M_Ledger_undo := ⟨A14, I14, K14⟩, b_Ledger_undo := (fun_mk (st := s_Ledger_undo) L14 C14 K14).binds (ps := ["self"]) fun _ _ _ _ _ _ us hl => match us, hl with | [_], _ => rfl,
    a_Ledger_redo := a15, d_Ledger_redo := PySem.W.fnOf "redo" "Ledger.redo" (defArgs s_Ledger_redo) (defBody s_Ledger_redo) (defScope s_Ledger_redo) .none kV15 dc15 pm15 an15 cd15 ct15, F_Ledger_redo := fun_mk (st := s_Ledger_redo) L15 C15 K15, M_Ledger_redo := ⟨A15, I15, K15⟩, b_Ledger_redo := (fun_mk (st := s_Ledger_redo) L15 C15 K15).binds (ps := ["self"]) fun _ _ _ _ _ _ us hl => match us, hl with | [_], _ => rfl,
    a_Ledger___eq__ := a16, d_Ledger___eq__ := PySem.W.fnOf "__eq__" "Ledger.__eq__" (defArgs s_Ledger___eq__) (defBody s_Ledger___eq__) (defScope s_Ledger___eq__) .none kV16 dc16 pm16 an16 cd16 ct16, F_Ledger___eq__ := fun_mk (st := s_Ledger___eq__) L16 C16 K16, M_Ledger___eq__ := ⟨A16, I16, K16⟩, b_Ledger___eq__ := (fun_mk (st := s_Ledger___eq__) L16 C16 K16).binds (ps := ["self", "other"]) fun _ _ _ _ _ _ us hl => match us, hl with | [_, _], _ => rfl,
    z_abs := PySem.W.mg_none_of X G Z0,
    z_all := PySem.W.mg_none_of X G Z1,
    z_bool := PySem.W.mg_none_of X G Z2,
    z_dict := PySem.W.mg_none_of X G Z3,
    z_enumerate := PySem.W.mg_none_of X G Z4,
    z_int := PySem.W.mg_none_of X G Z5,
    z_isinstance := PySem.W.mg_none_of X G Z6,
    z_len := PySem.W.mg_none_of X G Z7,
    z_list := PySem.W.mg_none_of X G Z8,
    z_range := PySem.W.mg_none_of X G Z9,
    z_set := PySem.W.mg_none_of X G Z10,
    z_str := PySem.W.mg_none_of X G Z11,
    z_tuple := PySem.W.mg_none_of X G Z12,
    z_zip := PySem.W.mg_none_of X G Z13,
    t_LETTERS := t_LETTERS, c_LETTERS := PySem.W.mg_of X G Y0, r_LETTERS := ⟨_, rfl⟩,
    t_LONGEST_NAME := t_LONGEST_NAME, c_LONGEST_NAME := PySem.W.mg_of X G Y1, r_LONGEST_NAME := ⟨_, rfl⟩,
    p_LOTS := p_LOTS, c_LOTS := PySem.W.mg_of X G Y2, r_LOTS := rfl, q_LOTS := fun H => .inr ⟨_, _, _, W_LOTS, rfl, rfl, (by show 2 ≤ sizeLine; decide), .cons ⟨_, rfl⟩ (.cons ⟨_, rfl⟩ .nil)⟩,
    t_MOST_OF_THING := t_MOST_OF_THING, c_MOST_OF_THING := PySem.W.mg_of X G Y3, r_MOST_OF_THING := ⟨_, rfl⟩ }, rfl, fun s v => .of_eq rfl⟩
theorem all_mk {l : PySem.W.OpenLaw} {w : World} {K : PySem.W.Frag} {mg : Str → Option Value} {fa : Addr}
    (h : ∃ T : Top K mg, T.a_law = fa ∧ ∀ (s : Shared) (v : Value), BindsTo s T.d_law ⟨[v], []⟩ [("_law_script", v)]) :
    ∃ fd : FuncData, (∀ (s : Shared) (v : Value), BindsTo s fd ⟨[v], []⟩ [("_law_script", v)]) ∧ ∀ base : Heap, K.In base → base.Ns mainGlobals mg → FnOk l.prog w K mg base CX0 12 fa fd ["_law_script"] (spLaw K) := by
  obtain ⟨T, rfl, hb⟩ := h
  exact ⟨T.d_law, hb, fun base _ _ => ok_law T⟩
theorem walk {l : PySem.W.OpenLaw} {q : Program} {loose : List Str} {XP : (Str → Option Value) → Heap → Prop} {YP : World → Heap → Prop} {d : DefRec} {K : Params → PySem.W.Frag} (hn : l.most = some 63) (hdf : d.params.defaults = [])
    (hY : ∀ (w : World) (h : Heap), YP w h → (K w.params).In h)
    (F : ∀ (w : World) (mg : Str → Option Value) (fa : Addr) (h : Heap), (K w.params).In h → h.Ns mainGlobals mg → mg d.name = some (.ref fa) →
      ∃ fd : FuncData, (∀ (s : Shared) (u : Value), BindsTo s fd ⟨[u], []⟩ [("_law_script", u)]) ∧ ∀ base : Heap, (K w.params).In base → base.Ns mainGlobals mg → FnOk l.prog w (K w.params) mg base CX0 12 fa fd ["_law_script"] (spLaw (K w.params))) :
    PySem.W.WalkO q loose XP YP l.row.toRowW d [] (fun f vs => PySem.call f vs) :=
  L2.walk_of (n := 63) (k := 12) (x := "_law_script") (CX := fun _ => CX0) (sp := fun w => spLaw (K w.params)) hn (by decide) hdf ⟨rfl, by decide, by decide⟩ hY F (fun _ _ a ns hl _ hS => ⟨a, ns, rfl, hS, hl, fun _ => rfl⟩) fun _ _ _ _ _ z => z
end Bl
open PySem PySem.W PyProof.Rows
set_option maxRecDepth 100000 in
set_option maxHeartbeats 0 in
theorem PySem.Challenge.cw_bothlots_k74_ledgers_that_are_equal_holds : PySem.Challenge.rw_bothlots_k74_ledgers_that_are_equal.Holds := by
  w_on; o_law; k_head; (case hw => w_witness2)
  k_fill
  refine Bl.walk (l := PySem.Challenge.rw_bothlots_k74_ledgers_that_are_equal) rfl rfl (fun w h Y => PySem.W.kIn_of Y) ?F
  case F =>
    intro w mg fa h KX G hmg
    refine Bl.all_mk ?H
    refine' Bl.top_mk KX G hmg ?OA_Ledger ?Oga_Ledger ?Ohd_Ledger ?Opo_Ledger ?Osa_Ledger ?Omk_Ledger ?Okp_Ledger ?On_Ledger__things ?On_Ledger__rows ?On_Ledger__sides ?On_Ledger__undone ?Oi1_Ledger ?Oi2_Ledger ?Oi3_Ledger ?Oi4_Ledger ?Oi5_Ledger ?Oi6_Ledger ?Or1_Ledger ?Or2_Ledger ?Oc_Ledger_MOST ?Oc_Ledger_MOST_THINGS ?A0 ?L0 ?C0 ?K0 ?A1 ?L1 ?C1 ?K1 ?A2 ?L2 ?C2 ?K2 ?A3 ?L3 ?C3 ?K3 ?A4 ?L4 ?C4 ?K4 ?A5 ?L5 ?C5 ?K5 ?A6 ?L6 ?C6 ?K6 ?A7 ?L7 ?C7 ?K7 ?A8 ?L8 ?C8 ?K8 ?A9 ?L9 ?C9 ?K9 ?A10 ?I10 ?L10 ?C10 ?K10 ?A11 ?I11 ?L11 ?C11 ?K11 ?A12 ?I12 ?L12 ?C12 ?K12 ?A13 ?I13 ?L13 ?C13 ?K13 ?A14 ?I14 ?L14 ?C14 ?K14 ?A15 ?I15 ?L15 ?C15 ?K15 ?A16 ?I16 ?L16 ?C16 ?K16 ?Z0 ?Z1 ?Z2 ?Z3 ?Z4 ?Z5 ?Z6 ?Z7 ?Z8 ?Z9 ?Z10 ?Z11 ?Z12 ?Z13 ?Y0 ?Y1 ?Y2 ?W_LOTS ?Y3
    (case OA_Ledger => k_is)
    (case Oga_Ledger => k_is)
    (case Ohd_Ledger => k_is)
    (case Opo_Ledger => k_is)
    (case Osa_Ledger => k_is)
    (case Omk_Ledger => k_is)
    (case Okp_Ledger => k_is)
    (case On_Ledger__things => k_is)
    (case On_Ledger__rows => k_is)
    (case On_Ledger__sides => k_is)
    (case On_Ledger__undone => k_is)
    (case Oi1_Ledger => k_is)
    (case Oi2_Ledger => k_is)
    (case Oi3_Ledger => k_is)
    (case Oi4_Ledger => k_is)
    (case Oi5_Ledger => kernel_rfl)
    (case Oi6_Ledger => kernel_rfl)
    (case Or1_Ledger => k_is)
    (case Or2_Ledger => k_is)
    (case Oc_Ledger_MOST => k_is)
    (case Oc_Ledger_MOST_THINGS => k_is)
    (case A0 => k_is)
    (case L0 => k_is)
    (case C0 => k_is)
    (case K0 => k_is)
    (case A1 => k_is)
    (case L1 => k_is)
    (case C1 => k_is)
    (case K1 => k_is)
    (case A2 => k_is)
    (case L2 => k_is)
    (case C2 => k_is)
    (case K2 => k_is)
    (case A3 => k_is)
    (case L3 => k_is)
    (case C3 => k_is)
    (case K3 => k_is)
    (case A4 => k_is)
    (case L4 => k_is)
    (case C4 => k_is)
    (case K4 => k_is)
    (case A5 => k_is)
    (case L5 => k_is)
    (case C5 => k_is)
    (case K5 => k_is)
    (case A6 => k_is)
    (case L6 => k_is)
    (case C6 => k_is)
    (case K6 => k_is)
    (case A7 => k_is)
    (case L7 => k_is)
    (case C7 => k_is)
    (case K7 => k_is)
    (case A8 => k_is)
    (case L8 => k_is)
    (case C8 => k_is)
    (case K8 => k_is)
    (case A9 => k_is)
    (case L9 => k_is)
    (case C9 => k_is)
    (case K9 => k_is)
    (case A10 => k_is)
    (case I10 => k_is)
    (case L10 => k_is)
    (case C10 => k_is)
    (case K10 => k_is)
    (case A11 => k_is)
    (case I11 => k_is)
    (case L11 => k_is)
    (case C11 => k_is)
    (case K11 => k_is)
    (case A12 => k_is)
    (case I12 => k_is)
    (case L12 => k_is)
    (case C12 => k_is)
    (case K12 => k_is)
    (case A13 => k_is)
    (case I13 => k_is)
    (case L13 => k_is)
    (case C13 => k_is)
    (case K13 => k_is)
    (case A14 => k_is)
    (case I14 => k_is)
    (case L14 => k_is)
    (case C14 => k_is)
    (case K14 => k_is)
    (case A15 => k_is)
    (case I15 => k_is)
    (case L15 => k_is)
    (case C15 => k_is)
    (case K15 => k_is)
    (case A16 => k_is)
    (case I16 => k_is)
    (case L16 => k_is)
    (case C16 => k_is)
    (case K16 => k_is)
    (case Z0 => k_is)
    (case Z1 => k_is)
    (case Z2 => k_is)
    (case Z3 => k_is)
    (case Z4 => k_is)
    (case Z5 => k_is)
    (case Z6 => k_is)
    (case Z7 => k_is)
    (case Z8 => k_is)
    (case Z9 => k_is)
    (case Z10 => k_is)
    (case Z11 => k_is)
    (case Z12 => k_is)
    (case Z13 => k_is)
    (case Y0 => k_is)
    (case Y1 => k_is)
    (case Y2 => k_is)
    (case W_LOTS => k_is)
    (case Y3 => k_is)

