import PyProof.Rows.All
import Wide.All
import OpenK.AllK
import Wide.FinOn
import HandS.ForMost
import HandS.Codes
import HandS.IsInst
import HandS.TupAny
import HandS.Style
import HandS.Walk
import HandS.Zip
import HandS.EndBits
import HandS.Dict
import HandS.More
import PyProof.CollectIter
import PyProof.WalksMore
import HandS.NoneIn
import HandS.Text
import HandS.ForExc
import HandS.ExcInit
import KE.KExcInit
import KE.KExcIs
import HandS.Lambda
import HandS.EndTab
import HandS.HotCalls
import HandS.ExcField
import HandS.TryMany
import HandS.Replace
import HandS.ReplaceList
import HandS.ReplaceLit
import HandS.Star
import HandS.EndOwn
import PySem.Challenge.RW_bothlots_k03_texts_of_tests
set_option Elab.async false
set_option maxRecDepth 100000
set_option maxHeartbeats 4000000
/-! the box of draws, kept apart from all else; data by its shape -/
namespace Bl
open PySem L2
theorem same_new {H : Hp} {p : Addr} (h : H p = none) (o : HO) : Same H (upd H p o) := fun b u q => by
  rw [upd_ne (ne_of_none q h)]
  exact q
theorem Same.tup {K : PySem.W.Frag} {H H' : Hp} {a : Addr} {xs : List V} (e : Same H H') (h : SqT K H a xs) : SqT K H' a xs := by
  rcases h with (h | ⟨o, h⟩) | h
  · exact .inl (.inl (e _ _ h))
  · exact .inl (.inr ⟨o, e _ _ h⟩)
  · exact .inr h
/-- the heap without what stands at p -/
def hide (p : Addr) (H : Hp) : Hp := fun b => if b = p then none else H b
theorem hide_ne {p b : Addr} {H : Hp} (h : b ≠ p) : hide p H b = H b := if_neg h
theorem hide_at {p : Addr} {H : Hp} : hide p H p = none := if_pos rfl
theorem hide_le {p : Addr} {H : Hp} : Same (hide p H) H := fun b o h => by
  by_cases e : b = p
  · subst e
    rw [hide_at] at h
    cases h
  · rw [hide_ne e] at h
    exact h
theorem hide_upd {p : Addr} {H : Hp} {o : HO} : hide p (upd H p o) = hide p H := by
  funext b
  by_cases e : b = p
  · rw [e, hide_at, hide_at]
  · rw [hide_ne e, hide_ne e, upd_ne e]
theorem hide_new {p q : Addr} {H : Hp} {o : HO} (h : q ≠ p) : hide p (upd H q o) = upd (hide p H) q o := by
  funext b
  by_cases e : b = p
  · rw [e, hide_at, upd_ne (Ne.symm h), hide_at]
  · rw [hide_ne e]
    by_cases f : b = q
    · rw [f, upd_same, upd_same]
    · rw [upd_ne f, upd_ne f, hide_ne e]
theorem hide_free {p q : Addr} {H : Hp} (h : H q = none) : hide p H q = none := by
  by_cases e : q = p
  · rw [e, hide_at]
  · rw [hide_ne e]
    exact h
theorem hide_mono {p : Addr} {H H' : Hp} (e : Same H H') : Same (hide p H) (hide p H') := fun b o h => by
  by_cases f : b = p
  · subst f
    rw [hide_at] at h
    cases h
  · rw [hide_ne f] at h ⊢
    exact e b o h
/-- all that was tracked, but what stands at p, is as it was -/
abbrev But (p : Addr) (H H' : Hp) : Prop := Same (hide p H) (hide p H')
theorem But.put {p : Addr} {H H1 : Hp} {o : HO} (a : But p H H1) : But p H (upd H1 p o) := by
  unfold But
  rw [hide_upd]
  exact a
theorem But.of {p : Addr} {H H1 : Hp} (a : Same H H1) : But p H H1 := hide_mono a
theorem But.new {p q : Addr} {H H1 : Hp} (a : But p H H1) (h : H1 q = none) (o : HO) : But p H (upd H1 q o) := Same.trans a (hide_mono (same_new h o))
/-- the law's box of draws -/
def boxL (l : Addr) (i w m c : Int) : List V := [.ref l, .int i, .int w, .int m, .int c]
structure BoxAt (H : Hp) (p l : Addr) : Prop where
  ex : ∃ (ns : List Int) (i w m c : Int), H p = some (.lst (boxL l i w m c)) ∧ hide p H l = some (.lst (ns.map V.int)) ∧ 0 ≤ i ∧ 0 ≤ m ∧ m < 2147483629
theorem BoxAt.mono {H H' : Hp} {p l : Addr} (b : BoxAt H p l) (e : Same H H') : BoxAt H' p l := by
  obtain ⟨ns, i, w, m, c, hp, hl, r⟩ := b
  exact ⟨ns, i, w, m, c, e _ _ hp, hide_mono e _ _ hl, r⟩
theorem BoxAt.new {H : Hp} {p q l : Addr} (b : BoxAt H p l) (h : H q = none) (o : HO) : BoxAt (upd H q o) p l := b.mono (same_new h o)
theorem BoxAt.ne {H : Hp} {p q l : Addr} (b : BoxAt H p l) (h : H q = none) : q ≠ p := by
  obtain ⟨ns, i, w, m, c, hp, _⟩ := b
  exact (ne_of_none hp h).symm
theorem BoxAt.nl {H : Hp} {p q l : Addr} (b : BoxAt H p l) (h : H q = none) : q ≠ l := by
  obtain ⟨ns, i, w, m, c, hp, hl, _⟩ := b
  exact (ne_of_none (hide_le _ _ hl) h).symm
/-- an object that is neither the box nor its cells may change -/
theorem BoxAt.mut {H : Hp} {p q l : Addr} (b : BoxAt H p l) (h : q ≠ p) (h2 : q ≠ l) (o : HO) : BoxAt (upd H q o) p l := by
  obtain ⟨ns, i, w, m, c, hp, hl, r⟩ := b
  exact ⟨ns, i, w, m, c, by rw [upd_ne h.symm]; exact hp, by rw [hide_new h, upd_ne h2.symm]; exact hl, r⟩
/-- an object that was not there may change -/
theorem But.mut {p q : Addr} {H H1 : Hp} (a : But p H H1) (h : H q = none) (o : HO) : But p H (upd H1 q o) := fun b u e => by
  have n1 : b ≠ p := by
    rintro rfl
    rw [hide_at] at e
    cases e
  have e1 := a b u e
  rw [hide_ne n1] at e e1 ⊢
  rw [upd_ne (ne_of_none e h)]
  exact e1
theorem Same.mut {q : Addr} {H H1 : Hp} (a : Same H H1) (h : H q = none) (o : HO) : Same H (upd H1 q o) := fun b u e => by
  rw [upd_ne (ne_of_none e h)]
  exact a b u e
/-- a new object is no box -/
theorem hid_same {p q : Addr} {H : Hp} {o : HO} (h : q ≠ p) : hide p (upd H q o) q = some o := by
  rw [hide_ne h, upd_same]

/-! what the draws promise -/
def spPull (K : PySem.W.Frag) : Sp := fun vs H Q _ => ∃ (p l : Addr) (n : Int), vs = [.ref p, .int n] ∧ BoxAt H p l ∧ 0 < n ∧ n < 1073741824 ∧
  ∀ (d : Int) (H' : Hp), 0 ≤ d → d < n → BoxAt H' p l → But p H H' → Q (.int d) H'
def spBox (K : PySem.W.Frag) : Sp := fun vs H Q _ => ∃ (a : Addr) (ns : List Int), vs = [.ref a] ∧ SqL K H a (ns.map V.int) ∧ ns.length ≤ 63 ∧
  ∀ (p l : Addr) (H' : Hp), H p = none → BoxAt H' p l → Same H H' → Q (.ref p) H'
/-- an item of a list, of a tuple, of a text -/
def spOf (K : PySem.W.Frag) : Sp := fun vs H Q _ => ∃ (p l : Addr) (v : V), vs = [.ref p, v] ∧ BoxAt H p l ∧
  ((∃ a xs, v = .ref a ∧ (SqL K (hide p H) a xs ∨ SqT K (hide p H) a xs) ∧ 0 < xs.length ∧ xs.length < 1000000 ∧ ∀ (i : Nat) (x : V) (H' : Hp), xs[i]? = some x → BoxAt H' p l → But p H H' → Q x H') ∨
    ∃ z : Str, v = .str z ∧ 0 < z.length ∧ z.length < 1000000 ∧ ∀ (c : Nat) (H' : Hp), c ∈ z.cps.toList → BoxAt H' p l → But p H H' → Q (.str ⟨#[c]⟩) H')

/-! small things -/
theorem atI_int {ns : List Int} {i : Int} (h0 : 0 ≤ i) (h : i < ns.length) : ∃ v : Int, atI (ns.map V.int) i = some (.int v) := by
  obtain ⟨n, rfl⟩ := Int.eq_ofNat_of_zero_le h0
  have hk : n < ns.length := by omega
  exact ⟨ns[n], atI_nat (by rw [List.getElem?_map, List.getElem?_eq_getElem hk] <;> rfl)⟩
theorem atI_some {xs : List V} {i : Int} (h0 : 0 ≤ i) (h : i < xs.length) : ∃ (n : Nat) (v : V), xs[n]? = some v ∧ atI xs i = some v := by
  obtain ⟨n, rfl⟩ := Int.eq_ofNat_of_zero_le h0
  have hk : n < xs.length := by omega
  exact ⟨n, xs[n], List.getElem?_eq_getElem hk, atI_nat (List.getElem?_eq_getElem hk)⟩
theorem mod_lt' {a b : Int} (h : 0 < b) : 0 ≤ a % b ∧ a % b < b := ⟨Int.emod_nonneg a (by omega), Int.emod_lt_of_pos a h⟩
theorem small {n : Nat} (h : n ≤ 1000000) : n ≤ sizeLine := Nat.le_trans h (by decide)
theorem small' {n : Nat} (h : n < 1000000) : n < sizeLine := Nat.lt_of_lt_of_le h (by decide)
theorem cutV_63 {ns : List Int} (h : ns.length ≤ 63) : cutV (ns.map V.int) none (some 63) = ns.map V.int := by
  unfold cutV
  rw [HT.sIx_none, show ((some 63 : Option Int)) = some ((63 : Nat) : Int) from rfl, HT.sIx_nat, List.length_map, List.drop_zero, List.take_of_length_le (by rw [List.length_map]; omega)]

/-! data -/
mutual
theorem Dp.mono {K : PySem.W.Frag} {H H' : Hp} (e : Same H H') : ∀ (d : PyData) (v : V), Dp K H v d → Dp K H' v d
  | .none, _, h => by cases h; exact .non
  | .bool _, _, h => by cases h; exact .bl _
  | .int _, _, h => by cases h; exact .int _
  | .str _, _, h => by cases h; exact .str _
  | .list ds, _, h => by
    cases h with
    | lst hs ha => exact .lst (e.seq hs) (DpAll.mono e ds _ ha)
  | .tuple ds, _, h => by
    cases h with
    | tup hs ha => exact .tup (Same.tup e hs) (DpAll.mono e ds _ ha)
  | .dict _, _, h => by cases h
theorem DpAll.mono {K : PySem.W.Frag} {H H' : Hp} (e : Same H H') : ∀ (ds : List PyData) (vs : List V), DpAll K H vs ds → DpAll K H' vs ds
  | [], _, h => by cases h; exact .nil
  | d :: ds, _, h => by
    cases h with
    | cons h1 h2 => exact .cons (Dp.mono e d _ h1) (DpAll.mono e ds _ h2)
end
theorem DpAll.len {K : PySem.W.Frag} {H : Hp} : ∀ {ds : List PyData} {vs : List V}, DpAll K H vs ds → vs.length = ds.length
  | [], _, h => by cases h; rfl
  | _ :: _, _, h => by
    cases h with
    | cons _ h2 => rw [List.length_cons, List.length_cons, DpAll.len h2]
theorem DpAll.get {K : PySem.W.Frag} {H : Hp} : ∀ {ds : List PyData} {vs : List V} {i : Nat} {v : V}, DpAll K H vs ds → vs[i]? = some v → ∃ d, ds[i]? = some d ∧ Dp K H v d
  | [], _, _, _, h, e => by cases h; simp at e
  | d :: ds, _, 0, v, h, e => by
    cases h with
    | cons h1 h2 =>
      simp at e
      subst e
      exact ⟨d, rfl, h1⟩
  | d :: ds, _, i + 1, v, h, e => by
    cases h with
    | cons h1 h2 => exact DpAll.get (i := i) h2 (by simpa using e)
theorem DpAll.app {K : PySem.W.Frag} {H : Hp} : ∀ {ds es : List PyData} {vs us : List V}, DpAll K H vs ds → DpAll K H us es → DpAll K H (vs ++ us) (ds ++ es)
  | [], _, _, _, h, k => by cases h; exact k
  | _ :: _, _, _, _, h, k => by
    cases h with
    | cons h1 h2 => exact .cons h1 (DpAll.app h2 k)
theorem tyL {K : PySem.W.Frag} {H : Hp} {a : Addr} {xs : List V} (h : SqL K H a xs) : TyX K H (.ref a) (.type "list") := by
  rcases h with (h | ⟨o, h⟩) | ⟨o, _, _, h, hc, _⟩
  · exact .base (.lst h)
  · exact .base (.frz h)
  · exact .kList h hc
theorem tyT {K : PySem.W.Frag} {H : Hp} {a : Addr} {xs : List V} (h : SqT K H a xs) : TyX K H (.ref a) (.type "tuple") := by
  rcases h with (h | ⟨o, h⟩) | ⟨o, _, _, h, hc, _⟩
  · exact .base (.tup h)
  · exact .fTuple h
  · exact .kTuple h hc
/-- the built-in type's name -/
def tyN : PyData → String
  | .none => "NoneType"
  | .bool _ => "bool"
  | .int _ => "int"
  | .str _ => "str"
  | .list _ => "list"
  | .tuple _ => "tuple"
  | .dict _ => "dict"
theorem Dp.ty {K : PySem.W.Frag} {H : Hp} : ∀ {d : PyData} {v : V}, Dp K H v d → TyX K H v (.type (tyN d))
  | .none, _, h => by cases h; exact .base .non
  | .bool _, _, h => by cases h; exact .base (.bl _)
  | .int _, _, h => by cases h; exact .base (.int _)
  | .str _, _, h => by cases h; exact .base (.str _)
  | .list ds, _, h => by
    cases h with
    | lst hs _ => exact tyL hs
  | .tuple ds, _, h => by
    cases h with
    | tup hs _ => exact tyT hs
  | .dict _, _, h => by cases h
def isD (T : String) (d : PyData) : Bool := (kitB (tyN d) T).getD false
theorem kit_d {K : PySem.W.Frag} {T : String} {d : PyData} (h : ∀ d : PyData, (kitB (tyN d) T).isSome = true) : PySem.W.kitOne K (.type (tyN d)) (.type T) = some (isD T d) := by
  refine kit_ty ?_
  have := h d
  unfold isD
  cases e : kitB (tyN d) T with
  | none => rw [e] at this; cases this
  | some b => rfl
theorem some_str (d : PyData) : (kitB (tyN d) "str").isSome = true := by cases d <;> (dsimp only [tyN]; decide +kernel)
theorem some_int (d : PyData) : (kitB (tyN d) "int").isSome = true := by cases d <;> (dsimp only [tyN]; decide +kernel)
theorem some_bool (d : PyData) : (kitB (tyN d) "bool").isSome = true := by cases d <;> (dsimp only [tyN]; decide +kernel)
theorem some_list (d : PyData) : (kitB (tyN d) "list").isSome = true := by cases d <;> (dsimp only [tyN]; decide +kernel)
theorem some_tuple (d : PyData) : (kitB (tyN d) "tuple").isSome = true := by cases d <;> (dsimp only [tyN]; decide +kernel)
theorem isStr_eq (d : PyData) : isD "str" d = (match d with | .str _ => true | _ => false) := by cases d <;> (dsimp only [isD, tyN]; decide +kernel)
theorem isInt_eq (d : PyData) : isD "int" d = (match d with | .int _ => true | .bool _ => true | _ => false) := by cases d <;> (dsimp only [isD, tyN]; decide +kernel)
theorem isBool_eq (d : PyData) : isD "bool" d = (match d with | .bool _ => true | _ => false) := by cases d <;> (dsimp only [isD, tyN]; decide +kernel)
theorem isList_eq (d : PyData) : isD "list" d = (match d with | .list _ => true | _ => false) := by cases d <;> (dsimp only [isD, tyN]; decide +kernel)
theorem isTuple_eq (d : PyData) : isD "tuple" d = (match d with | .tuple _ => true | _ => false) := by cases d <;> (dsimp only [isD, tyN]; decide +kernel)
/-- nested less than n deep, without dicts -/
def Fits : Nat → PyData → Prop
  | 0, _ => False
  | _ + 1, .none => True
  | _ + 1, .bool _ => True
  | _ + 1, .int _ => True
  | _ + 1, .str _ => True
  | n + 1, .list ds => ds.length < 1000000 ∧ ∀ d ∈ ds, Fits n d
  | n + 1, .tuple ds => ds.length < 1000000 ∧ ∀ d ∈ ds, Fits n d
  | _ + 1, .dict _ => False
/-- names -/
def alpha : List Nat := [97, 98, 99, 100, 101, 102, 103, 104, 105, 106, 107, 108, 109, 110, 111, 112, 113, 114, 115, 116, 117, 118, 119, 120, 121, 122]
def nameB (z : Str) : Bool := decide (1 ≤ z.length) && decide (z.length ≤ 6) && z.cps.toList.all (fun c => decide (c ∈ alpha))
def nameD : PyData → Bool
  | .str z => nameB z
  | _ => false
theorem alpha_eq : ("abcdefghijklmnopqrstuvwxyz" : Str).cps.toList = alpha := by decide +kernel
/-- what two same data are told -/
def spSame (K : PySem.W.Frag) (n : Nat) : Sp := fun vs H Q _ => ∃ (x y : V) (d : PyData), vs = [x, y] ∧ Dp K H x d ∧ Dp K H y d ∧ Fits n d ∧ ∀ H', Same H H' → Q (.bl true) H'
def spIsName (K : PySem.W.Frag) : Sp := fun vs H Q _ => ∃ (v : V) (d : PyData), vs = [v] ∧ Dp K H v d ∧ (∀ z, d = .str z → z.length ≤ 100000) ∧ ∀ H', Same H H' → Q (.bl (nameD d)) H'
def numD (lo hi : Int) : PyData → Bool
  | .int i => decide (lo ≤ i) && decide (i ≤ hi)
  | _ => false
def spIsNumber (K : PySem.W.Frag) : Sp := fun vs H Q _ => ∃ (v : V) (d : PyData) (lo hi : Int), vs = [v, .int lo, .int hi] ∧ Dp K H v d ∧ ∀ H', Same H H' → Q (.bl (numD lo hi d)) H'
/-- the odd values of the laws -/
def odds : List PyData := [.none, .bool true, .bool false, .str "", .str "A", .str "a1", .str "sevenst", .int (-1), .int 7, .tuple [.int 1, .str "a"], .list [.int 1], .tuple [], .int (10 ^ 14)]
def spOdd (K : PySem.W.Frag) : Sp := fun vs H Q _ => ∃ (p l q : Addr) (ys : List V) (ds : List PyData), vs = [.ref p, .ref q] ∧ BoxAt H p l ∧ H q = some (.lst ys) ∧ q ≠ p ∧ DpAll K (hide p H) ys ds ∧ ds.length ≤ 100 ∧
  ∀ (v : V) (d : PyData) (H' : Hp), d ∈ odds ++ ds → Dp K (hide p H') v d → BoxAt H' p l → But p H H' → Q v H'
end Bl

/-! guards for the short words -/
namespace Bl
open PySem L2
theorem gIte {c : Prop} [i : Decidable c] {A B : Prop} (h : @ite Prop c i A B) : @ite Prop c i A B := h
theorem gLoop {p : (Nat → Nat → St → Hp → Prop) → Prop} (h : Exists p) : Exists p := h
theorem gComp {p : (Nat → Nat → Hp → Prop) → Prop} (h : Exists p) : Exists p := h
theorem gWhile {p : (Nat → St → Hp → Prop) → Prop} (h : Exists p) : Exists p := h
theorem gEx {α : Sort u} {p : α → Prop} {w : α} (h : p w) : Exists p := ⟨w, h⟩
end Bl
namespace Bl
open PySem L2
theorem same_tr {H G H' : Hp} (b : Same G H') (a : Same H G) : Same H H' := a.trans b
theorem get_new {H : Hp} {p q : Addr} {o u : HO} (h : H p = none) (e : H q = some u) : upd H p o q = some u := same_new h o _ _ e
theorem seq_new {K : PySem.W.Frag} {H : Hp} {p q : Addr} {o : HO} {xs : List V} (h : H p = none) (e : SqL K H q xs) : SqL K (upd H p o) q xs := (same_new h o).seq e
theorem tup_new {K : PySem.W.Frag} {H : Hp} {p q : Addr} {o : HO} {xs : List V} (h : H p = none) (e : SqT K H q xs) : SqT K (upd H p o) q xs := Same.tup (same_new h o) e
theorem dp_new {K : PySem.W.Frag} {H : Hp} {p : Addr} {o : HO} {v : V} {d : PyData} (h : H p = none) (e : Dp K H v d) : Dp K (upd H p o) v d := Dp.mono (same_new h o) _ _ e
theorem dpa_new {K : PySem.W.Frag} {H : Hp} {p : Addr} {o : HO} {v : List V} {d : List PyData} (h : H p = none) (e : DpAll K H v d) : DpAll K (upd H p o) v d := DpAll.mono (same_new h o) _ _ e
theorem get_tr {H G : Hp} {q : Addr} {u : HO} (b : Same G H) (e : G q = some u) : H q = some u := b _ _ e
theorem seq_tr {K : PySem.W.Frag} {H G : Hp} {q : Addr} {xs : List V} (b : Same G H) (e : SqL K G q xs) : SqL K H q xs := b.seq e
theorem tup_tr {K : PySem.W.Frag} {H G : Hp} {q : Addr} {xs : List V} (b : Same G H) (e : SqT K G q xs) : SqT K H q xs := Same.tup b e
theorem dp_tr {K : PySem.W.Frag} {H G : Hp} {v : V} {d : PyData} (b : Same G H) (e : Dp K G v d) : Dp K H v d := Dp.mono b _ _ e
theorem dpa_tr {K : PySem.W.Frag} {H G : Hp} {v : List V} {d : List PyData} (b : Same G H) (e : DpAll K G v d) : DpAll K H v d := DpAll.mono b _ _ e
theorem same_nw {H G : Hp} {p : Addr} {o : HO} (h : G p = none) (a : Same H G) : Same H (upd G p o) := a.trans (same_new h o)
end Bl
namespace Bl
/-- what the short words do not open -/
structure Hold (p : Prop) : Prop where
  h : p
end Bl
namespace Bl
theorem gT {b : Bool} {A B : Prop} (hb : b = true) (h : A) : if b = true then A else B := by
  rw [hb, if_pos rfl]
  exact h
theorem gF {b : Bool} {A B : Prop} (hb : b = false) (h : B) : if b = true then A else B := by
  rw [hb, if_neg Bool.false_ne_true]
  exact h
end Bl
namespace Bl
theorem gEq {α : Sort u} {a b : α} (h : a = b) : a = b := h
theorem gLe {α : Type u} [LE α] {a b : α} (h : a ≤ b) : a ≤ b := h
theorem gLt {α : Type u} [LT α] {a b : α} (h : a < b) : a < b := h
end Bl

/-! names drawn: the words, as lists of code points -/
namespace Bl
open PySem L2
open SX (S)
def own : List Nat := [111, 119, 110]
def name4 : List Nat := [110, 97, 109, 101]
def tick4 : List Nat := [116, 105, 99, 107]
def worth5 : List Nat := [119, 111, 114, 116, 104]
theorem own_eq : ("own" : Str) = S own := by decide +kernel
theorem name4_eq : ("name" : Str) = S name4 := by decide +kernel
theorem tick4_eq : ("tick" : Str) = S tick4 := by decide +kernel
theorem worth5_eq : ("worth" : Str) = S worth5 := by decide +kernel
structure NameL (z : List Nat) : Prop where
  pos : 1 ≤ z.length
  six : z.length ≤ 6
  low : ∀ c ∈ z, c ∈ alpha
  no : z ≠ own ∧ z ≠ name4 ∧ z ≠ tick4 ∧ z ≠ worth5
theorem NameL.nameB {z : List Nat} (h : NameL z) : nameB (S z) = true := by
  unfold Bl.nameB
  rw [SX.S_len, decide_eq_true h.pos, decide_eq_true h.six, Bool.true_and, Bool.true_and, List.all_eq_true]
  intro c hc
  exact decide_eq_true (h.low c (by simpa [S] using hc))
theorem cut_pre {a : List Nat} {k : Nat} (h : k ≤ a.length) : cutS (S a) none (some (k : Int)) = S (a.take k) := by
  unfold cutS
  rw [HT.sIx_none, HT.sIx_nat, SX.S_len, List.drop_zero, Nat.sub_zero, Nat.min_eq_left h]
theorem cut_suf {a : List Nat} {k : Nat} (h : k ≤ a.length) : cutS (S a) (some (k : Int)) none = S (a.drop k) := by
  unfold cutS
  rw [HT.sIx_none, HT.sIx_nat, SX.S_len, Nat.min_eq_left h]
  have e : ((S a).cps.toList.drop k).take (a.length - k) = a.drop k := by
    show (a.toArray.toList.drop k).take (a.length - k) = a.drop k
    rw [List.toList_toArray, List.take_of_length_le (by rw [List.length_drop]; exact Nat.le_refl _)]
  rw [e]
theorem cutV_pre {xs : List V} {k : Nat} : cutV xs none (some (k : Int)) = xs.take k := by
  unfold cutV
  rw [HT.sIx_none, HT.sIx_nat, List.drop_zero, Nat.sub_zero]
  by_cases h : k ≤ xs.length
  · rw [Nat.min_eq_left h]
  · rw [Nat.min_eq_right (by omega), List.take_of_length_le (Nat.le_refl _), List.take_of_length_le (by omega)]
theorem alpha_len : alpha.length = 26 := rfl
theorem alpha_nd : alpha.Nodup := by decide
theorem str_ascii : ("abcdefghijklmnopqrstuvwxyz" : Str) = S alpha := by decide +kernel
/-- the k-th word -/
def wd (st : List Nat) (sp f k : Nat) : List Nat := st.take sp ++ alpha.getD ((f + 7 * k) % 26) 0 :: st.drop sp
theorem wd_len {st : List Nat} {sp f k : Nat} : (wd st sp f k).length = st.length + 1 := by
  unfold wd
  rw [List.length_append, List.length_cons, List.length_take, List.length_drop]
  omega
theorem alpha_at (i : Nat) (h : i < 26) : alpha[i]? = some (alpha.getD i 0) := by
  have h2 : i < alpha.length := h
  rw [List.getD_eq_getElem?_getD, List.getElem?_eq_getElem h2]
  rfl
theorem alpha_mem (i : Nat) (h : i < 26) : alpha.getD i 0 ∈ alpha := List.mem_of_getElem? (alpha_at i h)
theorem wd_low {st : List Nat} {sp f k : Nat} (hs : ∀ c ∈ st, c ∈ alpha) : ∀ c ∈ wd st sp f k, c ∈ alpha := by
  intro c hc
  unfold wd at hc
  rcases List.mem_append.mp hc with h | h
  · exact hs c (List.mem_of_mem_take h)
  · rcases List.mem_cons.mp h with h | h
    · rw [h]
      exact alpha_mem _ (Nat.mod_lt _ (by decide))
    · exact hs c (List.mem_of_mem_drop h)
theorem wd_inj {st : List Nat} {sp f k j : Nat} (hk : k < 8) (hj : j < 8) (e : wd st sp f k = wd st sp f j) : k = j := by
  unfold wd at e
  have e1 := List.append_cancel_left e
  have e2 : alpha.getD ((f + 7 * k) % 26) 0 = alpha.getD ((f + 7 * j) % 26) 0 := (List.cons.inj e1).1
  have h1 : (f + 7 * k) % 26 < 26 := Nat.mod_lt _ (by decide)
  have h2 : (f + 7 * j) % 26 < 26 := Nat.mod_lt _ (by decide)
  have e3 : alpha[(f + 7 * k) % 26]? = alpha[(f + 7 * j) % 26]? := by rw [alpha_at _ h1, alpha_at _ h2, e2]
  have e4 : (f + 7 * k) % 26 = (f + 7 * j) % 26 := (List.getElem?_inj (by show _ < 26; exact h1) alpha_nd).mp e3
  omega
theorem nd_map {α : Type} {g : Nat → α} : ∀ n : Nat, (∀ i j, i < n → j < n → g i = g j → i = j) → ((List.range n).map g).Nodup := by
  intro n h
  rw [List.Nodup, List.pairwise_map]
  refine List.Pairwise.imp_of_mem ?_ (List.nodup_range (n := n))
  intro a b ha hb hab e
  exact hab (h a b (List.mem_range.mp ha) (List.mem_range.mp hb) e)
theorem one_out {α : Type} [DecidableEq α] (o : α) : ∀ {l : List α}, l.Nodup → l.length ≤ (l.filter fun z => decide (z ≠ o)).length + 1
  | [], _ => Nat.zero_le _
  | z :: l, h => by
    have h2 := List.nodup_cons.mp h
    by_cases e : z = o
    · subst e
      have e2 : (l.filter fun y => decide (y ≠ z)) = l := List.filter_eq_self.mpr fun y hy => decide_eq_true (by rintro rfl; exact h2.1 hy)
      rw [List.filter_cons_of_neg (by simp), e2, List.length_cons]
      exact Nat.le_refl _
    · rw [List.filter_cons_of_pos (by simpa using e), List.length_cons, List.length_cons]
      have := one_out o h2.2
      omega
/-- the list of the forbidden words, as the law writes it -/
def bads : List V := [.str "own", .str "name", .str "tick", .str "worth"]
theorem inV_bads (z : List Nat) : inV (.str (S z)) bads = decide (z = own ∨ z = name4 ∨ z = tick4 ∨ z = worth5) := by
  have h : ∀ (o : List Nat), eqV (.str (S o)) (.str (S z)) = decide (z = o) := fun o => by
    show (S o == S z) = decide (z = o)
    rw [SX.S_beq_eq]
    by_cases e : o = z
    · rw [decide_eq_true e, decide_eq_true e.symm]
    · rw [decide_eq_false e, decide_eq_false (Ne.symm e)]
  show (eqV (.str "own") (.str (S z)) || (eqV (.str "name") (.str (S z)) || (eqV (.str "tick") (.str (S z)) || (eqV (.str "worth") (.str (S z)) || false)))) = _
  rw [own_eq, name4_eq, tick4_eq, worth5_eq, h, h, h, h, Bool.or_false, Bool.decide_or, Bool.decide_or, Bool.decide_or]
def keepB (z : List Nat) : Bool := !decide (z = own ∨ z = name4 ∨ z = tick4 ∨ z = worth5)
theorem keep_own {z : List Nat} (h : z.length = 1 ∨ z.length = 2 ∨ z.length = 3 ∨ z.length = 6) : keepB z = decide (z ≠ own) := by
  unfold keepB
  have h1 : z ≠ name4 := by rintro rfl; revert h; decide
  have h2 : z ≠ tick4 := by rintro rfl; revert h; decide
  have h3 : z ≠ worth5 := by rintro rfl; revert h; decide
  simp [h1, h2, h3]
/-- the words drawn, those let, the first n of them -/
def wds (st : List Nat) (sp f n : Nat) : List (List Nat) := (List.range n).map (wd st sp f)
theorem wds_names {st : List Nat} {sp f n : Nat} (hn : n ≤ 5) (hs : ∀ c ∈ st, c ∈ alpha) (hl : st.length = 0 ∨ st.length = 1 ∨ st.length = 2 ∨ st.length = 5) :
    (((wds st sp f (n + 2)).filter keepB).take n).length = n ∧ (∀ z ∈ ((wds st sp f (n + 2)).filter keepB).take n, NameL z) ∧ (((wds st sp f (n + 2)).filter keepB).take n).Nodup ∧
      (∀ z ∈ ((wds st sp f (n + 2)).filter keepB).take n, z.length = st.length + 1) := by
  have hlen : ∀ z ∈ wds st sp f (n + 2), z.length = st.length + 1 := fun z hz => by
    obtain ⟨k, _, rfl⟩ := List.mem_map.mp hz
    exact wd_len
  have nd : (wds st sp f (n + 2)).Nodup := nd_map _ fun i j hi hj e => wd_inj (by omega) (by omega) e
  have ef : (wds st sp f (n + 2)).filter keepB = (wds st sp f (n + 2)).filter fun z => decide (z ≠ own) :=
    List.filter_congr fun z hz => keep_own (by rw [hlen z hz]; omega)
  have h1 := one_out own nd
  have h2 : (wds st sp f (n + 2)).length = n + 2 := by unfold wds; rw [List.length_map, List.length_range]
  have mem : ∀ z ∈ ((wds st sp f (n + 2)).filter keepB).take n, z ∈ wds st sp f (n + 2) ∧ keepB z = true := fun z hz => List.mem_filter.mp (List.mem_of_mem_take hz)
  refine ⟨?_, fun z hz => ?_, (nd.sublist List.filter_sublist).sublist (List.take_sublist _ _), fun z hz => hlen z (mem z hz).1⟩
  · rw [List.length_take, ef]
    omega
  · obtain ⟨hm, hk⟩ := mem z hz
    have hlz := hlen z hm
    obtain ⟨k, _, rfl⟩ := List.mem_map.mp hm
    refine ⟨by omega, by omega, wd_low hs, ?_⟩
    unfold keepB at hk
    simpa using hk
theorem joinL_one : ∀ cs : List Nat, TL.joinL [] (cs.map fun c => [c]) = cs
  | [] => rfl
  | [c] => rfl
  | c :: d :: r => by
    show [c] ++ ([] ++ TL.joinL [] ((d :: r).map fun c => [c])) = c :: d :: r
    rw [joinL_one (d :: r)]
    rfl
theorem join_one (cs : List Nat) : Txt.join ("" : Str) (cs.map fun c => S [c]) = S cs := by
  have e : (cs.map fun c => S [c]) = (cs.map fun c => [c]).map S := by rw [List.map_map]; rfl
  rw [e, show ("" : Str) = S [] by decide +kernel, SX.join_S, joinL_one]
def nameV (z : List Nat) : V := .str (S z)
/-- n names -/
def spNames (K : PySem.W.Frag) : Sp := fun vs H Q _ => ∃ (p l : Addr) (n : Nat), vs = [.ref p, .int (n : Int)] ∧ BoxAt H p l ∧ 1 ≤ n ∧ n ≤ 5 ∧
  ∀ (q : Addr) (zs : List (List Nat)) (H' : Hp), zs.length = n → (∀ z ∈ zs, NameL z) → zs.Nodup → (∃ m, ∀ z ∈ zs, z.length = m) → hide p H q = none → q ≠ p → H' q = some (.lst (zs.map nameV)) → BoxAt H' p l → But p H H' → Q (.ref q) H'
end Bl

/-! tests of rows: their shape, what they say of a row -/
namespace Bl
open PySem L2
open SX (S)
inductive Tst where
  | is (c t : List Nat) | has (s : List Nat) | neg (a : Tst) | two (o : Bool) (a b : Tst)
def Tst.deep : Tst → Nat
  | .is _ _ => 1
  | .has _ => 1
  | .neg a => a.deep + 1
  | .two _ a b => max a.deep b.deep + 1
def twoS (o : Bool) : Str := if o then "and" else "or"
def Tst.toD : Tst → PyData
  | .is c t => .tuple [.str "is", .str (S c), .str (S t)]
  | .has s => .tuple [.str "has", .str (S s)]
  | .neg a => .tuple [.str "not", a.toD]
  | .two o a b => .tuple [.str (twoS o), a.toD, b.toD]
/-- made of these columns, this tag, this side -/
def Tst.over (cs : List (List Nat)) (t s : List Nat) : Tst → Prop
  | .is c u => c ∈ cs ∧ u = t
  | .has r => r = s
  | .neg a => a.over cs t s
  | .two _ a b => a.over cs t s ∧ b.over cs t s
theorem Tst.deep_pos : ∀ t : Tst, 1 ≤ t.deep
  | .is _ _ => Nat.le_refl 1
  | .has _ => Nat.le_refl 1
  | .neg _ => Nat.succ_le_succ (Nat.zero_le _)
  | .two _ _ _ => Nat.succ_le_succ (Nat.zero_le _)
def rowV (kvs : List (Key × V)) (k : List Nat) : V := (valV kvs (Sum.inr (S k))).getD .non
def holdB (kvs : List (Key × V)) : Tst → Bool
  | .is c t => decide (rowV kvs c = .str (S t))
  | .has s => decide (rowV kvs s = .bl true)
  | .neg a => !holdB kvs a
  | .two o a b => if o then holdB kvs a && holdB kvs b else holdB kvs a || holdB kvs b
/-- what is asked of the row: columns hold texts or nothing, sides bools or nothing -/
def RowOk (kvs : List (Key × V)) : Tst → Prop
  | .is c _ => rowV kvs c = .non ∨ (∃ b, rowV kvs c = .bl b) ∨ ∃ z, rowV kvs c = .str z
  | .has s => valV kvs (Sum.inr (S s)) = none ∨ ∃ b, valV kvs (Sum.inr (S s)) = some (.bl b)
  | .neg a => RowOk kvs a
  | .two _ a b => RowOk kvs a ∧ RowOk kvs b
theorem iteFk {b : Bool} {A B : Prop} (hb : b = false) (h : B) : if b = true then A else B := by
  rw [hb, if_neg Bool.false_ne_true]
  exact h
theorem iteTk {b : Bool} {A B : Prop} (hb : b = true) (h : A) : if b = true then A else B := by
  rw [hb, if_pos rfl]
  exact h
/-- a tuple's items by their shape -/
theorem Dp.tup2 {K : PySem.W.Frag} {H : Hp} {v : V} {d e : PyData} (h : Dp K H v (.tuple [d, e])) : ∃ a x y, v = .ref a ∧ SqT K H a [x, y] ∧ Dp K H x d ∧ Dp K H y e := by
  cases h with
  | tup hs ha =>
    cases ha with
    | cons h1 h2 =>
      cases h2 with
      | cons h3 h4 =>
        cases h4
        exact ⟨_, _, _, rfl, hs, h1, h3⟩
theorem Dp.tup3 {K : PySem.W.Frag} {H : Hp} {v : V} {d e f : PyData} (h : Dp K H v (.tuple [d, e, f])) : ∃ a x y z, v = .ref a ∧ SqT K H a [x, y, z] ∧ Dp K H x d ∧ Dp K H y e ∧ Dp K H z f := by
  cases h with
  | tup hs ha =>
    cases ha with
    | cons h1 h2 =>
      cases h2 with
      | cons h3 h4 =>
        cases h4 with
        | cons h5 h6 =>
          cases h6
          exact ⟨_, _, _, _, rfl, hs, h1, h3, h5⟩
theorem Dp.str1 {K : PySem.W.Frag} {H : Hp} {v : V} {z : Str} (h : Dp K H v (.str z)) : v = .str z := by
  cases h
  rfl
/-- is True, of a bool or None -/
def rIsNB : R2 := fun x y H Q => ∃ b : Bool, y = .bl b ∧ (x = .non ∧ Q (.bl false) H ∨ ∃ a, x = .bl a ∧ Q (.bl (decide (a = b))) H)
theorem op_isNB {X : Cx} : OpR X (compareOp .Is) rIsNB := by
  intro pins s σ H x y v u Q I rx ry h
  obtain ⟨b, rfl, ⟨rfl, q⟩ | ⟨a, rfl, q⟩⟩ := h
  · cases (show v = Value.none from rx)
    cases (show u = Value.bool b from ry)
    exact PySem.wpAny_is_other rfl (fun z => nomatch z) ⟨.bl false, H, I, rfl, q⟩
  · exact op_isBl pins s σ H _ _ v u Q I rx ry ⟨a, b, rfl, rfl, q⟩
def spHolds (K : PySem.W.Frag) (n : Nat) : Sp := fun vs H Q _ => ∃ (v : V) (t : Tst) (d : Addr) (kvs : List (Key × V)), vs = [v, .ref d] ∧ Dp K H v t.toD ∧ H d = some (.dK kvs) ∧ t.deep ≤ n ∧ RowOk kvs t ∧
  ∀ H', Same H H' → Q (.bl (holdB kvs t)) H'
def spFree (K : PySem.W.Frag) (n : Nat) : Sp := fun vs H Q _ => ∃ (p l q : Addr) (w0 w1 w2 w3 w4 : List Nat) (d : Nat), vs = [.ref p, .ref q, .int (d : Int)] ∧ BoxAt H p l ∧ hide p H q = some (.lst [nameV w0, nameV w1, nameV w2, nameV w3, nameV w4]) ∧
  w0.length ≤ 1000 ∧ w2.length ≤ 1000 ∧ 1 ≤ d ∧ d ≤ n ∧ ∀ (v : V) (t : Tst) (H' : Hp), t.deep = d → t.over [w0, w1, w2 ++ 46 :: w0] w3 w4 → Dp K (hide p H') v t.toD → BoxAt H' p l → But p H H' → Q v H'
end Bl

/-! my own rule: a, *b = a tuple -/
namespace Bl
open PySem L2 PyProof.Rows
theorem iter_tupiter {prog : Program} {w : World} {A : Around} {E : Value → Shared → Prop} {s : Shared} {it t : Addr} {i : Nat} {Q : Value → Shared → Prop} (hit : IsTupIter s.heap it t i) (h : Q (.ref it) s) : wpAny (model prog w) A (pyIter (.ref it)) Q E s := by
  refine wpAny_pyIter_slot hit.typeIs F.slot_tuple_iterator_iter (wpAny_call_entry F.slot_tuple_iterator_iter hit.typeIs F.entry_tuple_iterator_iter ?_ (F.args_tuple_iterator_iter_1 _))
  show wpAny _ _ (ret (.ref it)) _ _ s
  exact wpAny_pure ⟨_, rfl, "tuple_iterator", _, hit.typeIs, F.slot_tuple_iterator_next.lookup, h⟩
theorem tup_at {h h' : Heap} {a : Addr} {items : Array Value} (x : IsTup h a items) (e : ∀ o, h.get? a = some o → h'.get? a = some o) : IsTup h' a items := let ⟨o, ho, r⟩ := x; ⟨o, e _ ho, r⟩
theorem tupiter_at {h h' : Heap} {a t : Addr} {i : Nat} (x : IsTupIter h a t i) (e : ∀ o, h.get? a = some o → h'.get? a = some o) : IsTupIter h' a t i := let ⟨o, ho, r⟩ := x; ⟨o, e _ ho, r⟩
theorem walks_from1 {prog : Program} {w : World} {A : Around} (hh : A.handled = none) (I ax : Addr) (hne : ax ≠ I) (items : Array Value) (h1 : 1 ≤ items.size) :
    Walks prog w A I [I, ax] [I] (items.size - 1) (fun i v => items[i + 1]? = some v) (fun i h => IsTupIter h I ax (i + 1) ∧ IsTup h ax items) where
  sub := fun b hb => by simp at hb; simp [hb]
  frame := fun _ _ _ st hk => ⟨tupiter_at st.1 fun o e => hk I (by simp) o e, tup_at st.2 fun o e => hk ax (by simp) o e⟩
  item := fun i s Q E hi st hQ => by
    have hlt : i + 1 < items.size := by omega
    refine next_tuple_item st.1 st.2 (x := items[i + 1]) (by simp [hlt]) fun h' hit' hs' => ?_
    exact hQ _ h' s.toks (by simp [hlt]) ⟨hit', st.2.extBut hs'.extBut hne⟩ fun b o hb e => hs'.extBut b o (fun h => hb (by simp [h])) e
  done := fun s Q E st hQ => next_tuple_end hh st.1 st.2 (by rw [show items.size - 1 + 1 = items.size by omega]; simp) fun h' he' => hQ h' s.toks fun b o hb e => he' b o (fun h => hb (by simp [h])) e
  self := fun _ _ _ _ st hQ => iter_tupiter st.1 hQ
theorem items_tail {items : Array Value} {acc : Array Value} (h1 : 1 ≤ items.size) (h : ItemsOf (fun i v => items[i + 1]? = some v) acc (items.size - 1)) : acc.toList = items.toList.drop 1 := by
  obtain ⟨hs, hv⟩ := h
  apply List.ext_getElem?
  intro j
  rw [List.getElem?_drop, Array.getElem?_toList, Array.getElem?_toList, Nat.add_comm]
  by_cases hj : j < acc.size
  · have e : acc[j]? = some acc[j] := by simp [hj]
    rw [e]
    exact (hv j _ e).symm
  · rw [Array.getElem?_eq_none (by omega), Array.getElem?_eq_none (by omega)]
/-- what is asked: the tuple has a first item; a new list of the others -/
def gStar1 (K : PySem.W.Frag) (t u : TG) : TG := fun v σ H Q => ∃ a x xs, v = .ref a ∧ SqT K H a (x :: xs) ∧ ∀ p, H p = none → t x σ (upd H p (.lst xs)) fun σ1 H1 => u (.ref p) σ1 H1 Q
theorem pg_star1 {X : Cx} {e1 e2 : Expr} {k : Nat} {pos q : Pos} {t u : TG} (hc : X.calm = true) (h1 : PG X e1 t) (h2 : PG X e2 u)
    (hn : assignEach [e1, .Starred e2 q] X.env = [(false, assign e1 X.env), (true, assign e2 X.env)] := by rfl) : PG X (.Tuple [e1, .Starred e2 q] k pos) (gStar1 X.K t u) := by
  refine ⟨fun pins s σ H v w Q I r hw => ?_⟩
  obtain ⟨a, x, xs, rfl, hs, hw⟩ := hw
  obtain rfl : w = Value.ref a := r
  obtain ⟨its, rv, ht, hz⟩ := I.tuple hs
  obtain ⟨y, ys, rfl, rx, rxs⟩ : ∃ y ys, its = y :: ys ∧ RelV x y ∧ Vals xs ys := by
    cases rv with
    | cons p q => exact ⟨_, _, rfl, p, q⟩
  have hh := I.ok.hd hc
  have hlt : a ≠ s.heap.objs.size := by obtain ⟨o, ho, _⟩ := ht; exact Nat.ne_of_lt (Heap.lt_size ho)
  rw [assign_Tuple, hn]
  refine wpAny_bind (wpAny_standAt ?_)
  unfold unpack
  refine wpAny_bind (wpAny_holding ?_)
  show wpAny _ _ (unpackItems (.ref a) 2 (some 1)) _ _ s
  unfold unpackItems
  refine wpAny_bind ?_
  unfold notIterableAtAll
  refine wpAny_bind (wpAny_specialOf ht.typeIs slot_tuple_iter.lookup ?_)
  refine wpAny_pure ?_
  simp only [Bool.false_eq_true, if_false]
  refine wpAny_bind (wpAny_holding (iter_tuple ht ?_))
  refine wpAny_bind (wpAny_holding (draw_tuple hlt 1 0 _ _ ⟨_, Heap.get?_push_size _ rfl, rfl, rfl⟩ (ht.push _) (by simp) fun h₁ hit₁ hs₁ => ?_))
  have hfirst : List.take 1 (List.drop 0 (y :: ys).toArray.toList) = [y] := by simp
  rw [hfirst]
  rw [if_neg (by simp)]
  have hk₁ : ∀ b o, b ≠ s.heap.objs.size → s.heap.get? b = some o → h₁.get? b = some o := fun b o hb e => hs₁.extBut b o hb (Heap.get?_push_of_some _ e)
  have ht₁ : IsTup h₁ a (y :: ys).toArray := (ht.push _).extBut hs₁.extBut hlt
  have hsz₁ : s.heap.objs.size < h₁.objs.size := by
    obtain ⟨o, ho, _⟩ := hit₁
    exact Heap.lt_size ho
  have hax₁ : a < h₁.objs.size := by
    obtain ⟨o, ho, _⟩ := ht₁
    exact Heap.lt_size ho
  have hysl : ys.length ≤ sizeLine := by
    have h3 := rxs.length
    have h4 : (x :: xs).length ≤ sizeLine := hz
    rw [List.length_cons] at h4
    omega
  refine wpAny_bind (wpAny_holding (wpAny_collect_iter (T := "tuple_iterator") (.inr (.inr (.inr rfl))) (Walks.toS (walks_from1 (A := X.A.in1) hh s.heap.objs.size a hlt (y :: ys).toArray (by simp)))
    (fun i s' st => st.1.typeIs) ⟨hit₁, ht₁⟩ (fun b hb => ?_) (by simp) (fun s' acc hm hacc => ?_) (by simpa using hysl)))
  · simp at hb
    rcases hb with rfl | rfl
    · exact hsz₁
    · exact hax₁
  have hacc' : acc.toList = ys := by
    rw [items_tail (by simp) hacc]
    simp
  have hnl : acc.toList.length = ys.length := by rw [hacc']
  rw [hacc']
  obtain ⟨hk₂, hg, hd, ho, htk⟩ := hm
  obtain ⟨h₂, g₂, d₂, t₂, o₂⟩ := s'
  dsimp only at hk₂ hg hd ho htk
  subst hg hd ho
  have hk : ∀ b o, s.heap.get? b = some o → h₂.get? b = some o := fun b o e => hk₂ b o (by simpa using Nat.ne_of_lt (Heap.lt_size e)) (hk₁ b o (Nat.ne_of_lt (Heap.lt_size e)) e)
  have I3 : Inv X pins σ H { s with heap := h₂, toks := t₂ } := I.kept hk
  have hxl : xs.length ≤ sizeLine := by rw [rxs.length]; exact hysl
  have I2 := I3.lnew (t' := t₂) rxs hxl
  rw [if_neg (by simp)]
  have hpn : H h₂.objs.size = none := I3.fresh
  have q := hw _ hpn
  show wpAny _ _ (newList (ys.take ys.length) >>= fun l => pure ([y] ++ [l] ++ ys.drop ys.length)) _ _ _
  rw [List.take_length, List.drop_length]
  refine wpAny_bind (wpAny_newObj_type ?_ hysl)
  refine wpAny_pure ?_
  show wpAny _ _ (assignInOrder [assign e1 X.env, assign e2 X.env] [y, Value.ref h₂.objs.size]) _ _ _
  refine assignInOrder_cons (thn (h1.run _ _ _ _ _ _ _ I2 rx q) fun _ s4 ⟨σ4, H4, I4, q4⟩ => ?_)
  refine assignInOrder_cons (thn (h2.run _ _ _ _ (.ref h₂.objs.size) _ _ I4 rfl q4) fun _ s5 ⟨σ5, H5, I5, q5⟩ => ?_)
  exact assignInOrder_nil ⟨σ5, H5, I5, q5⟩
end Bl

/-! what is a test, of any data -/
namespace Bl
open PySem L2
open SX (S)
def dot : Str := "."
theorem dot_eq : ("." : Str) = S [46] := by decide +kernel
def colB (z : Str) : Bool := decide ((Txt.split z ".").length ≤ 2) && (Txt.split z ".").all nameB
def colD : PyData → Bool
  | .str z => colB z
  | _ => false
theorem split_dot (a : List Nat) : Txt.split (S a) "." = (TL.spl [46] 0 [] a).map S := by
  rw [dot_eq]
  exact SX.split_S (by decide) (by decide)
theorem spl_len {s : List Nat} : ∀ (l : List Nat) (k : Nat) (acc : List Nat), ∀ p ∈ TL.spl s k acc l, p.length ≤ acc.length + l.length
  | [], k, acc, p, h => by
    have e : TL.spl s k acc [] = [acc] := by cases k <;> rfl
    rw [e] at h
    obtain rfl := List.mem_singleton.mp h
    exact Nat.le_add_right _ _
  | c :: r, k + 1, acc, p, h => by
    have h' : p ∈ TL.spl s k acc r := h
    have := spl_len r k acc p h'
    rw [List.length_cons]
    omega
  | c :: r, 0, acc, p, h => by
    have h' : p ∈ (if TL.pre s (c :: r) = true then acc :: TL.spl s (s.length - 1) [] r else TL.spl s 0 (acc ++ [c]) r) := h
    rw [List.length_cons]
    by_cases hp : TL.pre s (c :: r) = true
    · rw [if_pos hp] at h'
      rcases List.mem_cons.mp h' with rfl | h'
      · exact Nat.le_add_right _ _
      · have := spl_len r _ [] p h'
        rw [List.length_nil] at this
        omega
    · rw [if_neg hp] at h'
      have := spl_len r _ _ p h'
      rw [List.length_append] at this
      have e1 : [c].length = 1 := rfl
      omega
theorem split_len {z y : Str} (h : y ∈ Txt.split z ".") : y.length ≤ z.length := by
  rw [← SX.S_tl z, split_dot] at h
  obtain ⟨l, hl, rfl⟩ := List.mem_map.mp h
  have := spl_len _ _ _ _ hl
  rw [SX.S_len]
  rw [List.length_nil, Nat.zero_add, Array.length_toList] at this
  exact this
theorem split_one {a : List Nat} (h : 46 ∉ a) : Txt.split (S a) "." = [S a] := by
  rw [split_dot, show TL.spl [46] 0 [] a = [a] from SX.spl_join (c := 46) (sep := []) (parts := [a]) (by simp) (by simpa using h)]
  rfl
theorem split_two {a b : List Nat} (h : 46 ∉ a) (k : 46 ∉ b) : Txt.split (S (a ++ 46 :: b)) "." = [S a, S b] := by
  rw [split_dot, show TL.spl [46] 0 [] (a ++ 46 :: b) = [a, b] from SX.spl_join (c := 46) (sep := []) (parts := [a, b]) (by simp) (by simp [h, k])]
  rfl
theorem no_dot {z : List Nat} (h : NameL z) : 46 ∉ z := fun hm => absurd (h.low 46 hm) (by decide)
theorem col_one {z : List Nat} (h : NameL z) : colB (S z) = true := by
  unfold colB
  rw [split_one (no_dot h)]
  simp [NameL.nameB h]
theorem col_two {y z : List Nat} (h : NameL y) (k : NameL z) : colB (S (y ++ 46 :: z)) = true := by
  unfold colB
  rw [split_two (no_dot h) (no_dot k)]
  simp [NameL.nameB h, NameL.nameB k]
/-- how many tests stand behind a first word -/
def partsN (h : Str) : Option Nat := if h = "not" then some 1 else if h = "and" then some 2 else if h = "or" then some 2 else none
def atD (f : PyData → Bool) (ds : List PyData) (i : Nat) : Bool := match ds[i]? with
  | some d => f d
  | none => false
def leafB (h : Str) (rest : List PyData) : Bool :=
  if h = "has" then decide (rest.length = 1) && atD nameD rest 0 else decide (h = "is") && (decide (rest.length = 2) && (atD colD rest 0 && atD nameD rest 1))
def isT : Nat → PyData → Bool
  | 0, _ => false
  | n + 1, .tuple (.str h :: rest) => match partsN h with
    | some k => decide (rest.length = k) && rest.all (isT n)
    | none => leafB h rest
  | _ + 1, _ => false
/-- texts and tuples of some size, n deep -/
def Sm : Nat → PyData → Prop
  | 0, _ => True
  | _ + 1, .str z => z.length ≤ 100000
  | n + 1, .tuple ds => ds.length ≤ 1000 ∧ ∀ d ∈ ds, Sm n d
  | _ + 1, _ => True
def spIsCol (K : PySem.W.Frag) : Sp := fun vs H Q _ => ∃ (v : V) (d : PyData), vs = [v] ∧ Dp K H v d ∧ (∀ z, d = .str z → z.length ≤ 100000) ∧ ∀ H', Same H H' → Q (.bl (colD d)) H'
def spIsT (K : PySem.W.Frag) (n : Nat) : Sp := fun vs H Q _ => ∃ (v : V) (d : PyData) (m : Nat), vs = [v, .int (m : Int)] ∧ m < n ∧ Dp K H v d ∧ Sm (m + 1) d ∧ ∀ H', Same H H' → Q (.bl (isT m d)) H'
theorem pn_not : partsN "not" = some 1 := by decide +kernel
theorem pn_and : partsN "and" = some 2 := by decide +kernel
theorem pn_or : partsN "or" = some 2 := by decide +kernel
theorem pn_is : partsN "is" = none := by decide +kernel
theorem pn_has : partsN "has" = none := by decide +kernel
theorem pn_two (o : Bool) : partsN (twoS o) = some 2 := by cases o <;> decide +kernel
theorem is_has : ¬ (("is" : Str) = "has") := by decide +kernel
theorem isT_parts {h : Str} {k : Nat} (n : Nat) (rest : List PyData) (e : partsN h = some k) : isT (n + 1) (.tuple (.str h :: rest)) = (decide (rest.length = k) && rest.all (isT n)) := by
  show (match partsN h with | some k => _ | none => leafB h rest) = _
  rw [e]
theorem isT_leaf {h : Str} (n : Nat) (rest : List PyData) (e : partsN h = none) : isT (n + 1) (.tuple (.str h :: rest)) = leafB h rest := by
  show (match partsN h with | some k => _ | none => leafB h rest) = _
  rw [e]
theorem isT_is (n : Nat) (a b : PyData) : isT (n + 1) (.tuple [.str "is", a, b]) = (colD a && nameD b) := by
  rw [isT_leaf n _ pn_is]
  unfold leafB
  rw [if_neg is_has]
  simp [atD]
theorem isT_has (n : Nat) (a : PyData) : isT (n + 1) (.tuple [.str "has", a]) = nameD a := by
  rw [isT_leaf n _ pn_has]
  unfold leafB
  rw [if_pos rfl]
  simp [atD]
/-- a drawn test is one, if it is not too deep -/
structure Words (w0 w1 w2 w3 w4 : List Nat) : Prop where
  a : NameL w0
  b : NameL w1
  c : NameL w2
  d : NameL w3
  e : NameL w4
theorem Words.col {w0 w1 w2 w3 w4 : List Nat} (W : Words w0 w1 w2 w3 w4) {c : List Nat} (h : c ∈ [w0, w1, w2 ++ 46 :: w0]) : colB (S c) = true ∧ c.length ≤ 13 := by
  have h0 := W.a.six
  have h1 := W.b.six
  have h2 := W.c.six
  rcases List.mem_cons.mp h with rfl | h
  · exact ⟨col_one W.a, by omega⟩
  rcases List.mem_cons.mp h with rfl | h
  · exact ⟨col_one W.b, by omega⟩
  obtain rfl := List.mem_singleton.mp h
  refine ⟨col_two W.c W.a, ?_⟩
  rw [List.length_append, List.length_cons]
  omega
theorem isT_over {w0 w1 w2 w3 w4 : List Nat} (W : Words w0 w1 w2 w3 w4) : ∀ (n : Nat) (t : Tst), t.over [w0, w1, w2 ++ 46 :: w0] w3 w4 → isT n t.toD = decide (t.deep ≤ n)
  | 0, t, _ => by
    have := t.deep_pos
    exact (decide_eq_false (by omega)).symm
  | n + 1, .is c t, h => by
    obtain ⟨hc, rfl⟩ := h
    show isT (n + 1) (.tuple [.str "is", .str (S c), .str (S t)]) = _
    rw [isT_is]
    show (colB (S c) && nameB (S t)) = decide (1 ≤ n + 1)
    rw [(W.col hc).1, NameL.nameB W.d, decide_eq_true (by omega)]
    rfl
  | n + 1, .has s, h => by
    obtain rfl : s = w4 := h
    show isT (n + 1) (.tuple [.str "has", .str (S s)]) = _
    rw [isT_has]
    show nameB (S s) = decide (1 ≤ n + 1)
    rw [NameL.nameB W.e, decide_eq_true (by omega)]
  | n + 1, .neg t, h => by
    show isT (n + 1) (.tuple [.str "not", t.toD]) = decide (t.deep + 1 ≤ n + 1)
    rw [isT_parts n _ pn_not, List.all_cons, List.all_nil, isT_over W n t h]
    simp
  | n + 1, .two o t u, h => by
    show isT (n + 1) (.tuple [.str (twoS o), t.toD, u.toD]) = decide (max t.deep u.deep + 1 ≤ n + 1)
    rw [isT_parts n _ (pn_two o), List.all_cons, List.all_cons, List.all_nil, isT_over W n t h.1, isT_over W n u h.2]
    have e2 : decide (max t.deep u.deep + 1 ≤ n + 1) = (decide (t.deep ≤ n) && decide (u.deep ≤ n)) := by
      by_cases h1 : t.deep ≤ n
      · by_cases h2 : u.deep ≤ n
        · rw [decide_eq_true h1, decide_eq_true h2, decide_eq_true (by omega)]
          rfl
        · rw [decide_eq_false h2, decide_eq_false (by omega), Bool.and_false]
      · rw [decide_eq_false h1, decide_eq_false (by omega), Bool.false_and]
    rw [e2]
    simp
theorem Sm_over {w0 w1 w2 w3 w4 : List Nat} (W : Words w0 w1 w2 w3 w4) : ∀ (n : Nat) (t : Tst), t.over [w0, w1, w2 ++ 46 :: w0] w3 w4 → Sm n t.toD
  | 0, _, _ => True.intro
  | 1, .is _ _, _ => ⟨by show 3 ≤ 1000; decide, fun _ _ => True.intro⟩
  | 1, .has _, _ => ⟨by show 2 ≤ 1000; decide, fun _ _ => True.intro⟩
  | n + 2, .is c t, h => by
    obtain ⟨hc, rfl⟩ := h
    refine ⟨by show 3 ≤ 1000; decide, fun d hd => ?_⟩
    rcases List.mem_cons.mp hd with rfl | hd
    · show ("is" : Str).length ≤ 100000
      decide +kernel
    rcases List.mem_cons.mp hd with rfl | hd
    · show (S c).length ≤ 100000
      rw [SX.S_len]
      have := (W.col hc).2
      omega
    obtain rfl := List.mem_singleton.mp hd
    show (S t).length ≤ 100000
    rw [SX.S_len]
    have := W.d.six
    omega
  | n + 2, .has s, h => by
    obtain rfl : s = w4 := h
    refine ⟨by show 2 ≤ 1000; decide, fun d hd => ?_⟩
    rcases List.mem_cons.mp hd with rfl | hd
    · show ("has" : Str).length ≤ 100000
      decide +kernel
    obtain rfl := List.mem_singleton.mp hd
    show (S s).length ≤ 100000
    rw [SX.S_len]
    have := W.e.six
    omega
  | n + 1, .neg t, h => by
    refine ⟨by show 2 ≤ 1000; decide, fun d hd => ?_⟩
    rcases List.mem_cons.mp hd with rfl | hd
    · cases n with
      | zero => exact True.intro
      | succ n =>
        show ("not" : Str).length ≤ 100000
        decide +kernel
    obtain rfl := List.mem_singleton.mp hd
    exact Sm_over W n t h
  | n + 1, .two o t u, h => by
    refine ⟨by show 3 ≤ 1000; decide, fun d hd => ?_⟩
    rcases List.mem_cons.mp hd with rfl | hd
    · cases n with
      | zero => exact True.intro
      | succ n =>
        show (twoS o).length ≤ 100000
        cases o <;> decide +kernel
    rcases List.mem_cons.mp hd with rfl | hd
    · exact Sm_over W n t h.1
    obtain rfl := List.mem_singleton.mp hd
    exact Sm_over W n u h.2
/-! the written table of first words -/
def PartsAt (K : PySem.W.Frag) (w : World) (p : Addr) : Prop := ∃ es n, KDict K w p es n ∧ ∀ z : Str, ∃ r, PySem.W.nsIn K p z = some r ∧ (match partsN z with
  | some k => ∃ t, r = some (.int (k : Int) t)
  | none => r = none)
section
variable {X : Cx} {p : Addr}
theorem op_in_parts (h : PartsAt X.K X.w p) : OpR X (compareOp .In) (fun x y H Q => ∃ z, x = .str z ∧ y = .ref p ∧ Q (.bl (partsN z).isSome) H) := by
  intro pins s σ H x y v u Q I rx ry h2
  obtain ⟨z, rfl, rfl, q⟩ := h2
  obtain ⟨es, n, D, hz⟩ := h
  obtain ⟨r, hr, hk⟩ := hz z
  have e : (partsN z).isSome = r.isSome := by
    cases e : partsN z with
    | none =>
      rw [e] at hk
      rw [hk]
      rfl
    | some k =>
      rw [e] at hk
      obtain ⟨t, rfl⟩ := hk
      rfl
  rw [e] at q
  exact op_in_kd D pins s σ H _ _ v u Q I rx ry ⟨z, r, rfl, rfl, hr, q⟩
theorem ix_parts (h : PartsAt X.K X.w p) : IxR X (fun x y H Q => ∃ z, ∃ k : Nat, x = .ref p ∧ y = .str z ∧ partsN z = some k ∧ Q (.int k) H) := by
  intro value slice pins s σ H x y v u Q I rx ry h2 hs
  obtain ⟨z, k, rfl, rfl, hp, q⟩ := h2
  obtain ⟨es, n, D, hz⟩ := h
  obtain ⟨r, hr, hk⟩ := hz z
  rw [hp] at hk
  obtain ⟨t, rfl⟩ := hk
  exact ix_kdict value slice pins s σ H _ _ v u Q I rx ry ⟨p, z, .int k, rfl, rfl, ⟨es, n, _, D.at_, D.lit, hr, ⟨t, rfl⟩⟩, q⟩ hs
end
theorem parts_mk {K : PySem.W.Frag} {w : World} {p : Addr} {n : Nat} {h0 h1 h2 : Int} {t0 t1 t2 u0 u1 u2 : Tok}
    (L : K.lookup p = some ⟨.type "dict", none, .dict #[⟨h0, .str "not" t0, .int 1 u0⟩, ⟨h1, .str "and" t1, .int 2 u1⟩, ⟨h2, .str "or" t2, .int 2 u2⟩] n, #[]⟩)
    (V : PySem.W.KeysLit w.params [⟨h0, .str "not" t0, .int 1 u0⟩, ⟨h1, .str "and" t1, .int 2 u1⟩, ⟨h2, .str "or" t2, .int 2 u2⟩]) (hs : (p == sysModules) = false) : PartsAt K w p := by
  refine ⟨_, n, ⟨L, V, hs⟩, fun z => ?_⟩
  unfold PySem.W.nsIn
  rw [L]
  have hb : ∀ a b : Str, (a == b) = decide (b = a) := fun a b => by
    by_cases e : b = a
    · rw [decide_eq_true e, e]
      exact beq_self_eq_true _
    · rw [decide_eq_false e]
      exact beq_eq_false_iff_ne.mpr (Ne.symm e)
  by_cases e0 : z = "not"
  · subst e0
    rw [pn_not]
    exact ⟨some (.int 1 u0), by simp [List.find?, Value.isStr], u0, rfl⟩
  by_cases e1 : z = "and"
  · subst e1
    rw [pn_and]
    have n1 : (("not" : Str) == "and") = false := by decide +kernel
    exact ⟨some (.int 2 u1), by simp [List.find?, Value.isStr, n1], u1, rfl⟩
  by_cases e2 : z = "or"
  · subst e2
    rw [pn_or]
    have n1 : (("not" : Str) == "or") = false := by decide +kernel
    have n2 : (("and" : Str) == "or") = false := by decide +kernel
    exact ⟨some (.int 2 u2), by simp [List.find?, Value.isStr, n1, n2], u2, rfl⟩
  have e3 : partsN z = none := by
    unfold partsN
    rw [if_neg e0, if_neg e1, if_neg e2]
  rw [e3]
  have n0 : (("not" : Str) == z) = false := by rw [hb]; exact decide_eq_false e0
  have n1 : (("and" : Str) == z) = false := by rw [hb]; exact decide_eq_false e1
  have n2 : (("or" : Str) == z) = false := by rw [hb]; exact decide_eq_false e2
  exact ⟨none, by simp [List.find?, Value.isStr, n0, n1, n2, DictEntry.refKey], rfl⟩
end Bl

/-! the words of a test, and the tests among words -/
namespace Bl
open PySem L2
open SX (S)
abbrev Wd := List Nat
def kNot : Wd := [110, 111, 116]
def kAnd : Wd := [97, 110, 100]
def kOr : Wd := [111, 114]
def kIs : Wd := [105, 115]
def kHas : Wd := [104, 97, 115]
def kTwo (o : Bool) : Wd := if o = true then kAnd else kOr
def Tst.wd : Tst → List Wd
  | .is c g => [kIs, c, g]
  | .has g => [kHas, g]
  | .neg t => kNot :: t.wd
  | .two o t u => kTwo o :: (t.wd ++ u.wd)
def Tst.good : Tst → Bool
  | .is c g => colB (S c) && nameB (S g)
  | .has g => nameB (S g)
  | .neg t => t.good
  | .two _ t u => t.good && u.good
def leafS (h : Wd) (r : List Wd) : Option (Tst × List Wd) :=
  if h = kIs then (match r with
    | c :: g :: r' => if (colB (S c) && nameB (S g)) = true then some (.is c g, r') else none
    | _ => none)
  else if h = kHas then (match r with
    | g :: r' => if nameB (S g) = true then some (.has g, r') else none
    | [] => none)
  else none
/-- what stands first among the words, at most n deep, and the words behind it -/
def rdS : Nat → List Wd → Option (Tst × List Wd)
  | 0, _ => none
  | _ + 1, [] => none
  | n + 1, h :: r =>
    if h = kNot then (match rdS n r with
      | some (t, r1) => some (.neg t, r1)
      | none => none)
    else if h = kAnd ∨ h = kOr then (match rdS n r with
      | some (t, r1) => (match rdS n r1 with
        | some (u, r2) => some (.two (decide (h = kAnd)) t u, r2)
        | none => none)
      | none => none)
    else leafS h r
theorem rd_wd : ∀ (t : Tst) (n : Nat) (rest : List Wd), t.deep ≤ n → t.good = true → rdS n (t.wd ++ rest) = some (t, rest)
  | .is c g, 0, _, h, _ => by cases h
  | .has g, 0, _, h, _ => by cases h
  | .neg t, 0, _, h, _ => by cases h
  | .two o t u, 0, _, h, _ => by cases h
  | .is c g, n + 1, rest, _, hg => by
    show (if kIs = kNot then _ else if kIs = kAnd ∨ kIs = kOr then _ else leafS kIs (c :: g :: rest)) = _
    rw [if_neg (by decide), if_neg (by decide)]
    show (if kIs = kIs then _ else _) = _
    rw [if_pos rfl]
    exact if_pos hg
  | .has g, n + 1, rest, _, hg => by
    show (if kHas = kNot then _ else if kHas = kAnd ∨ kHas = kOr then _ else leafS kHas (g :: rest)) = _
    rw [if_neg (by decide), if_neg (by decide)]
    show (if kHas = kIs then _ else if kHas = kHas then _ else _) = _
    rw [if_neg (by decide), if_pos rfl]
    exact if_pos hg
  | .neg t, n + 1, rest, h, hg => by
    have hd : t.deep ≤ n := Nat.le_of_succ_le_succ h
    show (if kNot = kNot then _ else _) = _
    rw [if_pos rfl]
    show (match rdS n (t.wd ++ rest) with
      | some (t, r1) => some (Tst.neg t, r1)
      | none => none) = _
    rw [rd_wd t n rest hd hg]
  | .two o t u, n + 1, rest, h, hg => by
    have hd : max t.deep u.deep ≤ n := Nat.le_of_succ_le_succ h
    obtain ⟨g1, g2⟩ := Bool.and_eq_true_iff.mp hg
    have e : (Tst.two o t u).wd ++ rest = kTwo o :: (t.wd ++ (u.wd ++ rest)) := by
      show kTwo o :: ((t.wd ++ u.wd) ++ rest) = _
      rw [List.append_assoc]
    rw [e]
    show (if kTwo o = kNot then _ else if kTwo o = kAnd ∨ kTwo o = kOr then _ else _) = _
    rw [if_neg (by cases o <;> decide), if_pos (by cases o <;> decide), rd_wd t n _ (by omega) g1]
    dsimp only
    rw [rd_wd u n rest (by omega) g2]
    cases o <;> rfl
theorem leaf_sound {h : Wd} {r : List Wd} {t : Tst} {rest : List Wd} (e : leafS h r = some (t, rest)) : h :: r = t.wd ++ rest ∧ t.good = true ∧ t.deep = 1 := by
  unfold leafS at e
  by_cases h1 : h = kIs
  · subst h1
    rw [if_pos rfl] at e
    match r, e with
    | c :: g :: r', e =>
      by_cases hg : (colB (S c) && nameB (S g)) = true
      · have e : (if (colB (S c) && nameB (S g)) = true then some (Tst.is c g, r') else none) = some (t, rest) := e
        rw [if_pos hg] at e
        cases e
        exact ⟨rfl, hg, rfl⟩
      · have e : (if (colB (S c) && nameB (S g)) = true then some (Tst.is c g, r') else none) = some (t, rest) := e
        rw [if_neg hg] at e
        cases e
    | [], e => cases e
    | [c], e => cases e
  · rw [if_neg h1] at e
    by_cases h2 : h = kHas
    · subst h2
      rw [if_pos rfl] at e
      match r, e with
      | g :: r', e =>
        by_cases hg : nameB (S g) = true
        · have e : (if nameB (S g) = true then some (Tst.has g, r') else none) = some (t, rest) := e
          rw [if_pos hg] at e
          cases e
          exact ⟨rfl, hg, rfl⟩
        · have e : (if nameB (S g) = true then some (Tst.has g, r') else none) = some (t, rest) := e
          rw [if_neg hg] at e
          cases e
      | [], e => cases e
    · rw [if_neg h2] at e
      cases e
theorem rd_sound : ∀ (n : Nat) (ws : List Wd) (t : Tst) (rest : List Wd), rdS n ws = some (t, rest) → ws = t.wd ++ rest ∧ t.good = true ∧ t.deep ≤ n
  | 0, _, _, _, e => by cases e
  | n + 1, [], _, _, e => by cases e
  | n + 1, h :: r, t, rest, e => by
    have e' : (if h = kNot then (match rdS n r with
      | some (t, r1) => some (Tst.neg t, r1)
      | none => none)
    else if h = kAnd ∨ h = kOr then (match rdS n r with
      | some (t, r1) => (match rdS n r1 with
        | some (u, r2) => some (Tst.two (decide (h = kAnd)) t u, r2)
        | none => none)
      | none => none)
    else leafS h r) = some (t, rest) := e
    by_cases h1 : h = kNot
    · subst h1
      rw [if_pos rfl] at e'
      cases e1 : rdS n r with
      | none =>
        rw [e1] at e'
        cases e'
      | some q =>
        obtain ⟨t1, r1⟩ := q
        rw [e1] at e'
        cases e'
        obtain ⟨a, b, c⟩ := rd_sound n r t1 rest e1
        exact ⟨by rw [a]; rfl, b, Nat.succ_le_succ c⟩
    · rw [if_neg h1] at e'
      by_cases h2 : h = kAnd ∨ h = kOr
      · rw [if_pos h2] at e'
        cases e1 : rdS n r with
        | none =>
          rw [e1] at e'
          cases e'
        | some q =>
          obtain ⟨t1, r1⟩ := q
          rw [e1] at e'
          dsimp only at e'
          cases e2 : rdS n r1 with
          | none =>
            rw [e2] at e'
            cases e'
          | some q2 =>
            obtain ⟨u1, r2⟩ := q2
            rw [e2] at e'
            cases e'
            obtain ⟨a, b, c⟩ := rd_sound n r t1 r1 e1
            obtain ⟨a2, b2, c2⟩ := rd_sound n r1 u1 rest e2
            refine ⟨?_, ?_, ?_⟩
            · show h :: r = kTwo (decide (h = kAnd)) :: ((t1.wd ++ u1.wd) ++ rest)
              have hk : h = kTwo (decide (h = kAnd)) := by
                rcases h2 with rfl | rfl <;> decide
              rw [← hk, List.append_assoc, ← a2, ← a]
            · show (t1.good && u1.good) = true
              rw [b, b2]
              rfl
            · show max t1.deep u1.deep + 1 ≤ n + 1
              omega
      · rw [if_neg h2] at e'
        obtain ⟨a, b, c⟩ := leaf_sound e'
        exact ⟨a, b, by omega⟩
/-- a whole text's words -/
def parseW (ws : List Wd) : Option Tst := match rdS 6 ws with
  | some (t, []) => some t
  | _ => none
theorem parse_some {ws : List Wd} {t : Tst} (h : parseW ws = some t) : ws = t.wd ∧ t.good = true ∧ t.deep ≤ 6 := by
  unfold parseW at h
  split at h
  · rename_i t1 e
    cases h
    obtain ⟨a, b, c⟩ := rd_sound _ _ _ _ e
    rw [List.append_nil] at a
    exact ⟨a, b, c⟩
  · cases h
theorem parse_wd {t : Tst} (hd : t.deep ≤ 6) (hg : t.good = true) : parseW t.wd = some t := by
  unfold parseW
  have := rd_wd t 6 [] hd hg
  rw [List.append_nil] at this
  rw [this]
theorem parse_more {t : Tst} {x : Wd} {r : List Wd} (hd : t.deep ≤ 6) (hg : t.good = true) : parseW (t.wd ++ x :: r) = none := by
  unfold parseW
  rw [rd_wd t 6 _ hd hg]
/-- too deep by one -/
theorem parse_not {t : Tst} (hd : t.deep = 6) (hg : t.good = true) : parseW (kNot :: t.wd) = none := by
  cases h : parseW (kNot :: t.wd) with
  | none => rfl
  | some u =>
    obtain ⟨a, b, c⟩ := parse_some h
    have e1 := rd_wd (.neg t) 7 [] (by show t.deep + 1 ≤ 7; omega) hg
    have e2 := rd_wd u 7 [] (by omega) b
    rw [List.append_nil] at e1 e2
    rw [show (Tst.neg t).wd = u.wd from a, e2] at e1
    cases e1
    have : t.deep + 1 ≤ 6 := c
    omega
end Bl

/-! the text of a test -/
namespace Bl
open PySem L2
open SX (S)
theorem joinL_cons {s a : List Nat} {r : List (List Nat)} (h : r ≠ []) : TL.joinL s (a :: r) = a ++ (s ++ TL.joinL s r) := by
  cases r with
  | nil => exact absurd rfl h
  | cons b r => simp [TL.joinL]
theorem joinL_app {s : List Nat} : ∀ {a b : List (List Nat)}, a ≠ [] → b ≠ [] → TL.joinL s (a ++ b) = TL.joinL s a ++ (s ++ TL.joinL s b)
  | [], _, h, _ => absurd rfl h
  | [x], b, _, hb => by
    rw [show [x] ++ b = x :: b from rfl, joinL_cons hb]
    rfl
  | x :: y :: a, b, _, hb => by
    rw [show (x :: y :: a) ++ b = x :: ((y :: a) ++ b) from rfl, joinL_cons (by simp), joinL_cons (a := x) (r := y :: a) (by simp), joinL_app (a := y :: a) (by simp) hb]
    simp [List.append_assoc]
theorem Tst.wd_ne : ∀ t : Tst, t.wd ≠ []
  | .is _ _ => by simp [Tst.wd]
  | .has _ => by simp [Tst.wd]
  | .neg _ => by simp [Tst.wd]
  | .two _ _ _ => by simp [Tst.wd]
def Tst.txt (t : Tst) : List Nat := TL.joinL [32] t.wd
theorem txt_neg (t : Tst) : TL.joinL [32] [kNot, t.txt] = (Tst.neg t).txt := by
  show TL.joinL [32] [kNot, t.txt] = TL.joinL [32] (kNot :: t.wd)
  rw [joinL_cons (by simp), joinL_cons t.wd_ne]
  rfl
theorem txt_two (o : Bool) (t u : Tst) : TL.joinL [32] [kTwo o, t.txt, u.txt] = (Tst.two o t u).txt := by
  show TL.joinL [32] [kTwo o, t.txt, u.txt] = TL.joinL [32] (kTwo o :: (t.wd ++ u.wd))
  rw [joinL_cons (a := kTwo o) (r := [t.txt, u.txt]) (by simp), joinL_cons (a := t.txt) (r := [u.txt]) (by simp), joinL_cons (a := kTwo o) (r := t.wd ++ u.wd) (by simp [t.wd_ne]), joinL_app t.wd_ne u.wd_ne]
  rfl
/-- words of good tests have no blank and some sign -/
theorem name_low {z : List Nat} (h : nameB (S z) = true) : z ≠ [] ∧ ∀ c ∈ z, c ∈ alpha := by
  unfold nameB at h
  simp only [Bool.and_eq_true, decide_eq_true_eq, List.all_eq_true] at h
  obtain ⟨⟨h1, _⟩, h3⟩ := h
  rw [SX.S_len] at h1
  refine ⟨fun e => ?_, fun c hc => h3 c (by simpa [S] using hc)⟩
  rw [e] at h1
  cases h1
theorem alpha_32 : 32 ∉ alpha := by decide
theorem alpha_46 : 46 ∉ alpha := by decide
theorem name_32 {z : List Nat} (h : nameB (S z) = true) : 32 ∉ z := fun hm => alpha_32 ((name_low h).2 32 hm)
theorem spl_low {c x : Nat} (hx : x ≠ c) : ∀ (l : List Nat) (k : Nat) (acc : List Nat), x ∈ acc ++ l → k = 0 → ∃ p ∈ TL.spl [c] k acc l, x ∈ p
  | [], 0, acc, h, _ => ⟨acc, by simp [TL.spl], by simpa using h⟩
  | y :: l, 0, acc, h, _ => by
    by_cases hy : TL.pre [c] (y :: l) = true
    · have ey : y = c := by simpa [TL.pre] using hy
      have e : TL.spl [c] 0 acc (y :: l) = acc :: TL.spl [c] 0 [] l := by
        show (if TL.pre [c] (y :: l) = true then _ else _) = _
        rw [if_pos hy]
        rfl
      rw [e]
      rcases List.mem_append.mp h with h | h
      · exact ⟨acc, List.mem_cons_self, h⟩
      rcases List.mem_cons.mp h with h | h
      · exact absurd (h.trans ey) hx
      obtain ⟨p, hp, hxp⟩ := spl_low hx l 0 [] (by simpa using h) rfl
      exact ⟨p, List.mem_cons_of_mem _ hp, hxp⟩
    · have e : TL.spl [c] 0 acc (y :: l) = TL.spl [c] 0 (acc ++ [y]) l := by
        show (if TL.pre [c] (y :: l) = true then _ else _) = _
        rw [if_neg hy]
      rw [e]
      exact spl_low hx l 0 (acc ++ [y]) (by simpa [List.append_assoc] using h) rfl
theorem col_32 {z : List Nat} (h : colB (S z) = true) : 32 ∉ z := fun hm => by
  unfold colB at h
  obtain ⟨_, h2⟩ := Bool.and_eq_true_iff.mp h
  rw [split_dot] at h2
  obtain ⟨p, hp, hxp⟩ := spl_low (c := 46) (x := 32) (by decide) z 0 [] (by simpa using hm) rfl
  have := List.all_eq_true.mp h2 (S p) (List.mem_map.mpr ⟨p, hp, rfl⟩)
  exact name_32 this hxp
theorem good_32 : ∀ {t : Tst}, t.good = true → ∀ w ∈ t.wd, 32 ∉ w
  | .is c g, h, w, hw => by
    obtain ⟨h1, h2⟩ := Bool.and_eq_true_iff.mp h
    rcases List.mem_cons.mp hw with rfl | hw
    · decide
    rcases List.mem_cons.mp hw with rfl | hw
    · exact col_32 h1
    obtain rfl := List.mem_singleton.mp hw
    exact name_32 h2
  | .has g, h, w, hw => by
    rcases List.mem_cons.mp hw with rfl | hw
    · decide
    obtain rfl := List.mem_singleton.mp hw
    exact name_32 h
  | .neg t, h, w, hw => by
    rcases List.mem_cons.mp hw with rfl | hw
    · decide
    exact good_32 (t := t) h w hw
  | .two o t u, h, w, hw => by
    obtain ⟨h1, h2⟩ := Bool.and_eq_true_iff.mp h
    rcases List.mem_cons.mp hw with rfl | hw
    · cases o <;> decide
    rcases List.mem_append.mp hw with hw | hw
    · exact good_32 h1 w hw
    · exact good_32 h2 w hw
theorem split_txt {t : Tst} (h : t.good = true) : TL.spl [32] 0 [] t.txt = t.wd := SX.spl_join t.wd_ne (good_32 h)
/-- cut at blanks and put together again -/
theorem spl_ne (s : List Nat) : ∀ (l : List Nat) (k : Nat) (acc : List Nat), TL.spl s k acc l ≠ []
  | [], 0, _ => by simp [TL.spl]
  | [], _ + 1, _ => by simp [TL.spl]
  | y :: l, 0, acc => by
    show (if TL.pre s (y :: l) = true then _ else _) ≠ []
    by_cases h : TL.pre s (y :: l) = true
    · rw [if_pos h]
      simp
    · rw [if_neg h]
      exact spl_ne s l 0 _
  | y :: l, k + 1, acc => spl_ne s l k acc
theorem join_spl (c : Nat) : ∀ (l acc : List Nat), TL.joinL [c] (TL.spl [c] 0 acc l) = acc ++ l
  | [], acc => by simp [TL.spl, TL.joinL]
  | y :: l, acc => by
    by_cases h : TL.pre [c] (y :: l) = true
    · have ey : y = c := by simpa [TL.pre] using h
      have e : TL.spl [c] 0 acc (y :: l) = acc :: TL.spl [c] 0 [] l := by
        show (if TL.pre [c] (y :: l) = true then _ else _) = _
        rw [if_pos h]
        rfl
      rw [e, joinL_cons (spl_ne _ _ _ _), join_spl c l [], ey]
      rfl
    · have e : TL.spl [c] 0 acc (y :: l) = TL.spl [c] 0 (acc ++ [y]) l := by
        show (if TL.pre [c] (y :: l) = true then _ else _) = _
        rw [if_neg h]
      rw [e, join_spl c l (acc ++ [y])]
      simp
/-- a text that is read is the text of what is found -/
theorem parse_txt {z : List Nat} {t : Tst} (h : parseW (TL.spl [32] 0 [] z) = some t) : z = t.txt ∧ t.good = true ∧ t.deep ≤ 6 := by
  obtain ⟨a, b, c⟩ := parse_some h
  have e := join_spl 32 z []
  rw [a] at e
  exact ⟨e.symm, b, c⟩
/-- what signs such words have -/
def Low (w : List Nat) : Prop := w ≠ [] ∧ ∀ c ∈ w, c ∈ alpha ∨ c = 46
theorem col_low {z : List Nat} (h : colB (S z) = true) : Low z := by
  unfold colB at h
  obtain ⟨_, h2⟩ := Bool.and_eq_true_iff.mp h
  rw [split_dot] at h2
  have part : ∀ p ∈ TL.spl [46] 0 [] z, p ≠ [] ∧ ∀ c ∈ p, c ∈ alpha := fun p hp => name_low (List.all_eq_true.mp h2 (S p) (List.mem_map.mpr ⟨p, hp, rfl⟩))
  refine ⟨fun e => ?_, fun c hc => ?_⟩
  · subst e
    exact (part [] (by simp [TL.spl])).1 rfl
  · by_cases e : c = 46
    · exact .inr e
    · obtain ⟨p, hp, hcp⟩ := spl_low (c := 46) (x := c) e z 0 [] (by simpa using hc) rfl
      exact .inl ((part p hp).2 c hcp)
theorem name_lowL {z : List Nat} (h : nameB (S z) = true) : Low z := ⟨(name_low h).1, fun c hc => .inl ((name_low h).2 c hc)⟩
theorem key_low : Low kNot ∧ Low kAnd ∧ Low kOr ∧ Low kIs ∧ Low kHas := by
  refine ⟨⟨by decide, ?_⟩, ⟨by decide, ?_⟩, ⟨by decide, ?_⟩, ⟨by decide, ?_⟩, ⟨by decide, ?_⟩⟩ <;> decide
theorem good_low : ∀ {t : Tst}, t.good = true → ∀ w ∈ t.wd, Low w
  | .is c g, h, w, hw => by
    obtain ⟨h1, h2⟩ := Bool.and_eq_true_iff.mp h
    rcases List.mem_cons.mp hw with rfl | hw
    · exact key_low.2.2.2.1
    rcases List.mem_cons.mp hw with rfl | hw
    · exact col_low h1
    obtain rfl := List.mem_singleton.mp hw
    exact name_lowL h2
  | .has g, h, w, hw => by
    rcases List.mem_cons.mp hw with rfl | hw
    · exact key_low.2.2.2.2
    obtain rfl := List.mem_singleton.mp hw
    exact name_lowL h
  | .neg t, h, w, hw => by
    rcases List.mem_cons.mp hw with rfl | hw
    · exact key_low.1
    exact good_low (t := t) h w hw
  | .two o t u, h, w, hw => by
    obtain ⟨h1, h2⟩ := Bool.and_eq_true_iff.mp h
    rcases List.mem_cons.mp hw with rfl | hw
    · cases o
      · exact key_low.2.2.1
      · exact key_low.2.1
    rcases List.mem_append.mp hw with hw | hw
    · exact good_low h1 w hw
    · exact good_low h2 w hw
/-- a word that none may be -/
theorem parse_bad {ws : List Wd} {w : Wd} (hw : w ∈ ws) (h : ¬ Low w) : parseW ws = none := by
  cases e : parseW ws with
  | none => rfl
  | some t =>
    obtain ⟨a, b, _⟩ := parse_some e
    rw [a] at hw
    exact absurd (good_low b w hw) h
theorem bad_nil : ¬ Low [] := fun h => h.1 rfl
theorem bad_sign {w : Wd} {c : Nat} (hc : c ∈ w) (h1 : c ∉ alpha) (h2 : c ≠ 46) : ¬ Low w := fun h => (h.2 c hc).elim h1 h2
theorem bad_IS : ¬ Low [73, 83] := bad_sign (c := 73) (by decide) (by decide) (by decide)
/-- a text with a bad word among its words -/
theorem read_bad {ws : List Wd} {w : Wd} (hne : ws ≠ []) (h32 : ∀ x ∈ ws, 32 ∉ x) (hw : w ∈ ws) (h : ¬ Low w) : parseW (TL.spl [32] 0 [] (TL.joinL [32] ws)) = none := by
  rw [SX.spl_join hne h32]
  exact parse_bad hw h
/-- how long such a text is -/
theorem name_len {z : List Nat} (h : nameB (S z) = true) : z.length ≤ 6 := by
  unfold nameB at h
  simp only [Bool.and_eq_true, decide_eq_true_eq] at h
  have := h.1.2
  rwa [SX.S_len] at this
theorem col_len {z : List Nat} (h : colB (S z) = true) : z.length ≤ 13 := by
  unfold colB at h
  obtain ⟨h1, h2⟩ := Bool.and_eq_true_iff.mp h
  rw [split_dot] at h1 h2
  have h1 := of_decide_eq_true h1
  rw [List.length_map] at h1
  have part : ∀ p ∈ TL.spl [46] 0 [] z, p.length ≤ 6 := fun p hp => name_len (List.all_eq_true.mp h2 (S p) (List.mem_map.mpr ⟨p, hp, rfl⟩))
  have e := join_spl 46 z []
  rw [List.nil_append] at e
  generalize TL.spl [46] 0 [] z = ps at *
  subst e
  match ps, h1, part with
  | [], _, _ => exact Nat.zero_le _
  | [p], _, part => exact Nat.le_trans (part p List.mem_cons_self) (by decide)
  | [p, q], _, part =>
    have a := part p List.mem_cons_self
    have b := part q (List.mem_cons_of_mem _ List.mem_cons_self)
    show (p ++ ([46] ++ q)).length ≤ 13
    rw [List.length_append, List.length_append, List.length_singleton]
    omega
  | p :: q :: r :: l, h1, _ =>
    exfalso
    simp only [List.length_cons] at h1
    omega
theorem txt_len : ∀ {t : Tst}, t.good = true → t.txt.length + 5 ≤ 30 * 2 ^ t.deep
  | .is c g, h => by
    obtain ⟨h1, h2⟩ := Bool.and_eq_true_iff.mp h
    have a := col_len h1
    have b := name_len h2
    show (kIs ++ ([32] ++ (c ++ ([32] ++ g)))).length + 5 ≤ 60
    simp only [List.length_append, List.length_singleton]
    show 2 + (1 + (c.length + (1 + g.length))) + 5 ≤ 60
    omega
  | .has g, h => by
    have b := name_len h
    show (kHas ++ ([32] ++ g)).length + 5 ≤ 60
    simp only [List.length_append, List.length_singleton]
    show 3 + (1 + g.length) + 5 ≤ 60
    omega
  | .neg t, h => by
    have ih := txt_len (t := t) h
    rw [← txt_neg]
    show (kNot ++ ([32] ++ t.txt)).length + 5 ≤ 30 * 2 ^ (t.deep + 1)
    simp only [List.length_append, List.length_singleton]
    show 3 + (1 + t.txt.length) + 5 ≤ 30 * 2 ^ (t.deep + 1)
    rw [Nat.pow_succ]
    omega
  | .two o t u, h => by
    obtain ⟨h1, h2⟩ := Bool.and_eq_true_iff.mp h
    have i1 := txt_len h1
    have i2 := txt_len h2
    have m1 : 2 ^ t.deep ≤ 2 ^ max t.deep u.deep := Nat.pow_le_pow_right (by decide) (Nat.le_max_left _ _)
    have m2 : 2 ^ u.deep ≤ 2 ^ max t.deep u.deep := Nat.pow_le_pow_right (by decide) (Nat.le_max_right _ _)
    have hk : (kTwo o).length ≤ 3 := by cases o <;> decide
    rw [← txt_two]
    show (kTwo o ++ ([32] ++ (t.txt ++ ([32] ++ u.txt)))).length + 5 ≤ 30 * 2 ^ (max t.deep u.deep + 1)
    simp only [List.length_append, List.length_singleton]
    rw [Nat.pow_succ]
    omega
/-- what is asked of a text's maker -/
def spText (K : PySem.W.Frag) (n : Nat) : Sp := fun vs H Q _ => ∃ (v : V) (t : Tst), vs = [v] ∧ Dp K H v t.toD ∧ t.good = true ∧ t.deep ≤ n ∧ t.deep ≤ 10 ∧ ∀ H', Same H H' → Q (.str (S t.txt)) H'
end Bl

/-! reading a leaf -/
namespace Bl
open PySem L2
open SX (S)
abbrev wV (w : Wd) : V := .str (S w)
def leafD (ws : List Wd) : PyData := .tuple (ws.map fun w => .str (S w))
theorem S_inj {a b : List Nat} (h : S a = S b) : a = b := by
  have e : (S a).cps.toList = (S b).cps.toList := by rw [h]
  simpa [S] using e
def leafN (h : Wd) : Nat := if h = kIs then 3 else 2
theorem is_eq' : ("is" : Str) = S kIs := by decide +kernel
theorem has_eq' : ("has" : Str) = S kHas := by decide +kernel
theorem leaf_told {h : Wd} {r : List Wd} (hp : partsN (S h) = none) : match leafS h r with
    | none => isT 6 (leafD ((h :: r).take (leafN h))) = false
    | some (t, rest) => isT 6 (leafD ((h :: r).take (leafN h))) = true ∧ leafD ((h :: r).take (leafN h)) = t.toD ∧ rest = r.drop (leafN h - 1) ∧ leafN h - 1 ≤ r.length := by
  by_cases h1 : h = kIs
  · subst h1
    have e3 : leafN kIs = 3 := rfl
    rw [e3]
    match r with
    | [] =>
      show isT 6 (.tuple [.str (S kIs)]) = false
      rw [← is_eq', isT_leaf 5 _ pn_is]
      unfold leafB
      rw [if_neg is_has]
      rfl
    | [c] =>
      show isT 6 (.tuple [.str (S kIs), .str (S c)]) = false
      rw [← is_eq', isT_leaf 5 _ pn_is]
      unfold leafB
      rw [if_neg is_has]
      rfl
    | c :: g :: r' =>
      have e : isT 6 (leafD ((kIs :: c :: g :: r').take 3)) = (colB (S c) && nameB (S g)) := by
        show isT 6 (.tuple [.str (S kIs), .str (S c), .str (S g)]) = _
        rw [← is_eq', isT_is]
        rfl
      have e2 : leafS kIs (c :: g :: r') = if (colB (S c) && nameB (S g)) = true then some (.is c g, r') else none := by
        unfold leafS
        rw [if_pos rfl]
      rw [e2, e]
      by_cases hg : (colB (S c) && nameB (S g)) = true
      · rw [if_pos hg]
        refine ⟨hg, ?_, rfl, by simp⟩
        show PyData.tuple [.str (S kIs), .str (S c), .str (S g)] = .tuple [.str "is", .str (S c), .str (S g)]
        rw [is_eq']
      · rw [if_neg hg]
        exact Bool.eq_false_iff.mpr hg
  · have e3 : leafN h = 2 := if_neg h1
    rw [e3]
    by_cases h2 : h = kHas
    · subst h2
      match r with
      | [] =>
        show isT 6 (.tuple [.str (S kHas)]) = false
        rw [← has_eq', isT_leaf 5 _ (by rw [has_eq']; exact hp)]
        unfold leafB
        rw [if_pos rfl]
        rfl
      | g :: r' =>
        have e : isT 6 (leafD ((kHas :: g :: r').take 2)) = nameB (S g) := by
          show isT 6 (.tuple [.str (S kHas), .str (S g)]) = _
          rw [← has_eq', isT_has]
          rfl
        have e2 : leafS kHas (g :: r') = if nameB (S g) = true then some (.has g, r') else none := by
          unfold leafS
          rw [if_neg h1, if_pos rfl]
        rw [e2, e]
        by_cases hg : nameB (S g) = true
        · rw [if_pos hg]
          refine ⟨hg, ?_, rfl, by simp⟩
          show PyData.tuple [.str (S kHas), .str (S g)] = .tuple [.str "has", .str (S g)]
          rw [has_eq']
        · rw [if_neg hg]
          exact Bool.eq_false_iff.mpr hg
    · have e2 : leafS h r = none := by
        unfold leafS
        rw [if_neg h1, if_neg h2]
      rw [e2]
      have hs : ¬ S h = "has" := by
        rw [has_eq']
        exact fun e => h2 (S_inj e)
      have hi : ¬ S h = "is" := by
        rw [is_eq']
        exact fun e => h1 (S_inj e)
      have e : ∀ l : List Wd, isT 6 (leafD (h :: l)) = false := fun l => by
        show isT 6 (.tuple (.str (S h) :: l.map fun w => .str (S w))) = false
        rw [isT_leaf 5 _ hp]
        unfold leafB
        rw [if_neg hs, decide_eq_false hi, Bool.false_and]
      exact e _
theorem cut_nat {xs : List V} {i j : Nat} (h : i ≤ xs.length) : cutV xs (some (i : Int)) (some ((i : Int) + (j : Int))) = (xs.drop i).take j := by
  unfold cutV
  rw [show ((i : Int) + (j : Int)) = ((i + j : Nat) : Int) by omega, HT.sIx_nat, HT.sIx_nat, Nat.min_eq_left h]
  by_cases hj : i + j ≤ xs.length
  · rw [Nat.min_eq_left hj, Nat.add_sub_cancel_left]
  · rw [Nat.min_eq_right (by omega), List.take_of_length_le (by rw [List.length_drop]; omega), List.take_of_length_le (by rw [List.length_drop]; omega)]
theorem dpa_words {K : PySem.W.Frag} {H : Hp} : ∀ ws : List Wd, DpAll K H (ws.map wV) (ws.map fun w => .str (S w))
  | [] => .nil
  | _ :: ws => .cons (.str _) (dpa_words ws)
/-- what the readers say of a reading r among the words ws -/
def rdQ (K : PySem.W.Frag) (ws : List Wd) (r : Option (Tst × List Wd)) (H : Hp) (Q : VK) : Prop := match r with
  | none => ∀ H', Same H H' → Q .non H'
  | some (t, rest) => ∀ H' p v, Same H H' → SqT K H' p [v, .int ((ws.length : Int) - rest.length)] → Dp K H' v t.toD → Q (.ref p) H'
def spLeaf (K : PySem.W.Frag) : Sp := fun vs H Q _ => ∃ (a : Addr) (pre : List Wd) (h : Wd) (r : List Wd), vs = [.ref a, .int pre.length] ∧ SqL K H a ((pre ++ h :: r).map wV) ∧ pre.length + r.length ≤ 100000 ∧ (∀ w ∈ h :: r, w.length ≤ 100000) ∧ partsN (S h) = none ∧ rdQ K (pre ++ h :: r) (leafS h r) H Q
def spFrom (K : PySem.W.Frag) (n : Nat) : Sp := fun vs H Q _ => ∃ (a : Addr) (pre r : List Wd) (m : Nat), vs = [.ref a, .int pre.length, .int m] ∧ m < n ∧ SqL K H a ((pre ++ r).map wV) ∧ pre.length + r.length ≤ 100000 ∧ (∀ w ∈ pre ++ r, w.length ≤ 100000) ∧ rdQ K (pre ++ r) (rdS m r) H Q
/-- k tests, one behind the other -/
def rdN (m : Nat) : Nat → List Wd → Option (List Tst × List Wd)
  | 0, r => some ([], r)
  | k + 1, r => match rdS m r with
    | none => none
    | some (t, r1) => match rdN m k r1 with
      | none => none
      | some (us, r2) => some (t :: us, r2)
def mkT (h : Wd) : List Tst → Tst
  | [t] => .neg t
  | [t, u] => .two (decide (h = kAnd)) t u
  | _ => .has []
theorem not_eq' : ("not" : Str) = S kNot := by decide +kernel
theorem and_eq' : ("and" : Str) = S kAnd := by decide +kernel
theorem or_eq' : ("or" : Str) = S kOr := by decide +kernel
theorem parts_of {h : Wd} {k : Nat} (e : partsN (S h) = some k) : (h = kNot ∧ k = 1) ∨ ((h = kAnd ∨ h = kOr) ∧ k = 2) := by
  unfold partsN at e
  rw [not_eq', and_eq', or_eq'] at e
  by_cases h1 : S h = S kNot
  · rw [if_pos h1] at e
    exact .inl ⟨S_inj h1, (Option.some.inj e).symm⟩
  rw [if_neg h1] at e
  by_cases h2 : S h = S kAnd
  · rw [if_pos h2] at e
    exact .inr ⟨.inl (S_inj h2), (Option.some.inj e).symm⟩
  rw [if_neg h2] at e
  by_cases h3 : S h = S kOr
  · rw [if_pos h3] at e
    exact .inr ⟨.inr (S_inj h3), (Option.some.inj e).symm⟩
  rw [if_neg h3] at e
  cases e
theorem parts_none {h : Wd} (e : partsN (S h) = none) : h ≠ kNot ∧ h ≠ kAnd ∧ h ≠ kOr := by
  refine ⟨?_, ?_, ?_⟩ <;> rintro rfl
  · rw [← not_eq', pn_not] at e
    cases e
  · rw [← and_eq', pn_and] at e
    cases e
  · rw [← or_eq', pn_or] at e
    cases e
theorem rdS_leaf {m : Nat} {h : Wd} {r : List Wd} (e : partsN (S h) = none) : rdS (m + 1) (h :: r) = leafS h r := by
  obtain ⟨h1, h2, h3⟩ := parts_none e
  show (if h = kNot then _ else if h = kAnd ∨ h = kOr then _ else leafS h r) = _
  rw [if_neg h1, if_neg (fun q => q.elim h2 h3)]
theorem rdS_parts {m k : Nat} {h : Wd} {r : List Wd} (e : partsN (S h) = some k) : rdS (m + 1) (h :: r) = (match rdN m k r with
    | none => none
    | some (ts, rest) => some (mkT h ts, rest)) := by
  show (if h = kNot then (match rdS m r with
      | some (t, r1) => some (Tst.neg t, r1)
      | none => none)
    else if h = kAnd ∨ h = kOr then (match rdS m r with
      | some (t, r1) => (match rdS m r1 with
        | some (u, r2) => some (Tst.two (decide (h = kAnd)) t u, r2)
        | none => none)
      | none => none)
    else leafS h r) = _
  rcases parts_of e with ⟨rfl, rfl⟩ | ⟨h1, rfl⟩
  · rw [if_pos rfl]
    unfold rdN
    cases rdS m r with
    | none => rfl
    | some q => rfl
  · rw [if_neg (by rcases h1 with rfl | rfl <;> decide), if_pos h1]
    simp only [rdN]
    cases rdS m r with
    | none => rfl
    | some q =>
      obtain ⟨t, r1⟩ := q
      dsimp only
      cases rdS m r1 with
      | none => rfl
      | some q => rfl
theorem rdN_len {m : Nat} : ∀ {k : Nat} {r rest : List Wd} {ts : List Tst}, rdN m k r = some (ts, rest) → ts.length = k
  | 0, r, rest, ts, e => by
    cases e
    rfl
  | k + 1, r, rest, ts, e => by
    unfold rdN at e
    cases h : rdS m r with
    | none =>
      rw [h] at e
      cases e
    | some q =>
      obtain ⟨t, r1⟩ := q
      rw [h] at e
      dsimp only at e
      cases h2 : rdN m k r1 with
      | none =>
        rw [h2] at e
        cases e
      | some q2 =>
        obtain ⟨us, r2⟩ := q2
        rw [h2] at e
        cases e
        rw [List.length_cons, rdN_len h2]
theorem mkT_dp {K : PySem.W.Frag} {H : Hp} {h : Wd} {k : Nat} {p : Addr} {vs : List V} {ts : List Tst} (e : partsN (S h) = some k) (hl : ts.length = k) (hs : SqT K H p (wV h :: vs)) (hd : DpAll K H vs (ts.map Tst.toD)) : Dp K H (.ref p) (mkT h ts).toD := by
  rcases parts_of e with ⟨rfl, rfl⟩ | ⟨h1, rfl⟩
  · match ts, hl with
    | [t], _ =>
      show Dp K H (.ref p) (.tuple [.str "not", t.toD])
      rw [not_eq']
      exact .tup hs (.cons (.str _) hd)
  · match ts, hl with
    | [t, u], _ =>
      show Dp K H (.ref p) (.tuple [.str (twoS (decide (h = kAnd))), t.toD, u.toD])
      have ew : twoS (decide (h = kAnd)) = S h := by
        rcases h1 with rfl | rfl
        · rw [decide_eq_true rfl]
          exact and_eq'
        · rw [decide_eq_false (by decide)]
          exact or_eq'
      rw [ew]
      exact .tup hs (.cons (.str _) hd)
section
variable {X : Cx} {p : Addr}
theorem op_notin_parts (h : PartsAt X.K X.w p) : OpR X (compareOp .NotIn) (fun x y H Q => ∃ z, x = .str z ∧ y = .ref p ∧ Q (.bl (!(partsN z).isSome)) H) := by
  intro pins s σ H x y v u Q I rx ry h2
  obtain ⟨z, rfl, rfl, q⟩ := h2
  obtain ⟨es, n, D, hz⟩ := h
  obtain ⟨r, hr, hk⟩ := hz z
  have e : (partsN z).isSome = r.isSome := by
    cases e : partsN z with
    | none =>
      rw [e] at hk
      rw [hk]
      rfl
    | some k =>
      rw [e] at hk
      obtain ⟨t, rfl⟩ := hk
      rfl
  rw [e] at q
  exact op_notIn_kd D pins s σ H _ _ v u Q I rx ry ⟨z, r, rfl, rfl, hr, q⟩
end
theorem spl_many (c : Nat) : ∀ (l acc : List Nat), (TL.spl [c] 0 acc l).length ≤ l.length + 1
  | [], acc => by simp [TL.spl]
  | y :: l, acc => by
    by_cases h : TL.pre [c] (y :: l) = true
    · have e : TL.spl [c] 0 acc (y :: l) = acc :: TL.spl [c] 0 [] l := by
        show (if TL.pre [c] (y :: l) = true then _ else _) = _
        rw [if_pos h]
        rfl
      rw [e, List.length_cons, List.length_cons]
      exact Nat.succ_le_succ (spl_many c l [])
    · have e : TL.spl [c] 0 acc (y :: l) = TL.spl [c] 0 (acc ++ [y]) l := by
        show (if TL.pre [c] (y :: l) = true then _ else _) = _
        rw [if_neg h]
      rw [e, List.length_cons]
      exact Nat.le_succ_of_le (spl_many c l (acc ++ [y]))
theorem inner_of (t : Tst) : (∃ c g, t = .is c g) ∨ (∃ g, t = .has g) ∨ ∃ (h : Wd) (us : List Tst), t.toD = .tuple (.str (S h) :: us.map Tst.toD) ∧ t.wd = h :: (us.map Tst.wd).flatten ∧ h ≠ kIs ∧ h ≠ kHas ∧ (∀ u ∈ us, u.deep + 1 ≤ t.deep) ∧ us ≠ [] ∧ us.length ≤ 2 ∧ (t.deep = 1 + (us.map Tst.deep).foldl max 0) := by
  cases t with
  | is c g => exact .inl ⟨c, g, rfl⟩
  | has g => exact .inr (.inl ⟨g, rfl⟩)
  | neg t =>
    refine .inr (.inr ⟨kNot, [t], ?_, ?_, by decide, by decide, ?_, by simp, by simp, ?_⟩)
    · show PyData.tuple [.str "not", t.toD] = _
      rw [not_eq']
      rfl
    · simp [Tst.wd]
    · intro u hu
      obtain rfl := List.mem_singleton.mp hu
      exact Nat.le_refl _
    · simp [Tst.deep, Nat.add_comm]
  | two o t u =>
    refine .inr (.inr ⟨kTwo o, [t, u], ?_, ?_, by cases o <;> decide, by cases o <;> decide, ?_, by simp, by simp, ?_⟩)
    · show PyData.tuple [.str (twoS o), t.toD, u.toD] = _
      have : twoS o = S (kTwo o) := by cases o <;> decide +kernel
      rw [this]
      rfl
    · simp [Tst.wd]
    · intro x hx
      show x.deep + 1 ≤ max t.deep u.deep + 1
      rcases List.mem_cons.mp hx with rfl | hx
      · omega
      · obtain rfl := List.mem_singleton.mp hx
        omega
    · simp [Tst.deep, Nat.add_comm]
theorem Dp.tupC {K : PySem.W.Frag} {H : Hp} {v : V} {d : PyData} {ds : List PyData} (h : Dp K H v (.tuple (d :: ds))) : ∃ a x ys, v = .ref a ∧ SqT K H a (x :: ys) ∧ Dp K H x d ∧ DpAll K H ys ds := by
  cases h with
  | tup hs ha =>
    cases ha with
    | cons h1 h2 => exact ⟨_, _, _, rfl, hs, h1, h2⟩
theorem cut_one {x : V} {xs : List V} : cutV (x :: xs) (some 1) none = xs := by
  unfold cutV
  rw [show ((1 : Int)) = ((1 : Nat) : Int) from rfl, HT.sIx_nat, HT.sIx_none, Nat.min_eq_left (by simp)]
  simp
theorem six_one {x : V} {xs : List V} : ¬ (HT.sIx (x :: xs).length 0 (some 1) = 0) := by
  rw [show ((1 : Int)) = ((1 : Nat) : Int) from rfl, HT.sIx_nat, Nat.min_eq_left (by simp)]
  decide
theorem eqV_S {o z : List Nat} : eqV (.str (S o)) (.str (S z)) = decide (z = o) := by
  show (S o == S z) = decide (z = o)
  rw [SX.S_beq_eq]
  by_cases e : o = z
  · rw [decide_eq_true e, decide_eq_true e.symm]
  · rw [decide_eq_false e, decide_eq_false (Ne.symm e)]
theorem inV_leafs {h : Wd} (h1 : h ≠ kIs) (h2 : h ≠ kHas) : inV (V.str (S h)) [V.str "is", .str "has"] = false := by
  show (eqV (.str "is") (.str (S h)) || (eqV (.str "has") (.str (S h)) || false)) = false
  rw [is_eq', has_eq', eqV_S, eqV_S, decide_eq_false h1, decide_eq_false h2]
  rfl
end Bl

/-! own exceptions as values, over any of the three built-in bases -/
namespace Bl
open PySem L2 PySem.Spec PyProof.Rows
/-- what a store asks of a class's line -/
structure MroOk (mro : List Value) : Prop where
  ne : mro.isEmpty = false
  ob : mro.contains (.type "object") = true
  pass : ∀ self : Value, PySem.refuseLoop self "__setattr__" mro = pure ()
theorem MroOk.own {c : Addr} {l : List Value} (h : MroOk l) : MroOk (.ref c :: l) := ⟨rfl, by rw [List.contains_cons, h.ob, Bool.or_true], fun self => by
  rw [PySem.refuseLoop_ref]
  exact h.pass self⟩
def veM : List Value := [.type "ValueError", .type "Exception", .type "BaseException", .type "object"]
def leM : List Value := [.type "LookupError", .type "Exception", .type "BaseException", .type "object"]
def ieM : List Value := [.type "IndexError", .type "LookupError", .type "Exception", .type "BaseException", .type "object"]
theorem MroOk.ve : MroOk veM := ⟨rfl, by decide +kernel, fun self => PySem.F.store_ValueError.passes self⟩
theorem MroOk.le : MroOk leM := ⟨rfl, by decide +kernel, fun self => PySem.F.store_LookupError.passes self⟩
theorem MroOk.ie : MroOk ieM := ⟨rfl, by decide +kernel, fun self => PySem.F.store_IndexError.passes self⟩
/-- what the written part says of such a class -/
structure XC (K : PySem.W.Frag) (C : Addr) : Prop where
  cls : ∃ (B newId initId : String) (bmB : List Value) (nm q : Str) (N : Addr) (bs bm : List Value) (sn : List Str) (sub : List Value) (ab : Bool) (col : Option Bool) (dd : Option Addr) (k0 k1 k2 k3 k5 : Option Value),
    ExcBaseFacts B newId initId bmB ∧ (∀ T : String, bm.contains (.type T) = bmB.contains (.type T)) ∧ MroOk (.ref C :: bm) ∧ K.lookup C = some (excClassObj nm q C N bs bm true sn sub ab col dd k0 k1 k2 k3 k5 newId)
  sa : PySem.W.findIn K (.ref C) "__setattr__" = some (some (.builtin "object.__setattr__"))
  ga : PySem.W.findIn K (.ref C) "__getattribute__" = some (some (.builtin "BaseException.__getattribute__"))
  gg : PySem.W.findIn K (.ref C) "__getattr__" = some none
  ca : PySem.W.findIn K (.ref C) "__class__" = some (some (.builtin "object.__class__"))
  kC : PySem.W.keepIn K (.ref C) = true
  exC : PySem.W.subIn K (.ref C) (.type "BaseException") = some true
  mo : PySem.W.mroIn K C (.type "object") = some true
/-- what it says of all -/
structure XG (K : PySem.W.Frag) : Prop where
  cn : PySem.W.specialIn K (.builtin "object.__class__") "__get__" = some (some (.builtin "getset_descriptor.__get__"))
  ct : PySem.W.takesIn K (.builtin "object.__class__") = some true
section
variable {prog : Program} {w : World} {A : Around} {R : Result → Shared → Prop} {hp : Heap} {g : Array GenState} {d : Drawn} {t : Nat} {os : OsState} {K : PySem.W.Frag} {name : Str} {tk : Tok} {v : Value} {x C dx : Addr} {fv : Array Value} {cd : ClassData}
open Builtin Builtin.ObjectAttr PySem.Calls
/-- the way to the store itself -/
theorem xo_way {od : Option Obj} {ox : Obj} (X : K.In hp) (I : PySem.W.InstAt hp x ox C od) (hcd : PySem.W.clsIn K C = some cd) (hm : MroOk cd.mro) (ha : PySem.W.findIn K (.ref C) name = some none)
    (hs : wpAny (model prog w) A.in1 (storeInOwnDict (.ref x) (.ref C) (.str name tk) name v false) (fun fin s' => match fin with
      | .done f => R (.ok f) s'
      | .again c' => c'.quiet = true ∧ codeAny (model prog w) A c' R s') (fun e s' => R (.error e) s') ⟨hp, g, d, t, os⟩) :
    codeAny (model prog w) A (.call (.builtin "object.__setattr__") ⟨[.ref x, .str name tk, v], []⟩) R ⟨hp, g, d, t, os⟩ := by
  have SF := F.store_object
  have inst : PySem.W.Looks (model prog w) hp (isInstance (.ref x) (.type "object")) true :=
    I.type.andThen (PySem.W.looks_mroIn X (by
      unfold PySem.W.mroIn
      rw [hcd, Option.bind_some, if_neg (by rw [hm.ne]; decide), hm.ob]))
  refine codeAny_call_builtin SF.slot.plain SF.entry ?_
  refine @PySem.W.check_slot (model prog w) _ _ ⟨hp, g, d, t, os⟩ "object.__setattr__" "object" "__setattr__" (.ref x)
    [.str name tk, v] [] _ SF.kind SF.split inst (SF.args (.ref x) (.str name tk) v) ?_
  have line : PySem.W.Looks (model prog w) hp (mroOf (.ref C)) cd.mro :=
    (PySem.W.looks_clsIn X hcd).andThen .now
  have taker : PySem.W.Looks (model prog w) hp (storeTaker? none) none := PySem.W.Looks.now
  rw [PySem.W.osa_eq, PySem.refuse_eq]
  refine wpAny_bind (wpAny_bind ?_)
  refine I.type.at (wpAny_bind (line.at ?_))
  rw [hm.pass]
  refine wpAny_pure (wpAny_bind (I.type.at (wpAny_bind ?_)))
  exact (PySem.W.looks_findIn X ha).at (wpAny_bind (taker.at hs))
/-- the first field: the object's dict is laid -/
theorem xo_new (X : K.In hp) (hx : hp.get? x = some { cls := .ref C, data := .fields fv }) (hcd : PySem.W.clsIn K C = some cd) (hm : MroOk cd.mro)
    (hh : cd.hasDict = true) (ha : PySem.W.findIn K (.ref C) name = some none)
    (hq : ∀ h' tk' dx, (∀ b o, b ≠ x → hp.get? b = some o → h'.get? b = some o) → hp.objs.size ≤ dx → dx ≠ x →
      h'.get? x = some { cls := .ref C, dict := some dx, data := .fields fv } → h'.Ns1 dx (fun y => if y = name then some v else none) →
      R (.ok (.ret .none)) ⟨h', g, d, tk', os⟩) :
    codeAny (model prog w) A (.call (.builtin "object.__setattr__") ⟨[.ref x, .str name tk, v], []⟩) R ⟨hp, g, d, t, os⟩ := by
  have away : x ≠ hp.objs.size := Nat.ne_of_lt (Heap.lt_size hx)
  refine xo_way (od := none) X ⟨hx, rfl, rfl, trivial⟩ hcd hm ha ?_
  have look : PySem.W.Looks (model prog w) hp (classData C) cd := PySem.W.looks_clsIn X hcd
  obtain ⟨nm, bs, mro, ns, qn, hd, sn, sb, ab, col, del⟩ := cd
  dsimp only at hh
  subst hh
  unfold storeInOwnDict ownDictForStores
  repeat (first
    | with_reducible refine HandSPX.store_in_new ?_ ?_
    | with_reducible refine wpAny_loadPart_at hx ?_
    | with_reducible refine look.at ?_
    | wp_step)
  · exact ⟨_, #[], _,
      (Heap.get?_update_ne _ _ _ _ away.symm).trans (Heap.get?_push_at rfl rfl),
      rfl, fun e he => absurd he (by simp), fun _ => rfl⟩
  · intro h' tk' hn' hs
    have there : (hp.push { cls := .type "dict", data := .dict #[] }).get? x = some { cls := .ref C, data := .fields fv } :=
      Heap.get?_push_of_some _ hx
    refine hq h' tk' hp.objs.size (fun b o hb ho => ?_) (Nat.le_refl _) away.symm ?_ hn'
    · refine (hs.2 b (Nat.ne_of_lt (Heap.lt_size ho))).trans ?_
      exact (Heap.get?_update_ne _ _ _ _ hb).trans (Heap.get?_push_of_some _ ho)
    · exact (hs.2 x away).trans (Heap.get?_update_self _ there rfl)
/-- a further field -/
theorem xo_old {m0 : Str → Option Value} {nl : List Str} (X : K.In hp) (hx : hp.get? x = some { cls := .ref C, dict := some dx, data := .fields fv })
    (hns : hp.Ns1 dx m0) (hw : Within m0 nl) (hz : nl.length ≤ 1000) (hcd : PySem.W.clsIn K C = some cd) (hm : MroOk cd.mro)
    (hh : cd.hasDict = true) (ha : PySem.W.findIn K (.ref C) name = some none)
    (hq : ∀ h' tk', (∀ b o, b ≠ dx → hp.get? b = some o → h'.get? b = some o) → h'.Ns1 dx (fun y => if y = name then some v else m0 y) →
      R (.ok (.ret .none)) ⟨h', g, d, tk', os⟩) :
    codeAny (model prog w) A (.call (.builtin "object.__setattr__") ⟨[.ref x, .str name tk, v], []⟩) R ⟨hp, g, d, t, os⟩ := by
  obtain ⟨oD, esD, epD, hoD, hdD, _⟩ := hns.count hw
  refine xo_way (od := some oD) X ⟨hx, rfl, rfl, hoD⟩ hcd hm ha ?_
  have look : PySem.W.Looks (model prog w) hp (classData C) cd := PySem.W.looks_clsIn X hcd
  obtain ⟨nm, bs, mro, ns, qn, hd, sn, sb, ab, col, del⟩ := cd
  dsimp only at hh
  subst hh
  unfold storeInOwnDict ownDictForStores
  repeat (first
    | with_reducible refine PySem.OEX.store_in_old hns hw hz ?_
    | with_reducible refine wpAny_loadPart_at hx ?_
    | with_reducible refine look.at ?_
    | wp_step)
  exact fun h' tk' hn' hs => hq h' tk' (fun b o hb ho => (hs.2 b hb).trans ho) hn'
end
/-! stores into a tracked one -/
theorem XC.clsIn {K : PySem.W.Frag} {C : Addr} (T : XC K C) : ∃ cd : ClassData, PySem.W.clsIn K C = some cd ∧ MroOk cd.mro ∧ cd.hasDict = true := by
  obtain ⟨B, newId, initId, bmB, nm, q, N, bs, bm, sn, sub, ab, col, dd, k0, k1, k2, k3, k5, F, hT, hm, hC⟩ := T.cls
  refine ⟨{ name := nm, bases := bs, mro := .ref C :: bm, ns := N, qualname := q, hasDict := true, slotNames := sn, subclasses := sub, abstract := ab, collection := col, hasDel := false }, ?_, hm, rfl⟩
  unfold PySem.W.clsIn
  rw [hC]
section
variable {X : Cx} {pins : List (Addr × Obj)} {σ : L2.St} {H : Hp} {s : Shared} {a C dx : Addr} {f : Str} {y : V} {u : Value} {fs : List (Str × V)} {Q : Unit → Shared → Prop} {E : Value → Shared → Prop} {A : Around}
theorem xst_new (T : XC X.K C) (I : Inv X pins σ H s) (e : H a = some (exo a C none)) (hno : PySem.W.findIn X.K (.ref C) f = some none) (ry : RelV y u)
    (h : ∀ dx s', H dx = none → dx ≠ a → Inv X pins σ (upd (upd H dx (exd dx [(f, y)])) a (exo a C (some dx))) s' → Q () s') : wpAny (model X.prog X.w) A (setAttr (.ref a) f u) Q E s := by
  obtain ⟨cd, hcd, hm, hh⟩ := T.clsIn
  obtain ⟨t1, ho⟩ := exo_at I.hok e
  obtain ⟨hp, g, d, t, os⟩ := s
  refine PySem.W.set_plain I.kIn (od := none) ⟨ho, rfl, rfl, trivial⟩ T.sa ?_
  refine xo_new I.kIn ho hcd hm hh hno fun h' tk' dx k big ne hx hn => ?_
  have free : H dx = none := I.hok.fresh big
  have old : ∀ {b : Addr} {ob : Obj}, hp.get? b = some ob → b ≠ dx := fun q =>
    Nat.ne_of_lt (Nat.lt_of_lt_of_le (Heap.lt_size q) big)
  have other : ∀ {b : Addr}, H b = none → b ≠ a := fun q z => by
    subst z
    rw [e] at q
    cases q
  have here : ∀ {b : Addr} {ob : HO}, H b = some ob → ob ≠ exo a C none → upd (upd H dx (exd dx [(f, y)])) a (exo a C (some dx)) b = some ob := fun q z => by
    rw [upd_ne (by rintro rfl; rw [e] at q; exact z (Option.some.inj q).symm), upd_ne (ne_of_none q free)]
    exact q
  refine h dx _ free ne (I.un (t' := tk') ⟨?_, ?_, ?_, ?_, ?_, ?_, ?_⟩ ?_)
  · exact fun b ob q n _ _ => k b ob (other n) q
  · exact fun b ob q n _ _ => ⟨ob.slots, k b ob (other n) q⟩
  · intro b ob q n _
    rw [upd_ne (other n), upd_ne (old q)]
    exact n
  · intro b ob q _
    by_cases hb : b = a
    · subst hb
      exact ⟨_, hx⟩
    · exact ⟨ob, k b ob hb q⟩
  · exact fun b xs q => here q exo_tup.symm
  · exact fun b ob v q => here q exo_frz.symm
  · exact fun b ps q => ⟨#[], by rw [here q exo_tbl.symm]; simp⟩
  · intro b ob q
    by_cases hb : b = a
    · subst hb
      rw [upd_same] at q
      cases q
      exact exo_ok hx
    · rw [upd_ne hb] at q
      by_cases hd : b = dx
      · subst hd
        rw [upd_same] at q
        cases q
        exact exd_ok hn (relO_put (fs := []) ry fun _ => True.intro)
      · rw [upd_ne hd] at q
        refine (I.hok b ob q).stay (fun c v hc z => k c v ?_ z) (fun c hc => here hc exo_own.symm) (fun c xs hc => here hc exo_tup.symm)
        rcases hc with rfl | hc
        · exact hb
        · exact at_ne e hc exo_own
theorem xst_old (T : XC X.K C) (I : Inv X pins σ H s) (e : H a = some (exo a C (some dx))) (ed : H dx = some (exd dx fs)) (hl : fs.length ≤ 900)
    (hno : PySem.W.findIn X.K (.ref C) f = some none) (ry : RelV y u)
    (h : ∀ s', Inv X pins σ (upd H dx (exd dx ((f, y) :: fs))) s' → Q () s') : wpAny (model X.prog X.w) A (setAttr (.ref a) f u) Q E s := by
  obtain ⟨cd, hcd, hm, hh⟩ := T.clsIn
  obtain ⟨t1, ho⟩ := exo_at I.hok e
  obtain ⟨mA, hns, rel⟩ := exd_at I.hok ed
  have hw := within_of rel
  obtain ⟨hp, g, d, t, os⟩ := s
  obtain ⟨oD, _, _, hoD, _, _⟩ := hns.count hw
  refine PySem.W.set_plain I.kIn (od := some oD) ⟨ho, rfl, rfl, hoD⟩ T.sa ?_
  refine xo_old I.kIn ho hns hw (by rw [List.length_map]; omega) hcd hm hh hno fun h' tk' k hn => ?_
  obtain ⟨o, es, ep, eo, er⟩ := id hn
  exact h _ (I.write (t' := tk') (x := dx) (e := dx) (by rw [ed]; exact True.intro) (.inl rfl) k ⟨o, eo⟩ (exd_ok hn (relO_put ry rel)))
end
/-! ### the rules -/
/-- self.f = e -/
def tXst (K : PySem.W.Frag) (f : Str) (to te : TE) : TS := fun D σ H => te σ H fun y H1 => to σ H1 fun x H2 => ∃ a C : Addr, x = .ref a ∧ XC K C ∧ PySem.W.findIn K (.ref C) f = some none ∧
  ((H2 a = some (exo a C none) ∧ ∀ dx, H2 dx = none → dx ≠ a → D.nx σ (upd (upd H2 dx (exd dx [(f, y)])) a (exo a C (some dx)))) ∨
    ∃ (dx : Addr) (fs : List (Str × V)), H2 a = some (exo a C (some dx)) ∧ H2 dx = some (exd dx fs) ∧ fs.length ≤ 900 ∧ D.nx σ (upd H2 dx (exd dx ((f, y) :: fs))))
/-- C(e, ..) as a value: a new object, then its own __init__ -/
def tXmk (C : Addr) (sp : Sp) (ta : TA) : TE := fun σ H Q => ta σ H fun vs H1 => vs.length ≤ 1000 ∧ ∀ a, H1 a = none → sp (.ref a :: vs) (upd H1 a (exo a C none)) (fun v H2 => v = .non ∧ Q (.ref a) H2) (fun _ _ _ => False)
/-- e.f -/
def tXat (K : PySem.W.Frag) (f : Str) (te : TE) : TE := fun σ H Q => te σ H fun x H1 => ∃ (a C dd : Addr) (fs : List (Str × V)) (v : V), x = .ref a ∧ XC K C ∧ PySem.W.findIn K (.ref C) f = some none ∧
  H1 a = some (exo a C (some dd)) ∧ H1 dd = some (exd dd fs) ∧ fs.lookup f = some v ∧ Q v H1
/-- isinstance(e, c) -/
def rXis (K : PySem.W.Frag) : List V → Hp → VK → Prop := fun xs H Q => ∃ (a C dd : Addr) (fs : List (Str × V)) (c : V) (u : Value) (b : Bool), xs = [.ref a, c] ∧ ClsV c u ∧ XC K C ∧ XG K ∧ H a = some (exo a C (some dd)) ∧ H dd = some (exd dd fs) ∧ PySem.W.kitOne K (.ref C) u = some b ∧ Q (.bl b) H
section
variable {X : Cx} {o e : Expr} {es : List Expr} {to te : TE} {ta : TA} {f x : Str} {p p' pos : Pos} {CX : CXT} {C fI : Addr} {k : Nat} {fd : FuncData} {ps : List Str} {sp : Sp}
theorem ps_xst (ho : PE X o to) (he : PE X e te) (hs : swapsWith e (some (.Attribute o f p')) pos.line X.env = pure false := by rfl) : PS X (.Assign [.Attribute o f p'] e pos) (tXst X.K f to te) := by
  refine ⟨fun pins s σ H D I h => ?_⟩
  refine plainObj_wpAny_Assign_Attribute ?_ hs
  refine thn (he.run pins s σ H _ I h) fun v s1 ⟨y, H1, I1, r1, q1⟩ => ?_
  refine thn (ho.run pins s1 σ H1 _ I1 q1) fun u s2 ⟨x, H2, I2, r2, a, C, ex, T, hno, q⟩ => ?_
  subst ex
  obtain rfl : u = Value.ref a := r2
  rcases q with ⟨ea, q⟩ | ⟨dx, fs, ea, ed, hl, q⟩
  · exact xst_new T I2 ea hno r1 fun dx s' n ne J => ⟨σ, _, J, q dx n ne⟩
  · exact xst_old T I2 ea ed hl hno r1 fun s' J => ⟨σ, _, J, q⟩
/-- where e stands with its dict -/
theorem x_inst {pins : List (Addr × Obj)} {σ : L2.St} {H : Hp} {s : Shared} {a C dd : Addr} {fs : List (Str × V)} (I : Inv X pins σ H s) (ea : H a = some (exo a C (some dd))) (ed : H dd = some (exd dd fs)) :
    ∃ (ox od : Obj) (mA : Str → Option Value), PySem.W.InstAt s.heap a ox C (some od) ∧ (∀ n, PySem.W.lookIn n od = some (mA n)) ∧ ∀ n, RelO (fs.lookup n) (mA n) := by
  obtain ⟨t1, ho⟩ := exo_at I.hok ea
  obtain ⟨mA, hns, rel⟩ := exd_at I.hok ed
  obtain ⟨od, hd, hl⟩ := lookIn_ns hns
  exact ⟨_, od, mA, ⟨ho, rfl, rfl, hd⟩, hl, rel⟩
theorem pe_xat (he : PE X e te) (hb : attributeBase e f X.env (eval e X.env) = eval e X.env := by rfl) : PE X (.Attribute e f pos) (tXat X.K f te) := by
  refine ⟨fun pins s σ H Q I h => ?_⟩
  refine attr_of hb (thn (he.run pins s σ H _ I h) fun u s1 hh => ?_)
  obtain ⟨x, H1, I1, rx, a, C, dd, fs, v, ex, T, hno, ea, ed, l, q⟩ := hh
  subst ex
  obtain rfl : u = Value.ref a := rx
  obtain ⟨ox, od, mA, J, hl, rel⟩ := x_inst I1 ea ed
  obtain ⟨cd, hcd, _, hdd⟩ := T.clsIn
  obtain ⟨u, hu, ru⟩ := RelO.some_of (v := v) (o := mA f) (by rw [← l]; exact rel f)
  refine HandSPX.exc_get I1.kIn J T.ga T.gg T.exC (PySem.W.findObj_own (attr := none) ?_ hno rfl (by rw [hl, hu])) (handed_of ru) ⟨v, H1, I1.tok _, ru, q⟩
  show (PySem.W.clsIn X.K C).any (·.hasDict) = true
  rw [hcd]
  exact hdd
theorem pe_xatC {K : PySem.W.Frag} (hK : X.K = K) (he : PE X e te) (hb : attributeBase e f X.env (eval e X.env) = eval e X.env := by rfl) : PE X (.Attribute e f pos) (tXat K f te) := by
  subst hK
  exact pe_xat he hb
theorem call_xis : CallR X (.builtin "isinstance") (rXis X.K) := by
  intro pins s σ H xs us Q I r h
  obtain ⟨a, C, dd, fs, c, u, b, rfl, k, T, G, ea, ed, e, q⟩ := h
  obtain ⟨u1, u2, rfl, r1, r2⟩ := vals2 r
  have e2 := k.eq r2
  subst e2
  obtain rfl : u1 = Value.ref a := r1
  obtain ⟨ox, od, mA, J, _, _⟩ := x_inst I ea ed
  obtain ⟨cd, hcd, _, _⟩ := T.clsIn
  exact PySem.W.kia_one (PySem.W.kitx_exc (by rw [hcd]; rfl) T.ga T.gg T.exC T.ca G.cn G.ct T.mo) I.kIn J e (fun z => nomatch z) fun tk => ⟨.bl b, H, I.tok tk, rfl, q⟩
theorem run_xmk {pins : List (Addr × Obj)} {σ : L2.St} {H : Hp} {s : Shared} {Q : VK} {us : List Value} {vs : List V} (T : XC X.K C) (iC : PySem.W.findIn X.K (.ref C) "__init__" = some (some (.ref fI))) (tI : PySem.W.typeIn X.K (.ref fI) = some (.type "function"))
    (F1 : FnOk X.prog X.w X.K X.mg X.base CX k fI fd ps sp) (hr : Room (k + 1) X.A) (hb : Binds X.K fd ps []) (hx : Passes CX X (fun _ _ _ => False)) (I : Inv X pins σ H s) (r : Vals vs us) (hz : vs.length ≤ 1000)
    (h : ∀ a, H a = none → sp (.ref a :: vs) (upd H a (exo a C none)) (fun v H2 => v = .non ∧ Q (.ref a) H2) (fun _ _ _ => False)) :
    wpAny (model X.prog X.w) X.A (call (.ref C) us) (EP X pins σ Q) X.xe s := by
  obtain ⟨B, newId, initId, bmB, nm, q, N, bs, bm, sn, sub, ab, col, dd, k0, k1, k2, k3, k5, F, hT, hm, hC⟩ := T.cls
  obtain ⟨hp, g, dr, tk, os⟩ := s
  have hsz : hp.objs.size ≤ hp.objs.size + 1 := Nat.le_succ _
  have hq := h (hp.objs.size + 1) (I.hok.fresh hsz)
  have kk : ∀ b o, hp.get? b = some o → ((hp.push (PySem.W.kdv_tup us)).push (PySem.HandSPX.excO C hp.objs.size)).get? b = some o := fun b o e => Heap.get?_push_of_some _ (Heap.get?_push_of_some _ e)
  have hget : ((hp.push (PySem.W.kdv_tup us)).push (PySem.HandSPX.excO C hp.objs.size)).get? (hp.objs.size + 1) = some (PySem.HandSPX.excO C hp.objs.size) := by heap_get
  have I2 : Inv X pins σ (upd H (hp.objs.size + 1) (exo (hp.objs.size + 1) C none)) ⟨(hp.push (PySem.W.kdv_tup us)).push (PySem.HandSPX.excO C hp.objs.size), g, dr, tk, os⟩ := by
    refine I.laid (t' := tk) ?_ ?_ ?_
    · exact kk
    · exact hsz
    · exact exo_ok hget
  have r2 : Vals (V.ref (hp.objs.size + 1) :: vs) (Value.ref (hp.objs.size + 1) :: us) := .cons rfl r
  have hl : (Value.ref (hp.objs.size + 1) :: us ++ []).length = ps.length := by
    rw [List.append_nil, ← r2.length]
    exact F1.len _ _ _ _ hq
  have hus : us.length ≤ sizeLine := by
    rw [← Paired.length r]
    exact small (by omega)
  refine wpAny_call (PySem.HandSPX.call_own F hT (I.kIn _ _ hC) (PySem.W.looks_findIn I.kIn iC) (fun self => PySem.W.bind_fn I.kIn self tI) hus ?_)
  refine codeAny_mono (F1.run _ X.stack _ _ ⟨Value.ref (hp.objs.size + 1) :: us, []⟩ (Value.ref (hp.objs.size + 1) :: us) _ _ (fun _ _ _ => False) (hr.make C us []) (I2.env0.make C us []) ?_ r2 hq) fun r s' hq' => ?_
  · have := hb _ (Value.ref (hp.objs.size + 1) :: us) I2.kIn hl
    rw [List.append_nil] at this
    exact this
  cases r with
  | error er => exact hx pins σ _ _ er s' I2 hq'
  | ok fl =>
    cases fl with
    | ret u =>
      obtain ⟨v, H2, I3, rv, ev, q3⟩ := I2.after hq'
      subst ev
      refine ⟨rv, V.ref (hp.objs.size + 1), H2, I3, rfl, q3⟩
    | next => exact False.elim hq'
    | brk => exact False.elim hq'
    | cont => exact False.elim hq'
theorem pe_xmk (T : XC X.K C) (iC : PySem.W.findIn X.K (.ref C) "__init__" = some (some (.ref fI))) (tI : PySem.W.typeIn X.K (.ref fI) = some (.type "function"))
    (F1 : FnOk X.prog X.w X.K X.mg X.base CX k fI fd ps sp) (hr : Room (k + 1) X.A) (hb : Binds X.K fd ps []) (hx : Passes CX X (fun _ _ _ => False)) (hg : Gl X x) (hm : X.mg x = some (.ref C)) (ha : PA X (e :: es) ta)
    (hdb : (x == ("__debug__" : Str)) = false := by decide) (he : starEach (e :: es) X.env = (false, eval e X.env) :: starEach es X.env := by rfl) (hpl : (backTo pos (starEach es X.env)).any (·.1) = false := by rfl) :
    PE X (.Call (.Name x p) (e :: es) [] pos) (tXmk C sp ta) := by
  refine ⟨fun pins s σ H Q I h => ?_⟩
  refine wpAny_Call_Name_kw (ld_glob I hg hm ?_ hdb)
  refine PySem.W.callWith_K (h₀ := X.base) I.ok.mod.kin T.kC (thn (ha.run pos pins s σ H _ I h) fun us s1 ⟨vs, H1, I1, r1, hz, q1⟩ => ⟨I1.kIn, ?_⟩) he hpl
  exact run_xmk T iC tI F1 hr hb hx I1 r1 hz q1
theorem pe_xmk0 (T : XC X.K C) (iC : PySem.W.findIn X.K (.ref C) "__init__" = some (some (.ref fI))) (tI : PySem.W.typeIn X.K (.ref fI) = some (.type "function"))
    (F1 : FnOk X.prog X.w X.K X.mg X.base CX k fI fd ps sp) (hr : Room (k + 1) X.A) (hb : Binds X.K fd ps []) (hx : Passes CX X (fun _ _ _ => False)) (hg : Gl X x) (hm : X.mg x = some (.ref C))
    (hdb : (x == ("__debug__" : Str)) = false := by decide) :
    PE X (.Call (.Name x p) [] [] pos) (tXmk C sp tNil) := by
  refine ⟨fun pins s σ H Q I h => ?_⟩
  refine wpAny_Call_Name_kw (ld_glob I hg hm ?_ hdb)
  exact PySem.W.callWith_K0 I.kIn T.kC (run_xmk (us := []) (vs := []) T iC tI F1 hr hb hx I .nil h.1 h.2)
end
/-! ### one Bool for a class's facts -/
def xcB (K : PySem.W.Frag) (bmB : List Value) (newId : String) (C : Addr) : Bool :=
  PySem.W.excInitIn K C bmB newId && (PySem.W.hasDictIn K C && (decide (PySem.W.findIn K (.ref C) "__setattr__" = some (some (.builtin "object.__setattr__"))) && (decide (PySem.W.findIn K (.ref C) "__getattribute__" = some (some (.builtin "BaseException.__getattribute__"))) &&
    (decide (PySem.W.findIn K (.ref C) "__getattr__" = some none) && (decide (PySem.W.findIn K (.ref C) "__class__" = some (some (.builtin "object.__class__"))) && PySem.W.keepIn K (.ref C))))))
theorem xc_of {K : PySem.W.Frag} {C : Addr} {B newId initId : String} {bmB : List Value} (F : ExcBaseFacts B newId initId bmB) (hob : bmB.contains (.type "object") = true) (hbx : bmB.contains (.type "BaseException") = true)
    (hp : ∀ self : Value, PySem.refuseLoop self "__setattr__" bmB = pure ()) (h : xcB K bmB newId C = true) : XC K C := by
  unfold xcB at h
  simp only [Bool.and_eq_true, decide_eq_true_eq] at h
  obtain ⟨h1, h2, h3, h4, h5, h6, h7⟩ := h
  unfold PySem.W.excInitIn at h1
  split at h1
  case h_2 => cases h1
  rename_i dd cd sl ho
  split at h1
  case h_2 => cases h1
  rename_i C' bm k0 k1 k2 k3 n k5 hm hs
  simp only [Bool.and_eq_true, beq_iff_eq, Bool.not_eq_true'] at h1
  obtain ⟨⟨⟨e1, e2⟩, hdel⟩, ht⟩ := h1
  subst e1 e2
  obtain ⟨nm, bs, mro, ns, qn, hd, sn, sub, ab, col, del⟩ := cd
  dsimp only at hm hdel
  subst hm hdel
  obtain rfl : hd = true := by
    have z : (PySem.W.clsIn K C').any (·.hasDict) = true := h2
    unfold PySem.W.clsIn at z
    rw [ho] at z
    exact z
  obtain rfl : sl = #[k0, k1, k2, k3, some (.builtin n), k5] := by
    obtain ⟨l⟩ := sl
    simp only at hs
    rw [hs]
  have hc : ∀ T : String, bm.contains (.type T) = bmB.contains (.type T) := fun T => PySem.W.excTail_contains T _ ht
  have mo : ∀ T : String, bmB.contains (.type T) = true → PySem.W.mroIn K C' (.type T) = some true := fun T hT => by
    unfold PySem.W.mroIn PySem.W.clsIn
    rw [ho, Option.bind_some]
    show (if ((.ref C' : Value) :: bm).isEmpty = true then none else some (((.ref C' : Value) :: bm).contains (.type T))) = _
    rw [if_neg (by show ¬ (false = true); decide), List.contains_cons, hc, hT, Bool.or_true]
  refine ⟨⟨B, n, initId, bmB, nm, qn, ns, bs, bm, sn, sub, ab, col, dd, k0, k1, k2, k3, k5, F, hc, ?_, ho⟩, h3, h4, h5, h6, h7, mo _ hbx, mo _ hob⟩
  refine ⟨rfl, ?_, fun self => ?_⟩
  · rw [List.contains_cons, hc, hob, Bool.or_true]
  · rw [PySem.refuseLoop_ref]
    exact PySem.W.excTail_pass self (hp self) _ ht
theorem xc_ve {K : PySem.W.Frag} {C : Addr} (h : xcB K veM "ValueError.__new__" C = true) : XC K C := xc_of F.excBase_ValueError (by decide +kernel) (by decide +kernel) (fun self => PySem.F.store_ValueError.passes self) h
theorem xc_le {K : PySem.W.Frag} {C : Addr} (h : xcB K leM "LookupError.__new__" C = true) : XC K C := xc_of F.excBase_LookupError (by decide +kernel) (by decide +kernel) (fun self => PySem.F.store_LookupError.passes self) h
theorem xc_ie {K : PySem.W.Frag} {C : Addr} (h : xcB K ieM "IndexError.__new__" C = true) : XC K C := xc_of F.excBase_IndexError (by decide +kernel) (by decide +kernel) (fun self => PySem.F.store_IndexError.passes self) h
end Bl

/-! the errors of the package: codes, fields; an error made; what a law reads off it -/
namespace Bl
open PySem L2
def rows : List (Str × List Str) := [("InvalidName", ["given"]), ("InvalidColumn", ["at"]), ("InvalidSide", ["at"]), ("InvalidKey", ["given"]), ("InvalidStep", ["at"]), ("InvalidTest", ["given"]), ("InvalidThing", ["given"]), ("InvalidSetting", ["given"]),
  ("InvalidWord", ["given"]), ("InvalidNumber", ["given"]), ("InvalidText", ["line"]), ("InvalidCommand", ["at"]), ("DuplicateName", ["name"]), ("SideTaken", ["taken"]), ("TooMany", ["most"]), ("Full", ["most"]),
  ("InvalidRow", ["table", "at"]), ("Torn", ["one", "other"]), ("OtherProgram", []), ("Untold", []), ("UnknownName", ["name"]), ("UnknownColumn", ["name"]), ("UnknownRow", ["number"]), ("NothingLeft", [])]
structure NoF (K : PySem.W.Frag) (C : Addr) (r : Str × List Str) : Prop where
  code : PySem.W.findIn K (.ref C) "code" = some none
  field : ∀ f ∈ r.2, PySem.W.findIn K (.ref C) f = some none
/-! an error that stands -/
def mkF (r : Str × List Str) (ys : List V) : List (Str × V) := ("code", .str r.1) :: (r.2.zip ys).reverse
structure InitD (H H' : Hp) (a C dx : Addr) (fs : List (Str × V)) : Prop where
  ne : dx ≠ a
  fr : H dx = none
  oa : H' a = some (exo a C (some dx))
  od : H' dx = some (exd dx fs)
  el : ∀ b, b ≠ a → b ≠ dx → H' b = H b
def spI (K : PySem.W.Frag) (C : Addr) (r : Str × List Str) : Sp := fun vs H Q _ => ∃ (a : Addr) (ys : List V), vs = .ref a :: ys ∧ ys.length = r.2.length ∧ H a = some (exo a C none) ∧ ∀ (dx : Addr) (H' : Hp), InitD H H' a C dx (mkF r ys) → Q .non H'
section
variable {K : PySem.W.Frag} {C a : Addr} {cn f g : Str} {H : Hp} {Q : VK} {ys : List V} {n : Str}
theorem init0 (T : XC K C) (N : NoF K C (cn, [])) (hl : ys.length = 0) (ea : H a = some (exo a C none)) (k : ∀ (dx : Addr) (H' : Hp), InitD H H' a C dx (mkF (cn, []) ys) → Q .non H') :
    (tXst K "code" (tVar 0) (tC (.str cn))) { nx := fun _ H' => Q .non H', rt := Q } [some (.ref a)] H := by
  obtain rfl := List.eq_nil_of_length_eq_zero hl
  refine ⟨_, rfl, a, C, rfl, T, N.code, .inl ⟨ea, fun dx hd ne => k dx _ ⟨ne, hd, upd_same, ?_, fun b b1 b2 => ?_⟩⟩⟩
  · rw [upd_ne ne, upd_same]
    rfl
  · rw [upd_ne b1, upd_ne b2]
theorem init1 {y : V} (T : XC K C) (N : NoF K C (cn, [f])) (ea : H a = some (exo a C none)) (k : ∀ (dx : Addr) (H' : Hp), InitD H H' a C dx (mkF (cn, [f]) [y]) → Q .non H') :
    (tSeq (tXst K f (tVar 0) (tVar 1)) (tXst K "code" (tVar 0) (tC (.str cn)))) { nx := fun _ H' => Q .non H', rt := Q } [some (.ref a), some y] H := by
  refine ⟨_, rfl, _, rfl, a, C, rfl, T, N.field f List.mem_cons_self, .inl ⟨ea, fun dx hd ne => ?_⟩⟩
  refine ⟨_, rfl, a, C, rfl, T, N.code, .inr ⟨dx, [(f, y)], upd_same, ?_, (by show 1 ≤ 900; decide), k dx _ ⟨ne, hd, ?_, upd_same, fun b b1 b2 => ?_⟩⟩⟩
  · rw [upd_ne ne, upd_same]
  · rw [upd_ne ne.symm, upd_same]
  · rw [upd_ne b2, upd_ne b1, upd_ne b2]
theorem init2 {y z : V} (T : XC K C) (N : NoF K C (cn, [f, g])) (ea : H a = some (exo a C none)) (k : ∀ (dx : Addr) (H' : Hp), InitD H H' a C dx (mkF (cn, [f, g]) [y, z]) → Q .non H') :
    (tSeq (tXst K f (tVar 0) (tVar 1)) (tSeq (tXst K g (tVar 0) (tVar 2)) (tXst K "code" (tVar 0) (tC (.str cn))))) { nx := fun _ H' => Q .non H', rt := Q } [some (.ref a), some y, some z] H := by
  refine ⟨_, rfl, _, rfl, a, C, rfl, T, N.field f List.mem_cons_self, .inl ⟨ea, fun dx hd ne => ?_⟩⟩
  refine ⟨_, rfl, _, rfl, a, C, rfl, T, N.field g (List.mem_cons_of_mem _ List.mem_cons_self), .inr ⟨dx, [(f, y)], upd_same, ?_, (by show 1 ≤ 900; decide), ?_⟩⟩
  · rw [upd_ne ne, upd_same]
  refine ⟨_, rfl, a, C, rfl, T, N.code, .inr ⟨dx, [(g, z), (f, y)], ?_, upd_same, (by show 2 ≤ 900; decide), k dx _ ⟨ne, hd, ?_, upd_same, fun b b1 b2 => ?_⟩⟩⟩
  · rw [upd_ne ne.symm, upd_same]
  · rw [upd_ne ne.symm, upd_ne ne.symm, upd_same]
  · rw [upd_ne b2, upd_ne b2, upd_ne b1, upd_ne b2]
theorem ini0 (T : XC K C) (N : NoF K C (cn, [])) (hl : ys.length = 0) (ea : H a = some (exo a C none)) (k : ∀ (dx : Addr) (H' : Hp), InitD H H' a C dx (mkF (cn, []) ys) → Q .non H') :
    (tXst K "code" (tVar 0) (tC (.str cn))) { nx := fun _ H' => Q .non H', rt := Q } (start ["self"] (.ref a :: ys)) H := by
  obtain rfl := List.eq_nil_of_length_eq_zero hl
  exact init0 T N rfl ea k
theorem ini1 (T : XC K C) (N : NoF K C (cn, [f])) (hl : ys.length = 1) (ea : H a = some (exo a C none)) (k : ∀ (dx : Addr) (H' : Hp), InitD H H' a C dx (mkF (cn, [f]) ys) → Q .non H') :
    (tSeq (tXst K f (tVar 0) (tVar 1)) (tXst K "code" (tVar 0) (tC (.str cn)))) { nx := fun _ H' => Q .non H', rt := Q } (start ["self", f] (.ref a :: ys)) H := by
  match ys, hl with
  | [y], _ => exact init1 T N ea k
theorem ini2 (T : XC K C) (N : NoF K C (cn, [f, g])) (hl : ys.length = 2) (ea : H a = some (exo a C none)) (k : ∀ (dx : Addr) (H' : Hp), InitD H H' a C dx (mkF (cn, [f, g]) ys) → Q .non H') :
    (tSeq (tXst K f (tVar 0) (tVar 1)) (tSeq (tXst K g (tVar 0) (tVar 2)) (tXst K "code" (tVar 0) (tC (.str cn))))) { nx := fun _ H' => Q .non H', rt := Q } (start ["self", f, g] (.ref a :: ys)) H := by
  match ys, hl with
  | [y, z], _ => exact init2 T N ea k
end
def l1 : List V := [.str "InvalidName", .str "InvalidKey", .str "InvalidTest", .str "InvalidThing", .str "InvalidSetting", .str "InvalidWord", .str "InvalidNumber"]
def l2 : List V := [.str "InvalidColumn", .str "InvalidSide", .str "InvalidStep", .str "InvalidCommand"]
def l5 : List V := [.str "DuplicateName", .str "UnknownName", .str "UnknownColumn"]
def l6 : List V := [.str "TooMany", .str "Full"]
def oneR (r : Str × List Str) (f : Str) : Bool := decide (r.2 = [f])
def twoR (r : Str × List Str) (f g : Str) : Bool := decide (r.2 = [f, g])
def fieldR (r : Str × List Str) : Bool :=
  if inV (.str r.1) l1 = true then oneR r "given" else
  if inV (.str r.1) l2 = true then oneR r "at" else
  if decide (V.str r.1 = V.str "InvalidRow") = true then twoR r "table" "at" else
  if decide (V.str r.1 = V.str "Torn") = true then twoR r "one" "other" else
  if inV (.str r.1) l5 = true then oneR r "name" else
  if inV (.str r.1) l6 = true then oneR r "most" else
  if decide (V.str r.1 = V.str "SideTaken") = true then oneR r "taken" else
  if decide (V.str r.1 = V.str "UnknownRow") = true then oneR r "number" else
  if decide (V.str r.1 = V.str "InvalidText") = true then oneR r "line" else decide (r.2 = [])
theorem fieldR_all : rows.all fieldR = true := by decide +kernel
/-- the one field, or both -/
def datOf : List PyData → PyData
  | [] => .none
  | [d] => d
  | ds => .tuple ds
section
variable {K : PySem.W.Frag} {r : Str × List Str} {f g : Str} {y z : V} {ys : List V}
theorem lk_one (hf : r.2 = [f]) (hc : (f == ("code" : Str)) = false) : (mkF r [y]).lookup f = some y := by
  unfold mkF
  rw [hf]
  show List.lookup f [("code", .str _), (f, y)] = some y
  simp [List.lookup, hc]
theorem lk_fst (hf : r.2 = [f, g]) (hc : (f == ("code" : Str)) = false) (hg : (f == g) = false) : (mkF r [y, z]).lookup f = some y := by
  unfold mkF
  rw [hf]
  show List.lookup f [("code", .str _), (g, z), (f, y)] = some y
  simp [List.lookup, hc, hg]
theorem lk_snd (hf : r.2 = [f, g]) (hc : (g == ("code" : Str)) = false) : (mkF r [y, z]).lookup g = some z := by
  unfold mkF
  rw [hf]
  show List.lookup g [("code", .str _), (g, z), (f, y)] = some z
  simp [List.lookup, hc]
theorem nof_one {C : Addr} (N : NoF K C r) (hf : r.2 = [f]) : PySem.W.findIn K (.ref C) f = some none := N.field f (by rw [hf]; exact List.mem_cons_self)
theorem nof_fst {C : Addr} (N : NoF K C r) (hf : r.2 = [f, g]) : PySem.W.findIn K (.ref C) f = some none := N.field f (by rw [hf]; exact List.mem_cons_self)
theorem nof_snd {C : Addr} (N : NoF K C r) (hf : r.2 = [f, g]) : PySem.W.findIn K (.ref C) g = some none := N.field g (by rw [hf]; exact List.mem_cons_of_mem _ List.mem_cons_self)
theorem one_of (h5 : ys.length = r.2.length) (hf : r.2 = [f]) : ∃ y, ys = [y] := by
  rw [hf] at h5
  match ys, h5 with
  | [y], _ => exact ⟨y, rfl⟩
theorem two_of (h5 : ys.length = r.2.length) (hf : r.2 = [f, g]) : ∃ y z, ys = [y, z] := by
  rw [hf] at h5
  match ys, h5 with
  | [y, z], _ => exact ⟨y, z, rfl⟩
theorem nix_of (h5 : ys.length = r.2.length) (hf : r.2 = []) : ys = [] := by
  rw [hf] at h5
  exact List.eq_nil_of_length_eq_zero h5
theorem dp_one {H : Hp} {ds : List PyData} (h : DpAll K H [y] ds) : Dp K H y (datOf ds) := by
  cases h with
  | cons h1 h2 =>
    cases h2
    exact h1
theorem dp_two {H : Hp} {p : Addr} {ds : List PyData} (h : DpAll K H [y, z] ds) (s : SqT K H p [y, z]) : Dp K H (.ref p) (datOf ds) := by
  cases h with
  | cons h1 h2 =>
    cases h2 with
    | cons h2 h3 =>
      cases h3
      exact .tup s (.cons h1 (.cons h2 .nil))
end
/-- the error in hand: of the class at C, a row of the table, made of ys -/
structure InHand (K : PySem.W.Frag) (H : Hp) (cls : Value) (d : Option Addr) (r : Str × List Str) (ys : List V) : Prop where
  ex : ∃ C dd : Addr, cls = .ref C ∧ d = some dd ∧ XC K C ∧ NoF K C r ∧ r ∈ rows ∧ ys.length = r.2.length ∧ H dd = some (.xd (mkF r ys))
theorem InHand.mono {K : PySem.W.Frag} {H H' : Hp} {cls : Value} {d : Option Addr} {r : Str × List Str} {ys : List V} (h : InHand K H cls d r ys) (e : Same H H') : InHand K H' cls d r ys := by
  obtain ⟨C, dd, h1, h2, h3, h4, h5, h6, h7⟩ := h.ex
  exact ⟨C, dd, h1, h2, h3, h4, h5, h6, e _ _ h7⟩
def spFieldH (K : PySem.W.Frag) : Addr → Value → Option Addr → Sp := fun a cls d vs H Q _ => ∃ (r : Str × List Str) (ys : List V) (ds : List PyData), vs = [.ref a] ∧ InHand K H cls d r ys ∧ DpAll K H ys ds ∧
  ∀ (v : V) (H' : Hp), Same H H' → Dp K H' v (datOf ds) → Q v H'
end Bl

/-! what a def that catches asks: the tuple of classes, the error in hand, a def called there -/
namespace Bl
open PySem L2 PySem.Spec PyProof.Rows
theorem fly_grow {B h h' : Heap} {l : List Env} {a : Addr} {Z : Obj → Prop} (k : ∀ b o, h.get? b = some o → h'.get? b = some o) (fl : HandSPX.FlyingZ B l a Z h) : HandSPX.FlyingZ B l a Z h' := by
  obtain ⟨st, na, ff, oe, vs, T, oT, ts, h1, h2, h3, h4, h5, h6, h7, h8, h9⟩ := fl
  refine ⟨fun b o e => k _ _ (st b o e), na, ?_, oe, vs, T, oT, ts, k _ _ h1, h2, h3, h4, h5, h6, k _ _ h7, h8, h9⟩
  exact Heap.FunFrames.of_keeps (fun b o e _ => ⟨o, k _ _ e, rfl⟩) ff
/-- what the clause 'except (x1, x2, x3) as n' wishes, n in slot i: it is one of them -/
def wAs3 (K : PySem.W.Frag) (cs : List Value) (l i : Nat) (ts : Addr → Value → Option Addr → TS) (D : Ends) : WX := fun cls d σ H =>
  PySem.W.exmAny K cls cs = some true ∧ ∀ a, H a = none → σ.length = l →
    ts a cls d { nx := fun τ G => D.nx (τ.set i none) G, rt := D.rt, bk := fun τ G => D.bk (τ.set i none) G, ct := fun τ G => D.ct (τ.set i none) G } (σ.set i (some (.ref a))) H
section
variable {X : Cx} {x1 x2 x3 n : Str} {c1 c2 c3 : Value} {i kk : Nat} {body suite : List Stmt} {b₀ : Stmt} {p1 p2 p3 tp pos pos' : Pos} {tb : WX → TS} {ts : Addr → Value → Option Addr → TS}
theorem names_ok {x : Str} {c : Value} {np : Pos} {pins : List (Addr × Obj)} {σ : L2.St} {H : Hp} {s : Shared} {Q : Value → Shared → Prop} (hc : Names X x c) (I : Inv X pins σ H s) (q : Q c s) {E : Value → Shared → Prop} :
    wpAny (model X.prog X.w) X.A (eval (.Name x np) X.env) Q E s := by
  obtain ⟨hg, hd, hm | ⟨hm, hv, hn⟩⟩ := hc
  · exact ld_glob I hg hm q hd
  · exact ld_blt I hg hm hv q hn hd
theorem ps_try_as3 (hs : X.stack = X.env :: X.outer) (hf : X.env.frame = some X.env.locals) (hN : X.N.Nodup) (hi : X.N[i]? = some n) (hln : X.env.kindOf n = some .local)
    (n1 : Names X x1 c1) (n2 : Names X x2 c2) (n3 : Names X x3 c3)
    (hb : ∀ (W : WX) (pn : List (Addr × Obj)) (xe : Value → Shared → Prop), Takes (X.tr pn xe) W →
      PSs (X.tr pn xe) body (tb W))
    (hsu : ∀ (a : Addr) (oe : Obj) (cls : Value) (d : Option Addr) (pn : List (Addr × Obj)), Zc cls d oe →
      (∃ vs, oe.data = .fields vs) → PSs (X.suite a ((a, oe) :: pn)) (b₀ :: suite) (ts a cls d)) :
    PS X (.Try body [.ExceptHandler (some (.Tuple [.Name x1 p1, .Name x2 p2, .Name x3 p3] kk tp)) (some n) (b₀ :: suite) pos'] [] [] pos) (fun D σ H => tb (wAs3 X.K [c1, c2, c3] X.N.length i ts D) D σ H) := by
  refine ⟨fun pins s σ H D I h => ?_⟩
  have ok := I.ok
  have hfa : X.A.frames = some (X.env :: X.outer) := ok.frames.trans (congrArg some hs)
  refine wpAny_Try_except ?_
  refine wpAny_mono ((hb (wAs3 X.K [c1, c2, c3] X.N.length i ts D) (X.pn ++ pins) (fun e s₁ => wpAny (model X.prog X.w) X.A (noteFrame e X.env) (fun _ s₂ => wpAny (model X.prog X.w) X.A (setFlight e none) (fun _ s₃ =>
    wpAny (model X.prog X.w) X.A (handleBy e X.env [.ExceptHandler (some (.Tuple [.Name x1 p1, .Name x2 p2, .Name x3 p3] kk tp)) (some n) (b₀ :: suite) pos']) (SP X pins D) X.xe s₃) X.xe s₂) X.xe s₁) (fun u s' xx => ?_)).run [] s σ H D (I.toTry _) h) (fun f s1 hsp => ?_) (fun e s1 he => he)
  · obtain ⟨a, B, sB, pins', σ', H', cls, d, rfl, J', nb, up, sky, na, os, ag, hb1, hgo⟩ := xx
    have J := J'.ofTry ok
    rw [show (X.tr (X.pn ++ pins) _).stack = X.env :: X.outer from hs] at sky
    show wpAny (model X.prog X.w) X.A (noteFrame (.ref a) X.env) _ _ _
    refine Sky.land Zc.steady hfa hf sky fun h3 fa3 sl3 => ?_
    have K3 : Inv X pins σ' H' { s' with heap := h3 } := J.landed nb fa3.1 (up.trans sl3) os ag
    obtain ⟨ob3, fv3, at3, zc3, da3⟩ := fa3.there
    have apS : a ∉ frs (X.env :: X.outer) := fun hm => by
      obtain ⟨_, o', e', hnf⟩ := Heap.FunFrames.mem fa3.2.2.1 hm
      rw [at3] at e'
      cases e'
      exact hnf _ da3
    have apL : a ≠ X.env.locals := by
      intro z
      refine apS (List.mem_filterMap.mpr ⟨X.env, List.mem_cons_self, ?_⟩)
      rw [hf, z]
    have apF : a ∉ X.fs := by
      intro z
      obtain ⟨en, hen, qe⟩ := List.mem_filterMap.mp z
      exact apS (List.mem_filterMap.mpr ⟨en, .tail _ hen, qe⟩)
    have U3 := K3.suite at3 da3 na apL apF
    refine wpAny_handleBy_cons (codeAny_handlers_test ?_) (by intro q; cases q)
    have LT : PySem.W.Looks (model X.prog X.w) h3 (typeOf (.ref a)) cls := fun A Q E s k q =>
      wpAny_typeOf_ref (k _ _ at3) (by rw [zc3.1]; exact q)
    have kp : ∀ b o, h3.get? b = some o → (h3.push { cls := .type "tuple", data := .seq [c1, c2, c3].toArray }).get? b = some o :=
      fun _ _ z => Heap.get?_push_of_some _ z
    show wpAny (model X.prog X.w) (X.A.mark (some (.ref a))) (eval (.Tuple [.Name x1 p1, .Name x2 p2, .Name x3 p3] kk tp) X.env) _ _ _
    refine wpAny_Tuple ?_
    refine wpAny_items_cons (names_ok (X := X.suite a ((a, ob3) :: (X.pn ++ pins))) n1 U3 ?_)
    refine wpAny_items_cons (names_ok (X := X.suite a ((a, ob3) :: (X.pn ++ pins))) n2 U3 ?_)
    refine wpAny_items_cons (names_ok (X := X.suite a ((a, ob3) :: (X.pn ++ pins))) n3 U3 ?_)
    refine wpAny_items_nil ⟨by size_fits, ?_⟩
    have fa5 := fly_grow kp fa3
    refine (PySem.W.exm_tup3 (K3.kIn.keeps kp) (LT.keeps kp) (Heap.get?_push_size h3 rfl) hb1).here ?_
    refine codeAny_handlers_suite_as ?_
    refine HandSPX.lands_againZ fa5 fun h4 fa4 sl4 => ?_
    have upk : h3.UpToSlots (h3.push { cls := .type "tuple", data := .seq [c1, c2, c3].toArray }) := fun b o e _ => ⟨o.slots, kp b o e⟩
    have K4 : Inv X pins σ' H' { s' with heap := h4 } := J.landed nb fa4.1 (((up.trans sl3).trans upk).trans sl4) os ag
    obtain ⟨ob4, fv4, at4, zc4, da4⟩ := fa4.there
    have U4 := K4.suite at4 da4 na apL apF
    refine store_ok (X := X.suite a ((a, ob4) :: (X.pn ++ pins))) (v := .ref a) U4 hN hi (.inl hln) rfl (fun s5 S5 => ?_) (.inr hln)
    refine wpAny_mono ((hsu a ob4 cls d (X.pn ++ pins) zc4 ⟨_, da4⟩).run [] s5 _ H' _ S5 (hgo a na J.len)) (fun f s6 hsp => ?_) (fun _ _ z => z.elim)
    have fin : ∀ {τ : L2.St} {G : Hp} {Q : Shared → Prop}, Inv (X.suite a ((a, ob4) :: (X.pn ++ pins))) [] τ G s6 → (∀ s7, Inv X pins (τ.set i none) G s7 → Q s7) →
        wpAny (model X.prog X.w) X.A (do bindName X.env n .none; unbindBehindTheSuite X.env n pos') (fun _ s7 => Q s7) X.xe s6 := fun S6 hq =>
      gone_ok (S6.unsuite ok) hN hi hln hq
    cases f with
    | ret u =>
      obtain ⟨v6, τ, G, S6, r6, q6⟩ := hsp
      exact fin S6 fun s7 J7 => ⟨_, _, _, J7, r6, q6⟩
    | next =>
      obtain ⟨τ, G, S6, q6⟩ := hsp
      exact fin S6 fun s7 J7 => ⟨_, _, J7, q6⟩
    | brk =>
      obtain ⟨τ, G, S6, q6⟩ := hsp
      exact fin S6 fun s7 J7 => ⟨_, _, J7, q6⟩
    | cont =>
      obtain ⟨τ, G, S6, q6⟩ := hsp
      exact fin S6 fun s7 J7 => ⟨_, _, J7, q6⟩
  · cases f with
    | ret u =>
      obtain ⟨v, τ, G, K1, r, q⟩ := hsp
      exact ⟨v, τ, G, K1.ofTry ok, r, q⟩
    | next =>
      obtain ⟨τ, G, K1, q⟩ := hsp
      exact wpAny_execs_nil ⟨τ, G, K1.ofTry ok, q⟩
    | brk =>
      obtain ⟨τ, G, K1, q⟩ := hsp
      exact ⟨τ, G, K1.ofTry ok, q⟩
    | cont =>
      obtain ⟨τ, G, K1, q⟩ := hsp
      exact ⟨τ, G, K1.ofTry ok, q⟩
end
/-! a def called in an except suite, with the error in hand -/
structure FnP (P : Program) (w : World) (K : PySem.W.Frag) (mg : Str → Option Value) (base : Heap) (k : Nat) (f : Addr) (fd : FuncData) (ps : List Str) (sp : Addr → Value → Option Addr → Sp) : Prop where
  len : ∀ a cls d vs H Q E, sp a cls d vs H Q E → vs.length = ps.length
  run : ∀ (A : Around) (outer : List Env) (s : Shared) (H : Hp) (args : Args) (us : List Value) (vs : List V) (Q : VK) (p : Addr × Obj) (cls : Value) (d : Option Addr), L2H.RoomH k A → L2H.PinOk outer H s p → Zc cls d p.2 →
    (∃ fv, p.2.data = .fields fv) → Env0 P w K mg base A outer s H → BindsTo s fd args (ps.zip us) → Vals vs us → sp p.1 cls d vs H Q E0 → codeAny (model P w) A (.call (.ref f) args) (CR CX0 outer P w H s Q E0) s
section
variable {P : Program} {w : World} {K : PySem.W.Frag} {mg : Str → Option Value} {base : Heap} {k : Nat} {f : Addr} {fd : FuncData} {N ps : List Str} {sp : Addr → Value → Option Addr → Sp} {x qual : Str} {st : Stmt}
theorem okP (F : Fun K x qual st f fd) (S : FnScope N ps (defScope st)) (len : ∀ a cls d vs H Q E, sp a cls d vs H Q E → vs.length = ps.length)
    (hbody : ∀ (cdv : Value) (A : Around) (outer : List Env) (s : Shared) (H : Hp) (vs : List V) (Q : VK) (p : Addr × Obj) (cls : Value) (d : Option Addr), Zc cls d p.2 → (∃ fv, p.2.data = .fields fv) →
      L2H.RoomH k (A.deeper (envOfC qual (defScope st) s.heap.objs.size f cdv)) → sp p.1 cls d vs H Q E0 →
      ∃ t, PSs (L2H.cxH CX0 P w K mg base N qual (defScope st) f cdv A outer s H E0 p) (defBody st) t ∧ t { nx := fun _ H' => Q .non H', rt := Q } (start N vs) H) : FnP P w K mg base (k + 1) f fd ps sp := by
  obtain ⟨oc, od, kV, doc, pm, an, cdv, ct, osl, rfl, lk, hcd⟩ := F.ex
  refine ⟨len, fun A outer s H args us vs Q p cls d hr hpin hz hf e0 hb r hsp => ?_⟩
  have hl := len _ _ _ _ _ _ _ hsp
  have KX : K.In s.heap := e0.mod.kin.keeps fun b o e => (e0.bs b o e).1
  have lim := e0.mod.nolimit.keeps (h' := s.heap) fun b o e => (e0.bs b o e).1
  refine codeAny_call_function hr.depth (KX _ _ lk) rfl S.co S.gen rfl (PySem.W.codeRec_of KX hcd) (hb _ _ _ _ ?_)
  refine wpAny_newFunctionEnv_cells S.kind (fun ⟨n, v⟩ hy => ?_) fun env he s1 x => ?_
  · rcases S.par n (List.of_mem_zip hy).1 with q | q
    · exact .inl q
    · exact .inr ⟨q, PySem.W.cellsFrom_some _ _ _ (.inl q)⟩
  subst he
  refine ⟨lim.keeps x.toInCall.keep, codeAny_func ?_⟩
  obtain ⟨t, ht, hq⟩ := hbody cdv A outer s H vs Q p cls d hz hf (hr.deeper _) hsp
  have I := L2H.inv_startH (CX := CX0) (E := E0) S hpin e0 hl r x
  refine wpAny_mono (ht.run [] s1 (start N vs) H _ I hq) (fun fl s' hs => ?_) fun e s' hs => hs
  cases fl with
  | ret u =>
    obtain ⟨v, τ, G, J, rv, q⟩ := hs
    exact ⟨v, G, J.os, J.bare, J.base, J.hok, rv, q⟩
  | next =>
    obtain ⟨τ, G, J, q⟩ := hs
    exact ⟨.non, G, J.os, J.bare, J.base, J.hok, rfl, q⟩
  | brk =>
    obtain ⟨_, _, _, q⟩ := hs
    exact q.elim
  | cont =>
    obtain ⟨_, _, _, q⟩ := hs
    exact q.elim
end
/-- f(e), e the error in hand: of the class cls, its dict d -/
def tCallP (sp : Addr → Value → Option Addr → Sp) (a : Addr) (cls : Value) (d : Option Addr) (t : TA) : TE := fun σ H Q => t σ H fun vs G => sp a cls d vs G Q E0
/-- e.f, e the error in hand -/
def tXp (K : PySem.W.Frag) (a : Addr) (cls : Value) (d : Option Addr) (f : Str) (te : TE) : TE := fun σ H Q => te σ H fun x G => ∃ (C dd : Addr) (fs : List (Str × V)) (v : V), x = .ref a ∧ cls = .ref C ∧ d = some dd ∧ XC K C ∧ PySem.W.findIn K (.ref C) f = some none ∧
  G dd = some (.xd fs) ∧ fs.lookup f = some v ∧ Q v G
section
variable {X : Cx} {e : Expr} {es : List Expr} {te : TE} {t : TA} {f x : Str} {p : Addr × Obj} {cls : Value} {d : Option Addr} {pos q : Pos} {k : Nat} {g : Addr} {fd : FuncData} {ps : List Str} {sp : Addr → Value → Option Addr → Sp}
theorem pe_xp (hp : p ∈ X.pn) (hz : Zc cls d p.2) (hf : ∃ fv, p.2.data = .fields fv) (he : PE X e te) (hb : attributeBase e f X.env (eval e X.env) = eval e X.env := by rfl) : PE X (.Attribute e f pos) (tXp X.K p.1 cls d f te) := by
  refine ⟨fun pins s σ H Q I h => ?_⟩
  refine attr_of hb (thn (he.run pins s σ H _ I h) fun u s1 hh => ?_)
  obtain ⟨x, G, I1, rx, C, dd, fs, v, ex, ec, ed, T, hno, ea, l, q⟩ := hh
  subst ex ec ed
  obtain rfl : u = Value.ref p.1 := rx
  obtain ⟨ha, _⟩ := I1.pin p (List.mem_append_left _ hp)
  obtain ⟨fv, hd⟩ := hf
  obtain ⟨mA, hns, hr⟩ := (show ObjOk X.prog X.w G s1.heap dd (.xd fs) from I1.hok dd _ ea)
  obtain ⟨od, ho, hl⟩ := lookIn_ns hns
  obtain ⟨u, hu, ru⟩ := RelO.some_of (v := v) (o := mA f) (by rw [← l]; exact hr f)
  have J : PySem.W.InstAt s1.heap p.1 p.2 C (some od) := ⟨ha, hz.1, by unfold PySem.W.notCls; rw [hd], by rw [hz.2]; exact ho⟩
  obtain ⟨cd, hcd, _, hdd⟩ := T.clsIn
  refine HandSPX.exc_get I1.kIn J T.ga T.gg T.exC (PySem.W.findObj_own (attr := none) ?_ hno rfl (by rw [hl, hu])) (handed_of ru) ⟨v, G, I1.tok _, ru, q⟩
  show (PySem.W.clsIn X.K C).any (·.hasDict) = true
  rw [hcd]
  exact hdd
theorem pe_callP (F : FnP X.prog X.w X.K X.mg X.base k g fd ps sp) (hr : L2H.RoomH k X.A) (hp : p ∈ X.pn) (hz : Zc cls d p.2) (hf : ∃ fv, p.2.data = .fields fv) (hg : Gl X x) (hm : X.mg x = some (.ref g))
    (hk : PySem.W.keepIn X.K (.ref g) = true) (hb : Binds X.K fd ps []) (ha : PA X (e :: es) t) (hdb : (x == ("__debug__" : Str)) = false := by decide)
    (he : starEach (e :: es) X.env = (false, eval e X.env) :: starEach es X.env := by rfl) (hpl : (backTo pos (starEach es X.env)).any (·.1) = false := by rfl) :
    PE X (.Call (.Name x q) (e :: es) [] pos) (tCallP sp p.1 cls d t) := by
  refine ⟨fun pins s σ H Q I h => ?_⟩
  refine wpAny_Call_Name_kw (ld_glob I hg hm ?_ hdb)
  refine PySem.W.callWith_K (h₀ := X.base) I.ok.mod.kin hk (thn (ha.run pos pins s σ H _ I h) fun us s1 ⟨vs, H1, I1, r, q1⟩ => ⟨I1.kIn, ?_⟩) he hpl
  have hl : us.length = ps.length := by
    rw [← r.length]
    exact F.len _ _ _ _ _ _ _ q1
  have b := hb s1 us I1.kIn (by rw [List.append_nil]; exact hl)
  rw [List.append_nil] at b
  have P1 := I1.pin p (List.mem_append_left _ hp)
  refine wpAny_call (codeAny_mono (F.run X.A X.stack s1 H1 ⟨us, []⟩ us vs Q p cls d hr ⟨P1.1, P1.2.1, fun hm => ?_, P1.2.2.2.2⟩ hz hf I1.env0 b r q1) fun r s' hq => ?_)
  · exact (List.mem_cons.mp (I1.stkSub p.1 hm)).elim P1.2.2.1 P1.2.2.2.1
  cases r with
  | error e => exact (show False from hq).elim
  | ok fl =>
    cases fl with
    | ret u => exact I1.after hq
    | next => exact hq.elim
    | brk => exact hq.elim
    | cont => exact hq.elim
end
end Bl
/-! an own error made to be raised, over any of the three bases -/
namespace Bl
open PySem L2 PySem.Spec PyProof.Rows
theorem XC.ty {K : PySem.W.Frag} {C : Addr} (T : XC K C) : PySem.W.typeIn K (.ref C) = some (.type "type") := by
  obtain ⟨_, _, _, _, _, _, _, _, _, _, _, _, _, _, _, _, _, _, _, _, _, _, hC⟩ := T.cls
  show (K.lookup C).map (·.cls) = _
  rw [hC]
  rfl
/-- C(e, ..), to be raised -/
def tMkX (C : Addr) (sp : Sp) (ta : TA) : L2.St → Hp → XK → Prop := fun σ H Q => ta σ H fun vs G => vs.length ≤ 1000 ∧ ∀ a, G a = none → sp (.ref a :: vs) (upd G a (exo a C none))
  (fun v G2 => v = .non ∧ ∃ (d : Addr) (fs : List (Str × V)), G2 a = some (exo a C (some d)) ∧ G2 d = some (exd d fs) ∧ G d = none ∧ Q (.ref C) (some d) (upd (del G2 a) d (.xd fs))) (fun _ _ _ => False)
section
variable {X : Cx} {CX : CXT} {e : Expr} {es : List Expr} {ta : TA} {x : Str} {C fI : Addr} {k : Nat} {fd : FuncData} {ps : List Str} {sp : Sp} {p pos : Pos}
theorem run_mkx {pins : List (Addr × Obj)} {σ : L2.St} {H : Hp} {s : Shared} {Q : XK} {us : List Value} {vs : List V} (T : XC X.K C) (iC : PySem.W.findIn X.K (.ref C) "__init__" = some (some (.ref fI))) (tI : PySem.W.typeIn X.K (.ref fI) = some (.type "function"))
    (F1 : FnOk X.prog X.w X.K X.mg X.base CX k fI fd ps sp) (hr : Room (k + 1) X.A) (hb : Binds X.K fd ps []) (hx : Passes CX X (fun _ _ _ => False)) (I : Inv X pins σ H s) (r : Vals vs us) (hz : vs.length ≤ 1000)
    (h : ∀ a, H a = none → sp (.ref a :: vs) (upd H a (exo a C none)) (fun v G2 => v = .non ∧ ∃ (d : Addr) (fs : List (Str × V)), G2 a = some (exo a C (some d)) ∧ G2 d = some (exd d fs) ∧ H d = none ∧ Q (.ref C) (some d) (upd (del G2 a) d (.xd fs))) (fun _ _ _ => False)) :
    wpAny (model X.prog X.w) X.A (call (.ref C) us) (MkP X pins σ Q) X.xe s := by
  obtain ⟨B, newId, initId, bmB, nm, q, N, bs, bm, sn, sub, ab, col, dd, k0, k1, k2, k3, k5, F, hT, hm, hC⟩ := id T.cls
  obtain ⟨hp, g, dr, tk, os⟩ := s
  have hsz : hp.objs.size ≤ hp.objs.size + 1 := Nat.le_succ _
  have hq := h (hp.objs.size + 1) (I.hok.fresh hsz)
  have kk : ∀ b o, hp.get? b = some o → ((hp.push (PySem.W.kdv_tup us)).push (PySem.HandSPX.excO C hp.objs.size)).get? b = some o := fun b o e =>
    Heap.get?_push_of_some _ (Heap.get?_push_of_some _ e)
  have hget : ((hp.push (PySem.W.kdv_tup us)).push (PySem.HandSPX.excO C hp.objs.size)).get? (hp.objs.size + 1) = some (PySem.HandSPX.excO C hp.objs.size) := by
    heap_get
  have I2 : Inv X pins σ (upd H (hp.objs.size + 1) (exo (hp.objs.size + 1) C none)) ⟨(hp.push (PySem.W.kdv_tup us)).push (PySem.HandSPX.excO C hp.objs.size), g, dr, tk, os⟩ := by
    refine I.laid (t' := tk) ?_ ?_ ?_
    · exact kk
    · exact hsz
    · exact exo_ok hget
  have hl : (Value.ref (hp.objs.size + 1) :: us ++ []).length = ps.length := by
    rw [List.append_nil, List.length_cons, ← r.length]
    exact F1.len _ _ _ _ hq
  have hus : us.length ≤ sizeLine := by
    rw [← Paired.length r]
    exact small (by omega)
  refine wpAny_call (PySem.HandSPX.call_own F hT (I.kIn _ _ hC) (PySem.W.looks_findIn I.kIn iC) (fun self => PySem.W.bind_fn I.kIn self tI) hus ?_)
  refine codeAny_mono (F1.run _ X.stack _ _ ⟨Value.ref (hp.objs.size + 1) :: us, []⟩ (Value.ref (hp.objs.size + 1) :: us) (V.ref (hp.objs.size + 1) :: vs) _ (fun _ _ _ => False) (hr.make C us []) (I2.env0.make C us []) ?_ (.cons rfl r) hq) fun r s' hq' => ?_
  · have := hb _ (Value.ref (hp.objs.size + 1) :: us) I2.kIn hl
    rw [List.append_nil] at this
    exact this
  cases r with
  | error er => exact hx pins σ _ _ er s' I2 hq'
  | ok fl =>
    cases fl with
    | ret u =>
      obtain ⟨v, G2, os2, bare2, un2, hok2, rv, ev, d, fs, ea, ed, hd1, q2⟩ := hq'
      subst ev
      obtain ⟨h2, g2, d2, t2, os'⟩ := s'
      exact ⟨rv, mk_end (raises_own T.exC T.ty) I hsz kk un2 hok2 os2 bare2 ea ed hd1 q2⟩
    | next => exact hq'.elim
    | brk => exact hq'.elim
    | cont => exact hq'.elim
theorem pmk_xc (T : XC X.K C) (iC : PySem.W.findIn X.K (.ref C) "__init__" = some (some (.ref fI))) (tI : PySem.W.typeIn X.K (.ref fI) = some (.type "function"))
    (F1 : FnOk X.prog X.w X.K X.mg X.base CX k fI fd ps sp) (hr : Room (k + 1) X.A) (hb : Binds X.K fd ps []) (hx : Passes CX X (fun _ _ _ => False)) (hg : Gl X x) (hm : X.mg x = some (.ref C)) (ha : PA X (e :: es) ta)
    (hdb : (x == ("__debug__" : Str)) = false := by decide) (he : starEach (e :: es) X.env = (false, eval e X.env) :: starEach es X.env := by rfl) (hpl : (backTo pos (starEach es X.env)).any (·.1) = false := by rfl) :
    PMk X (.Call (.Name x p) (e :: es) [] pos) (tMkX C sp ta) := by
  intro pins s σ H Q I h
  refine wpAny_Call_Name_kw (ld_glob I hg hm ?_ hdb)
  refine PySem.W.callWith_K (h₀ := X.base) I.ok.mod.kin T.kC (thn (ha.run pos pins s σ H _ I h) fun us s1 ⟨vs, H1, I1, r1, hz, q1⟩ => ⟨I1.kIn, ?_⟩) he hpl
  exact run_mkx T iC tI F1 hr hb hx I1 r1 hz q1
theorem pmk_xc0 (T : XC X.K C) (iC : PySem.W.findIn X.K (.ref C) "__init__" = some (some (.ref fI))) (tI : PySem.W.typeIn X.K (.ref fI) = some (.type "function"))
    (F1 : FnOk X.prog X.w X.K X.mg X.base CX k fI fd ps sp) (hr : Room (k + 1) X.A) (hb : Binds X.K fd ps []) (hx : Passes CX X (fun _ _ _ => False)) (hg : Gl X x) (hm : X.mg x = some (.ref C))
    (hdb : (x == ("__debug__" : Str)) = false := by decide) : PMk X (.Call (.Name x p) [] [] pos) (tMkX C sp tNil) := by
  intro pins s σ H Q I h
  refine wpAny_Call_Name_kw (ld_glob I hg hm ?_ hdb)
  exact PySem.W.callWith_K0 I.kIn T.kC (run_mkx (us := []) (vs := []) T iC tI F1 hr hb hx I .nil h.1 h.2)
end
end Bl
/-! a def whose own code object is known -/
namespace Bl
open PySem L2 PySem.Spec PyProof.Rows
section
variable {P : Program} {w : World} {K : PySem.W.Frag} {mg : Str → Option Value} {base : Heap} {k : Nat} {f : Addr} {fd : FuncData} {N ps : List Str} {sp : Sp} {x qual : Str} {st : Stmt}
theorem okC (F : Fun K x qual st f fd) (S : FnScope N ps (defScope st)) (len : ∀ vs H Q E, sp vs H Q E → vs.length = ps.length)
    (hbody : ∀ (cdv : Value) (A : Around) (outer : List Env) (s : Shared) (H : Hp) (vs : List V) (Q : VK) (E : XK), fd.code = cdv → Room k (A.deeper (envOfC qual (defScope st) s.heap.objs.size f cdv)) → sp vs H Q E →
      ∃ t, PSs (cxOf CX0 P w K mg base N qual (defScope st) f cdv A outer s H E).nox (defBody st) t ∧
        t { nx := fun _ G => Q .non G, rt := Q } (start N vs) H) : FnOk P w K mg base CX0 (k + 1) f fd ps sp := by
  obtain ⟨oc, od, kV, doc, pm, an, cdv, ct, osl, rfl, lk, hcd⟩ := F.ex
  refine fn_of lk hcd S len fun A outer s H vs Q E hr hsp => ?_
  obtain ⟨t, h, q⟩ := hbody cdv A outer s H vs Q E rfl hr hsp
  exact ⟨t, h.nox, q⟩
end
end Bl
namespace Bl
open PySem L2 PySem.Spec PyProof.Rows
/-- what a lambda's body may let out -/
theorem passes_lam {X : Cx} {A : Around} {outer : List Env} {s : Shared} {H : Hp} {E : XK} {scope : Scope} {f c' : Addr} : Passes (L2.CX X.prog X.w) (LamX.lamCx X A outer s H E scope f c') E :=
  passes_call (takes_of rfl rfl rfl rfl) fun _ _ _ _ h => h
/-- what a raising def's body may let out -/
theorem takes_ok {P : Program} {w : World} {K : PySem.W.Frag} {mg : Str → Option Value} {base : Heap} {N : List Str} {qual : Str} {scope : Scope} {f : Addr} {cd : Value} {A : Around} {outer : List Env} {s : Shared} {H : Hp} {E : XK} :
    Takes (cxOf (L2.CX P w) P w K mg base N qual scope f cd A outer s H E) (fun cls d _ G => E cls d G) := takes_of rfl rfl rfl rfl
theorem passes_ok {P : Program} {w : World} {K : PySem.W.Frag} {mg : Str → Option Value} {base : Heap} {N : List Str} {qual : Str} {scope : Scope} {f : Addr} {cd : Value} {A : Around} {outer : List Env} {s : Shared} {H : Hp} {E : XK} :
    Passes (L2.CX P w) (cxOf (L2.CX P w) P w K mg base N qual scope f cd A outer s H E) E := passes_call takes_ok fun _ _ _ _ h => h
end Bl

/-! an own error that is raised: what is known of its class, what the def's caller gets -/
namespace Bl
open PySem L2
def xqB (K : PySem.W.Frag) (C L M N : Addr) (fs : List Str) : Bool :=
  decide (PySem.W.findIn K (.ref C) "code" = some none) && (fs.all (fun f => decide (PySem.W.findIn K (.ref C) f = some none)) && decide (PySem.W.exmAny K (.ref C) [.ref L, .ref M, .ref N] = some true))
theorem xq_nof {K : PySem.W.Frag} {C L M N : Addr} {c : Str} {fs : List Str} (h : xqB K C L M N fs = true) : NoF K C (c, fs) := by
  obtain ⟨h1, h2⟩ := Bool.and_eq_true_iff.mp h
  obtain ⟨h2, _⟩ := Bool.and_eq_true_iff.mp h2
  exact ⟨of_decide_eq_true h1, fun f hf => of_decide_eq_true (List.all_eq_true.mp h2 f hf)⟩
theorem xq_any {K : PySem.W.Frag} {C L M N : Addr} {fs : List Str} (h : xqB K C L M N fs = true) : PySem.W.exmAny K (.ref C) [.ref L, .ref M, .ref N] = some true := by
  obtain ⟨_, h2⟩ := Bool.and_eq_true_iff.mp h
  obtain ⟨_, h3⟩ := Bool.and_eq_true_iff.mp h2
  exact of_decide_eq_true h3
/-- an error of the row r, made of ys, of one of the three bases, in flight -/
structure Rsd (K : PySem.W.Frag) (L M N : Addr) (H : Hp) (cls : Value) (d : Option Addr) (r : Str × List Str) (ys : List V) : Prop where
  hand : InHand K H cls d r ys
  any : PySem.W.exmAny K cls [.ref L, .ref M, .ref N] = some true
theorem del_ne {H : Hp} {a b : Addr} (h : b ≠ a) : del H a b = H b := if_neg h
theorem del_new {G : Hp} {a : Addr} {o : HO} (ha : G a = none) : ∀ b, b ≠ a → del (upd G a o) a b = G b := fun b hb => by
  rw [del_ne hb, upd_ne hb]
/-- what is left to be shown where an own error is raised -/
theorem raise_end {K : PySem.W.Frag} {C L M N a dx : Addr} {c : Str} {fs : List Str} {G G2 : Hp} {ys : List V} {E : XK} (T : XC K C) (q : xqB K C L M N fs = true) (hr : (c, fs) ∈ rows) (hl : ys.length = fs.length) (ha : G a = none)
    (D : InitD (upd G a (exo a C none)) G2 a C dx (mkF (c, fs) ys)) (k : ∀ cls d H', Rsd K L M N H' cls d (c, fs) ys → Same G H' → E cls d H') :
    ∃ (d : Addr) (fs : List (Str × V)), G2 a = some (exo a C (some d)) ∧ G2 d = some (exd d fs) ∧ G d = none ∧ E (.ref C) (some d) (upd (del G2 a) d (.xd fs)) := by
  have hd : G dx = none := by
    have := D.fr
    rwa [upd_ne D.ne] at this
  refine ⟨dx, _, D.oa, D.od, hd, k _ _ _ ⟨⟨C, dx, rfl, rfl, T, xq_nof q, hr, hl, upd_same⟩, xq_any q⟩ fun b o hb => ?_⟩
  have b1 : b ≠ a := ne_of_none hb ha
  have b2 : b ≠ dx := ne_of_none hb hd
  rw [upd_ne b2, del_ne b1, D.el b b1 b2, upd_ne b1]
  exact hb
theorem raise_full {K : PySem.W.Frag} {C L M N : Addr} {c : Str} {fs : List Str} {G : Hp} {ys : List V} {E : XK} (T : XC K C) (q : xqB K C L M N fs = true) (hr : (c, fs) ∈ rows) (hl : ys.length = fs.length) (k : ∀ cls d H', Rsd K L M N H' cls d (c, fs) ys → Same G H' → E cls d H') :
    ys.length ≤ 1000 ∧ ∀ a, G a = none → spI K C (c, fs) (.ref a :: ys) (upd G a (exo a C none))
      (fun v G2 => v = .non ∧ ∃ (d : Addr) (fs : List (Str × V)), G2 a = some (exo a C (some d)) ∧ G2 d = some (exd d fs) ∧ G d = none ∧ E (.ref C) (some d) (upd (del G2 a) d (.xd fs))) (fun _ _ _ => False) := by
  refine ⟨?_, fun a ha => ⟨a, ys, rfl, hl, upd_same, fun dx H' D => ⟨rfl, raise_end T q hr hl ha D k⟩⟩⟩
  rw [hl]
  have h2 : rows.all (fun r => decide (r.2.length ≤ 1000)) = true := by decide +kernel
  exact of_decide_eq_true (List.all_eq_true.mp h2 _ hr)
end Bl

/-! laws that make lambdas: the heap without the box and without tables -/
namespace Bl
open PySem L2
def noT (H : Hp) : Hp := fun b => match H b with
  | some (.tbl _) => none
  | o => o
theorem noT_le {H : Hp} : Same (noT H) H := fun b o h => by
  unfold noT at h
  split at h
  · cases h
  · exact h
theorem noT_of {H : Hp} {b : Addr} {o : HO} (h : H b = some o) (n : ∀ ps, o ≠ .tbl ps) : noT H b = some o := by
  unfold noT
  split
  · rename_i ps e
    rw [h] at e
    exact absurd (Option.some.inj e) (n ps)
  · exact h
theorem noT_no {H : Hp} {b : Addr} {o : HO} (h : noT H b = some o) : ∀ ps, o ≠ .tbl ps := fun ps e => by
  subst e
  unfold noT at h
  split at h
  · cases h
  · rename_i hn
    exact hn ps h
/-- all but the box at p and the tables -/
def hn (p : Addr) (H : Hp) : Hp := hide p (noT H)
theorem hn_le {p : Addr} {H : Hp} : Same (hn p H) H := hide_le.trans noT_le
theorem hn_hide {p : Addr} {H : Hp} : Same (hn p H) (hide p H) := hide_mono noT_le
abbrev Kp (p : Addr) (H H' : Hp) : Prop := Same (hn p H) (hn p H')
theorem Kp.but {p : Addr} {H H' : Hp} (e : But p H H') : Kp p H H' := fun b o h => by
  unfold hn at h ⊢
  by_cases f : b = p
  · subst f
    rw [hide_at] at h
    cases h
  · rw [hide_ne f] at h ⊢
    have h1 := e b o (by rw [hide_ne f]; exact noT_le _ _ h)
    rw [hide_ne f] at h1
    exact noT_of h1 (noT_no h)
theorem Kp.of {p : Addr} {H H' : Hp} (e : Same H H') : Kp p H H' := Kp.but (But.of e)
theorem Kp.new {p q : Addr} {H : Hp} (h : H q = none) (o : HO) : Kp p H (upd H q o) := Kp.of (same_new h o)
theorem Kp.ext {p : Addr} {H H' : Hp} (e : LamX.ExtN H H') : Kp p H H' := fun b o h => by
  unfold hn at h ⊢
  by_cases f : b = p
  · subst f
    rw [hide_at] at h
    cases h
  · rw [hide_ne f] at h ⊢
    exact noT_of (e b o (noT_le _ _ h) (noT_no h)) (noT_no h)
theorem BoxAt.ext {H H' : Hp} {p l : Addr} (b : BoxAt H p l) (e : LamX.ExtN H H') : BoxAt H' p l := by
  obtain ⟨ns, i, w, m, c, hp, hl, r⟩ := b
  have h1 : l ≠ p := by
    rintro rfl
    rw [hide_at] at hl
    cases hl
  rw [hide_ne h1] at hl
  exact ⟨ns, i, w, m, c, e _ _ hp (fun _ h => nomatch h), by rw [hide_ne h1]; exact e _ _ hl (fun _ h => nomatch h), r⟩
theorem tabs_of {Tb : List (Addr × Str)} {H H' : Hp} (t : LamX.Tabs Tb H) (e : Same H H') : LamX.Tabs Tb H' := t.ext e
theorem tabs_but {Tb : List (Addr × Str)} {p l : Addr} {H H' : Hp} (t : LamX.Tabs Tb H) (b : BoxAt H p l) (e : But p H H') : LamX.Tabs Tb H' := by
  obtain ⟨ns, i, w, m, c, hp, _⟩ := b
  have key : ∀ a o, H a = some o → (∀ xs, o ≠ .lst xs) → H' a = some o := fun a o h n => by
    have f : a ≠ p := by
      rintro rfl
      rw [hp] at h
      exact n _ (Option.some.inj h).symm
    have := e a o (by rw [hide_ne f]; exact h)
    rwa [hide_ne f] at this
  intro q hq
  obtain ⟨ps, h1, h2, h3⟩ := t q hq
  refine ⟨ps, key _ _ h1 (fun _ h => nomatch h), h2, fun pos cv hc => ?_⟩
  obtain ⟨c', e1, e2⟩ := h3 pos cv hc
  exact ⟨c', e1, key _ _ e2 (fun _ h => nomatch h)⟩
theorem hn_new {p q : Addr} {H : Hp} {o : HO} (h : q ≠ p) (n : ∀ ps, o ≠ .tbl ps) : hn p (upd H q o) q = some o := by
  unfold hn
  rw [hide_ne h]
  exact noT_of upd_same n
theorem hn_free {p q : Addr} {H : Hp} (h : H q = none) : hn p H q = none := by
  unfold hn
  refine hide_free ?_
  unfold noT
  rw [h]
theorem hn_of {p q : Addr} {H : Hp} {o : HO} (e : hide p H q = some o) (n : ∀ ps, o ≠ .tbl ps) : hn p H q = some o := by
  unfold hn
  by_cases f : q = p
  · subst f
    rw [hide_at] at e
    cases e
  · rw [hide_ne f] at e ⊢
    exact noT_of e n
theorem sql_hn {K : PySem.W.Frag} {p a : Addr} {H : Hp} {xs : List V} (h : SqL K (hide p H) a xs) : SqL K (hn p H) a xs := by
  rcases h with (h | ⟨o, h⟩) | h
  · exact .inl (.inl (hn_of h (fun _ h => nomatch h)))
  · exact .inl (.inr ⟨o, hn_of h (fun _ h => nomatch h)⟩)
  · exact .inr h
theorem sqt_hn {K : PySem.W.Frag} {p a : Addr} {H : Hp} {xs : List V} (h : SqT K (hide p H) a xs) : SqT K (hn p H) a xs := by
  rcases h with (h | ⟨o, h⟩) | h
  · exact .inl (.inl (hn_of h (fun _ h => nomatch h)))
  · exact .inl (.inr ⟨o, hn_of h (fun _ h => nomatch h)⟩)
  · exact .inr h
mutual
theorem Dp.hn {K : PySem.W.Frag} {p : Addr} {H : Hp} : ∀ (d : PyData) (v : V), Dp K (hide p H) v d → Dp K (hn p H) v d
  | .none, _, h => by cases h; exact .non
  | .bool _, _, h => by cases h; exact .bl _
  | .int _, _, h => by cases h; exact .int _
  | .str _, _, h => by cases h; exact .str _
  | .list ds, _, h => by
    cases h with
    | lst hs ha => exact .lst (sql_hn hs) (DpAll.hn ds _ ha)
  | .tuple ds, _, h => by
    cases h with
    | tup hs ha => exact .tup (sqt_hn hs) (DpAll.hn ds _ ha)
  | .dict _, _, h => by cases h
theorem DpAll.hn {K : PySem.W.Frag} {p : Addr} {H : Hp} : ∀ (ds : List PyData) (vs : List V), DpAll K (hide p H) vs ds → DpAll K (hn p H) vs ds
  | [], _, h => by cases h; exact .nil
  | d :: ds, _, h => by
    cases h with
    | cons h1 h2 => exact .cons (Dp.hn d _ h1) (DpAll.hn ds _ h2)
end
def lamQ : Str := "law.<locals>.<lambda>"
theorem lam_mem {P : Addr} {q r : Str} (h : q = r) : (P, q) ∈ [(P, r)] := by
  rw [h]
  exact List.mem_singleton.mpr rfl
theorem lam_only {P : Addr} {q r : Str} (h : r = q) : ∀ p ∈ [(P, r)], p.1 = P → p.2 = q := fun p hp _ => by
  rw [List.mem_singleton.mp hp]
  exact h
theorem passes_lamE {X : Cx} {P : Program} {w : World} {A : Around} {outer : List Env} {s : Shared} {H : Hp} {E : XK} {scope : Scope} {f c' : Addr} (h1 : X.prog = P) (h2 : X.w = w) : Passes (L2.CX P w) (LamX.lamCx X A outer s H E scope f c') E := by
  subst h1
  subst h2
  exact passes_lam
theorem noT_ext {H H' : Hp} (e : LamX.ExtN H H') : Same (noT H) (noT H') := fun _ _ h => noT_of (e _ _ (noT_le _ _ h) (noT_no h)) (noT_no h)
theorem hn_noT {p : Addr} {H : Hp} : Same (hn p H) (noT H) := hide_le
theorem seq_hn {K : PySem.W.Frag} {p q : Addr} {H : Hp} {xs : List V} (e : hn p H q = some (.lst xs)) : SqL K H q xs := SqL.of (hn_le _ _ e)
theorem tup_hn {K : PySem.W.Frag} {p q : Addr} {H : Hp} {xs : List V} (e : hn p H q = some (.tup xs)) : SqT K H q xs := SqT.of (hn_le _ _ e)
theorem dp_hn {K : PySem.W.Frag} {p : Addr} {H : Hp} {v : V} {d : PyData} (e : Dp K (hn p H) v d) : Dp K H v d := Dp.mono hn_le _ _ e
theorem hn_but {p q : Addr} {G H : Hp} {o : HO} (b : But p G H) (e : hn p G q = some o) : hn p H q = some o := Kp.but b _ _ e
theorem hn_tr {p q : Addr} {G H : Hp} {o : HO} (b : Same G H) (e : hn p G q = some o) : hn p H q = some o := Kp.of b _ _ e
theorem hn_nw {p q r : Addr} {G : Hp} {o o2 : HO} (b : G r = none) (e : hn p G q = some o) : hn p (upd G r o2) q = some o := Kp.new b o2 _ _ e
theorem dhn_but {K : PySem.W.Frag} {p : Addr} {G H : Hp} {v : V} {d : PyData} (b : But p G H) (e : Dp K (hn p G) v d) : Dp K (hn p H) v d := Dp.mono (Kp.but b) _ _ e
theorem dhn_tr {K : PySem.W.Frag} {p : Addr} {G H : Hp} {v : V} {d : PyData} (b : Same G H) (e : Dp K (hn p G) v d) : Dp K (hn p H) v d := Dp.mono (Kp.of b) _ _ e
theorem dhn_nw {K : PySem.W.Frag} {p r : Addr} {G : Hp} {o : HO} {v : V} {d : PyData} (b : G r = none) (e : Dp K (hn p G) v d) : Dp K (hn p (upd G r o)) v d := Dp.mono (Kp.new b o) _ _ e
theorem box_nw {p l r : Addr} {G : Hp} {o : HO} (b : G r = none) (e : BoxAt G p l) : BoxAt (upd G r o) p l := e.new b o
theorem box_tr {p l : Addr} {G H : Hp} (b : Same G H) (e : BoxAt G p l) : BoxAt H p l := e.mono b
theorem tabs_nw {Tb : List (Addr × Str)} {r : Addr} {G : Hp} {o : HO} (b : G r = none) (e : LamX.Tabs Tb G) : LamX.Tabs Tb (upd G r o) := tabs_of e (same_new b o)
theorem hn_get {p q : Addr} {H : Hp} {o : HO} (e : hn p H q = some o) : H q = some o := hn_le _ _ e
theorem gLam {Tb : List (Addr × Str)} {TT : (XK → Hp → VK → Prop) → Hp → VK → Prop} {t : XK → TE} {σ : L2.St} {H : Hp} {Q : VK} (h : LamX.tLam Tb TT t σ H Q) : LamX.tLam Tb TT t σ H Q := h
@[irreducible] def tCutI (t u : TS) : TS := C8.tCut t u
theorem pss_cutI {X : Cx} {st : Stmt} {rest : List Stmt} {t u : TS} (h1 : PS X st t) (h2 : PSs X rest u) : PSs X (st :: rest) (tCutI t u) := by
  unfold tCutI
  exact C8.pss_cut h1 h2
theorem cut_mk {t u : TS} {D : Ends} {σ : L2.St} {H : Hp} (Mid : L2.St → Hp → Prop) (h1 : t { D with nx := Mid } σ H) (h2 : ∀ σ' H', Mid σ' H' → u D σ' H') : tCutI t u D σ H := by
  unfold tCutI
  exact ⟨Mid, h1, h2⟩
end Bl

/-! a written list that begins with 'text' + e and holds e.replace(..) -/
namespace Bl
open PySem PySem.Spec PyProof.Rows L2
section
variable {X : Cx} {b : Expr} {tb : TE} {es : List Expr} {ta : TA} {op : Operator} {r : R2} {c : Str} {j : Nat} {cp pos : Pos}
theorem pa_strT (ho : OpR X (binaryOp op) r) (hb : PE X b tb) (hr : PAT X es ta) (hs : starEach (.BinOp (.Constant (.str c) j cp) op b pos :: es) X.env = (false, eval (.BinOp (.Constant (.str c) j cp) op b pos) X.env) :: starEach es X.env := by rfl) :
    PA X (.BinOp (.Constant (.str c) j cp) op b pos :: es) (tCons (tOp r (tC (.str c)) tb) ta) := by
  refine ⟨fun pos2 pins s σ H Q I h => ?_⟩
  rw [hs]
  show wpAny _ _ (spliced ((false, eval (.BinOp (.Constant (.str c) j cp) op b pos) X.env) :: backTo pos2 (starEach es X.env))) _ _ s
  refine Calls.spliced_cons (wpAny_BinOp (Calls.Constant_str ?_))
  refine wpAny_mono (PySem.wpAny_toks (hb.run pins _ σ H _ (I.tok _) h)) (fun u s2 q => ?_) fun _ _ z => z.2
  obtain ⟨hk, y, H2, I2, ry, q⟩ := q
  have hk : s.toks + 1 ≤ s2.toks := hk
  refine wpAny_mono (PySem.wpAny_toks (ho pins s2 σ H2 (.str c) y _ u _ I2 ⟨_, rfl⟩ ry q)) (fun v s3 q => ?_) fun _ _ z => z.2
  obtain ⟨hk2, x, H3, I3, rx, q⟩ := q
  exact thn (hr pos2 pins s3 σ H3 _ (by omega) I3 q) fun us s4 ⟨xs, H4, I4, r4, q4⟩ => ⟨x :: xs, H4, I4, .cons rx r4, q4⟩
end
def dbl (c : Nat) : List Nat := if c = 32 then [32, 32] else [c]
theorem repl_dbl : ∀ l : List Nat, PySem.StrLaws.replL [32] [32, 32] l = l.flatMap dbl
  | [] => PySem.StrLaws.replL_nil
  | c :: l => by
    by_cases h : c = 32
    · subst h
      rw [PySem.StrLaws.replL_hit (by simp) rfl]
      show [32, 32] ++ PySem.StrLaws.replL [32] [32, 32] l = _
      rw [repl_dbl l]
      rfl
    · rw [PySem.StrLaws.replL_miss (by simp [h]), repl_dbl l, List.flatMap_cons]
      unfold dbl
      rw [if_neg h]
      rfl
theorem spl_dbl : ∀ (l acc : List Nat), 32 ∈ l → [] ∈ TL.spl [32] 0 acc (l.flatMap dbl)
  | [], _, h => nomatch h
  | c :: l, acc, h => by
    by_cases e : c = 32
    · subst e
      show [] ∈ TL.spl [32] 0 acc (32 :: 32 :: l.flatMap dbl)
      have e1 : ∀ (a r : List Nat), TL.spl [32] 0 a (32 :: r) = a :: TL.spl [32] 0 [] r := fun a r => by
        show (if TL.pre [32] (32 :: r) = true then _ else _) = _
        rw [if_pos (by rfl)]
        rfl
      rw [e1, e1]
      exact List.mem_cons_of_mem _ List.mem_cons_self
    · have ed : dbl c = [c] := if_neg e
      rw [List.flatMap_cons, ed]
      have e1 : TL.spl [32] 0 acc (c :: l.flatMap dbl) = TL.spl [32] 0 (acc ++ [c]) (l.flatMap dbl) := by
        show (if TL.pre [32] (c :: _) = true then _ else _) = _
        rw [if_neg (by simp [TL.pre]; exact e)]
      show [] ∈ TL.spl [32] 0 acc (c :: l.flatMap dbl)
      rw [e1]
      exact spl_dbl l _ ((List.mem_cons.mp h).resolve_left (Ne.symm e))
end Bl
namespace Bl
open PySem L2
open SX (S)
theorem cut_pre' {a : List Nat} {k : Nat} : cutS (S a) none (some (k : Int)) = S (a.take k) := by
  by_cases h : k ≤ a.length
  · exact cut_pre h
  · unfold cutS
    rw [HT.sIx_none, HT.sIx_nat, SX.S_len, List.drop_zero, Nat.sub_zero, Nat.min_eq_right (by omega)]
    show S (a.toArray.toList.take a.length) = _
    rw [List.toList_toArray, List.take_of_length_le (Nat.le_refl _), List.take_of_length_le (by omega)]
theorem b_name {z : List Nat} (h : NameL z) : NameL (98 :: z.take 5) := by
  refine ⟨by simp, ?_, fun c hc => ?_, ?_⟩
  · rw [List.length_cons, List.length_take]
    omega
  · rcases List.mem_cons.mp hc with rfl | hc
    · decide
    · exact h.low c (List.mem_of_mem_take hc)
  · refine ⟨?_, ?_, ?_, ?_⟩ <;> intro e <;> cases e
theorem over_good {w0 w1 w2 w3 w4 : List Nat} (W : Words w0 w1 w2 w3 w4) : ∀ t : Tst, t.over [w0, w1, w2 ++ 46 :: w0] w3 w4 → t.good = true
  | .is c u, h => by
    obtain ⟨h1, rfl⟩ := h
    show (colB (S c) && nameB (S u)) = true
    have hn : nameB (S u) = true := W.d.nameB
    rw [hn, Bool.and_true]
    rcases List.mem_cons.mp h1 with rfl | h1
    · exact col_one W.a
    rcases List.mem_cons.mp h1 with rfl | h1
    · exact col_one W.b
    obtain rfl := List.mem_singleton.mp h1
    exact col_two W.c W.a
  | .has r, h => by
    obtain rfl : r = w4 := h
    exact W.e.nameB
  | .neg a, h => over_good W a h
  | .two _ a b, h => by
    show (a.good && b.good) = true
    rw [over_good W a h.1, over_good W b h.2]
    rfl
theorem tst_wl : ∀ t : Tst, t.wd.length + 1 ≤ 4 * 2 ^ t.deep
  | .is c g => by show 3 + 1 ≤ 4 * 2 ^ 1; decide
  | .has g => by show 2 + 1 ≤ 4 * 2 ^ 1; decide
  | .neg t => by
    have := tst_wl t
    show (t.wd.length + 1) + 1 ≤ 4 * 2 ^ (t.deep + 1)
    rw [Nat.pow_succ]
    omega
  | .two o t u => by
    have i1 := tst_wl t
    have i2 := tst_wl u
    have m1 : 2 ^ t.deep ≤ 2 ^ max t.deep u.deep := Nat.pow_le_pow_right (by decide) (Nat.le_max_left _ _)
    have m2 : 2 ^ u.deep ≤ 2 ^ max t.deep u.deep := Nat.pow_le_pow_right (by decide) (Nat.le_max_right _ _)
    show (kTwo o :: (t.wd ++ u.wd)).length + 1 ≤ 4 * 2 ^ (max t.deep u.deep + 1)
    rw [List.length_cons, List.length_append, Nat.pow_succ]
    omega
theorem sum_join (s : List Nat) : ∀ ws : List (List Nat), ((ws.map S).map fun x => x.length).sum ≤ (TL.joinL s ws).length
  | [] => by simp
  | [a] => by simp [TL.joinL, SX.S_len]
  | a :: b :: r => by
    have ih := sum_join s (b :: r)
    rw [joinL_cons (by simp), List.length_append, List.length_append]
    rw [List.map_cons, List.map_cons, List.sum_cons, SX.S_len]
    omega
theorem join_bound {ws : List (List Nat)} {n : Nat} (h : (TL.joinL [32] ws).length ≤ n) (h2 : ws.length ≤ n) (h3 : n ≤ 100000) : ((ws.map S).map fun x => x.length).sum + (ws.map S).length * ((" " : Str)).length ≤ 16777216 := by
  have := sum_join [32] ws
  have e : ((" " : Str)).length = 1 := by decide +kernel
  rw [e, List.length_map]
  omega
theorem map_wV (ws : List (List Nat)) : ws.map wV = (ws.map S).map V.str := by
  rw [List.map_map]
  rfl
theorem sp_eq' : (" " : Str) = S [32] := by decide +kernel
theorem join_S' (ws : List (List Nat)) : Txt.join " " (ws.map S) = S (TL.joinL [32] ws) := by
  rw [sp_eq', SX.join_S]
theorem fits_up : ∀ (n : Nat) (d : PyData), Fits n d → Fits (n + 1) d
  | 0, _, h => nomatch h
  | n + 1, .none, _ => True.intro
  | n + 1, .bool _, _ => True.intro
  | n + 1, .int _, _ => True.intro
  | n + 1, .str _, _ => True.intro
  | n + 1, .list ds, h => ⟨h.1, fun d hd => fits_up n d (h.2 d hd)⟩
  | n + 1, .tuple ds, h => ⟨h.1, fun d hd => fits_up n d (h.2 d hd)⟩
  | n + 1, .dict _, h => nomatch h
theorem fits_le {m n : Nat} (h : m ≤ n) {d : PyData} (f : Fits m d) : Fits n d := by
  induction h with
  | refl => exact f
  | step _ ih => exact fits_up _ _ ih
theorem fits_tst : ∀ t : Tst, Fits (t.deep + 1) t.toD
  | .is c g => by
    refine ⟨by show 3 < 1000000; decide, fun d hd => ?_⟩
    rcases List.mem_cons.mp hd with rfl | hd
    · exact True.intro
    rcases List.mem_cons.mp hd with rfl | hd
    · exact True.intro
    obtain rfl := List.mem_singleton.mp hd
    exact True.intro
  | .has g => by
    refine ⟨by show 2 < 1000000; decide, fun d hd => ?_⟩
    rcases List.mem_cons.mp hd with rfl | hd
    · exact True.intro
    obtain rfl := List.mem_singleton.mp hd
    exact True.intro
  | .neg t => by
    refine ⟨by show 2 < 1000000; decide, fun d hd => ?_⟩
    rcases List.mem_cons.mp hd with rfl | hd
    · exact True.intro
    obtain rfl := List.mem_singleton.mp hd
    exact fits_tst t
  | .two o t u => by
    refine ⟨by show 3 < 1000000; decide, fun d hd => ?_⟩
    rcases List.mem_cons.mp hd with rfl | hd
    · exact True.intro
    rcases List.mem_cons.mp hd with rfl | hd
    · exact fits_le (by show t.deep + 1 ≤ max t.deep u.deep + 1; omega) (fits_tst t)
    obtain rfl := List.mem_singleton.mp hd
    exact fits_le (by show u.deep + 1 ≤ max t.deep u.deep + 1; omega) (fits_tst u)
theorem cutV_to {xs : List V} {i : Int} (h : 0 ≤ i) : cutV xs none (some i) = xs.take i.toNat := by
  obtain ⟨n, rfl⟩ := Int.eq_ofNat_of_zero_le h
  rw [cutV_pre, Int.toNat_natCast]
theorem cutV_from {xs : List V} {i : Int} (h : 0 ≤ i) : cutV xs (some i) none = xs.drop i.toNat := by
  obtain ⟨n, rfl⟩ := Int.eq_ofNat_of_zero_le h
  unfold cutV
  rw [HT.sIx_none, HT.sIx_nat, Int.toNat_natCast]
  by_cases hn : n ≤ xs.length
  · rw [Nat.min_eq_left hn, List.take_of_length_le (by rw [List.length_drop]; exact Nat.le_refl _)]
  · rw [Nat.min_eq_right (by omega), List.drop_of_length_le (Nat.le_refl _), List.drop_of_length_le (by omega)]
    simp
/-- the words, spoilt in one of five ways -/
def bentW (ws : List Wd) (n : Nat) : Nat → List Wd
  | 0 => ws.take n ++ ws.drop (n + 1)
  | 1 => ws.take n ++ ([kHas] ++ ws.drop n)
  | 2 => ws.take n ++ ([[73, 83]] ++ ws.drop (n + 1))
  | 3 => ws.take n ++ ([[]] ++ ws.drop n)
  | _ => ws ++ [kNot]
theorem joinL_le (s : List Nat) : ∀ ws : List (List Nat), (TL.joinL s ws).length ≤ (ws.map List.length).sum + ws.length * s.length
  | [] => by simp [TL.joinL]
  | [a] => by simp [TL.joinL]
  | a :: b :: r => by
    have ih := joinL_le s (b :: r)
    rw [joinL_cons (by simp), List.length_append, List.length_append, List.map_cons, List.sum_cons]
    rw [List.length_cons (a := a), Nat.succ_mul]
    omega
theorem sum_le_join (s : List Nat) : ∀ ws : List (List Nat), (ws.map List.length).sum ≤ (TL.joinL s ws).length
  | [] => by simp
  | [a] => by simp [TL.joinL]
  | a :: b :: r => by
    have ih := sum_le_join s (b :: r)
    rw [joinL_cons (by simp), List.length_append, List.length_append, List.map_cons, List.sum_cons]
    omega
theorem sum_take_drop (ws : List Wd) (n : Nat) : ((ws.take n).map List.length).sum + ((ws.drop n).map List.length).sum = (ws.map List.length).sum := by
  rw [← List.sum_append, ← List.map_append, List.take_append_drop]
theorem sum_drop_le (ws : List Wd) (n : Nat) : ((ws.drop (n + 1)).map List.length).sum ≤ ((ws.drop n).map List.length).sum := by
  cases e : ws.drop n with
  | nil =>
    have : ws.drop (n + 1) = [] := by rw [← List.drop_drop, e]; rfl
    rw [this]
    exact Nat.le_refl _
  | cons a r =>
    have : ws.drop (n + 1) = r := by rw [← List.drop_drop, e]; rfl
    rw [this, List.map_cons, List.sum_cons]
    omega
theorem bent_len {ws : List Wd} {n w : Nat} (h : (TL.joinL [32] ws).length ≤ 2000) (h2 : ws.length ≤ 300) : (bentW ws n w).length ≤ 400 ∧ (TL.joinL [32] (bentW ws n w)).length ≤ 5000 := by
  have a := sum_le_join [32] ws
  have b := sum_take_drop ws n
  have c := sum_drop_le ws n
  have l1 : (ws.take n).length ≤ 300 := by rw [List.length_take]; omega
  have l2 : (ws.drop n).length ≤ 300 := by rw [List.length_drop]; omega
  have l3 : (ws.drop (n + 1)).length ≤ 300 := by rw [List.length_drop]; omega
  have l4 : (ws.take n).length + (ws.drop n).length ≤ 300 := by rw [← List.length_append, List.take_append_drop]; exact h2
  have l5 : (ws.take n).length + (ws.drop (n + 1)).length ≤ 300 := by rw [List.length_drop] at *; omega
  have key : (bentW ws n w).length ≤ 302 ∧ ((bentW ws n w).map List.length).sum ≤ 2010 := by
    match w with
    | 0 => simp only [bentW, List.length_append, List.map_append, List.sum_append]; omega
    | 1 => simp only [bentW, List.length_append, List.map_append, List.sum_append, List.map_cons, List.map_nil, List.sum_cons, List.sum_nil, List.length_cons, List.length_nil, show kHas.length = 3 from rfl]; omega
    | 2 => simp only [bentW, List.length_append, List.map_append, List.sum_append, List.map_cons, List.map_nil, List.sum_cons, List.sum_nil, List.length_cons, List.length_nil]; omega
    | 3 => simp only [bentW, List.length_append, List.map_append, List.sum_append, List.map_cons, List.map_nil, List.sum_cons, List.sum_nil, List.length_cons, List.length_nil]; omega
    | _ + 4 => simp only [bentW, List.length_append, List.map_append, List.sum_append, List.map_cons, List.map_nil, List.sum_cons, List.sum_nil, List.length_cons, List.length_nil, show kNot.length = 3 from rfl]; omega
  have d := joinL_le [32] (bentW ws n w)
  rw [List.length_singleton] at d
  omega
theorem bent_bad {t : Tst} (hg : t.good = true) (hd : t.deep ≤ 6) {n w : Nat} (hw : 2 ≤ w) : parseW (TL.spl [32] 0 [] (TL.joinL [32] (bentW t.wd n w))) = none := by
  have g := good_32 hg
  have gt : ∀ x ∈ t.wd.take n, 32 ∉ x := fun x hx => g x (List.mem_of_mem_take hx)
  have gd : ∀ k, ∀ x ∈ t.wd.drop k, 32 ∉ x := fun k x hx => g x (List.mem_of_mem_drop hx)
  match w, hw with
  | 2, _ =>
    refine read_bad (w := [73, 83]) (by simp [bentW]) (fun x hx => ?_) (by simp [bentW]) bad_IS
    rcases List.mem_append.mp hx with hx | hx
    · exact gt x hx
    rcases List.mem_append.mp hx with hx | hx
    · obtain rfl := List.mem_singleton.mp hx
      decide
    · exact gd _ x hx
  | 3, _ =>
    refine read_bad (w := []) (by simp [bentW]) (fun x hx => ?_) (by simp [bentW]) bad_nil
    rcases List.mem_append.mp hx with hx | hx
    · exact gt x hx
    rcases List.mem_append.mp hx with hx | hx
    · obtain rfl := List.mem_singleton.mp hx
      decide
    · exact gd _ x hx
  | _ + 4, _ =>
    rw [SX.spl_join (by simp [bentW]) (fun x hx => ?_)]
    · exact parse_more hd hg
    · rcases List.mem_append.mp hx with hx | hx
      · exact g x hx
      · obtain rfl := List.mem_singleton.mp hx
        decide
/-- the other texts that are none -/
theorem odd_bad {t : Tst} (hg : t.good = true) (hd : t.deep ≤ 6) : parseW (TL.spl [32] 0 [] (32 :: t.txt)) = none ∧ parseW (TL.spl [32] 0 [] (t.txt ++ [32])) = none ∧ parseW (TL.spl [32] 0 [] ((t.txt ++ [32]) ++ t.txt)) = none ∧
    parseW (TL.spl [32] 0 [] (t.txt ++ [10])) = none ∧ parseW (TL.spl [32] 0 [] (t.txt.flatMap dbl)) = none := by
  have g := good_32 hg
  refine ⟨?_, ?_, ?_, ?_, ?_⟩
  · have e : 32 :: t.txt = TL.joinL [32] ([] :: t.wd) := by rw [joinL_cons t.wd_ne]; rfl
    rw [e]
    refine read_bad (w := []) (by simp) (fun x hx => ?_) List.mem_cons_self bad_nil
    rcases List.mem_cons.mp hx with rfl | hx
    · decide
    · exact g x hx
  · have e : t.txt ++ [32] = TL.joinL [32] (t.wd ++ [[]]) := by rw [joinL_app t.wd_ne (by simp)]; rfl
    rw [e]
    refine read_bad (w := []) (by simp) (fun x hx => ?_) (by simp) bad_nil
    rcases List.mem_append.mp hx with hx | hx
    · exact g x hx
    · obtain rfl := List.mem_singleton.mp hx
      decide
  · have e : (t.txt ++ [32]) ++ t.txt = TL.joinL [32] (t.wd ++ t.wd) := by rw [joinL_app t.wd_ne t.wd_ne, List.append_assoc]; rfl
    rw [e, SX.spl_join (by simp [t.wd_ne]) (fun x hx => (List.mem_append.mp hx).elim (g x) (g x))]
    cases ew : t.wd with
    | nil => exact absurd ew t.wd_ne
    | cons a r =>
      rw [← ew]
      have : t.wd ++ t.wd = t.wd ++ a :: r := by rw [← ew]
      rw [this]
      exact parse_more hd hg
  · obtain ⟨p, hp, hc⟩ := spl_low (c := 32) (x := 10) (by decide) (t.txt ++ [10]) 0 [] (by simp) rfl
    exact parse_bad hp (bad_sign hc (by decide) (by decide))
  · refine parse_bad (spl_dbl t.txt [] ?_) bad_nil
    cases t with
    | is c g => simp [Tst.txt, Tst.wd, TL.joinL]
    | has g => simp [Tst.txt, Tst.wd, TL.joinL]
    | neg t => rw [← txt_neg]; simp [TL.joinL]
    | two o t u => rw [← txt_two]; simp [TL.joinL]
theorem ok_str {l : List Nat} (h : ∀ c ∈ l, c < 128) (h2 : l.length ≤ 1000000) : PyData.canLay0 (.str (S l)) = true := by
  show l.toArray.all (fun c => decide (c < 0x110000)) = true
  simp only [List.all_toArray, List.all_eq_true, decide_eq_true_eq]
  intro c hc
  have := h c hc
  omega
def Asc (l : List Nat) : Prop := ∀ c ∈ l, c < 128
theorem low_asc {w : Wd} (h : Low w) : Asc w := fun c hc => by
  rcases h.2 c hc with h | rfl
  · have : ∀ x ∈ alpha, x < 128 := by decide
    exact this c h
  · decide
theorem join_asc {s : List Nat} (hs : Asc s) : ∀ ws : List Wd, (∀ w ∈ ws, Asc w) → Asc (TL.joinL s ws)
  | [], _ => fun c hc => by simp [TL.joinL] at hc
  | [a], h => by
    show Asc a
    exact h a List.mem_cons_self
  | a :: b :: r, h => by
    rw [joinL_cons (by simp)]
    intro c hc
    rcases List.mem_append.mp hc with hc | hc
    · exact h a List.mem_cons_self c hc
    rcases List.mem_append.mp hc with hc | hc
    · exact hs c hc
    · exact join_asc hs (b :: r) (fun w hw => h w (List.mem_cons_of_mem _ hw)) c hc
theorem asc_32 : Asc [32] := by unfold Asc; decide
theorem txt_asc {t : Tst} (hg : t.good = true) : Asc t.txt := join_asc asc_32 _ fun w hw => low_asc (good_low hg w hw)
theorem bent_asc {t : Tst} (hg : t.good = true) (n w : Nat) : Asc (TL.joinL [32] (bentW t.wd n w)) := by
  have g : ∀ x ∈ t.wd, Asc x := fun x hx => low_asc (good_low hg x hx)
  have gt : ∀ x ∈ t.wd.take n, Asc x := fun x hx => g x (List.mem_of_mem_take hx)
  have gd : ∀ k, ∀ x ∈ t.wd.drop k, Asc x := fun k x hx => g x (List.mem_of_mem_drop hx)
  have k1 : Asc kHas := by unfold Asc; decide
  have k2 : Asc [73, 83] := by unfold Asc; decide
  have k3 : Asc [] := by unfold Asc; decide
  have k4 : Asc kNot := by unfold Asc; decide
  refine join_asc asc_32 _ fun x hx => ?_
  match w, hx with
  | 0, hx => exact (List.mem_append.mp hx).elim (gt x) (gd _ x)
  | 1, hx => exact (List.mem_append.mp hx).elim (gt x) fun h => (List.mem_append.mp h).elim (fun h => by obtain rfl := List.mem_singleton.mp h; exact k1) (gd _ x)
  | 2, hx => exact (List.mem_append.mp hx).elim (gt x) fun h => (List.mem_append.mp h).elim (fun h => by obtain rfl := List.mem_singleton.mp h; exact k2) (gd _ x)
  | 3, hx => exact (List.mem_append.mp hx).elim (gt x) fun h => (List.mem_append.mp h).elim (fun h => by obtain rfl := List.mem_singleton.mp h; exact k3) (gd _ x)
  | _ + 4, hx => exact (List.mem_append.mp hx).elim (g x) fun h => by obtain rfl := List.mem_singleton.mp h; exact k4
theorem can_tst : ∀ t : Tst, t.good = true → PyData.canLay0 t.toD = true ∧ PyData.depth t.toD ≤ t.deep
  | .is c g, h => by
    obtain ⟨h1, h2⟩ := Bool.and_eq_true_iff.mp h
    have a := ok_str (low_asc (col_low h1)) (by have := col_len h1; omega)
    have b := ok_str (low_asc (name_lowL h2)) (by have := name_len h2; omega)
    have e : PyData.canLay0 (.str "is") = true := by decide +kernel
    refine ⟨?_, Nat.le_refl 1⟩
    show (PyData.canLay0 (.str "is") && (PyData.canLay0 (.str (S c)) && (PyData.canLay0 (.str (S g)) && true))) = true
    rw [e, a, b]
    rfl
  | .has g, h => by
    have b := ok_str (low_asc (name_lowL h)) (by have := name_len h; omega)
    have e : PyData.canLay0 (.str "has") = true := by decide +kernel
    refine ⟨?_, Nat.le_refl 1⟩
    show (PyData.canLay0 (.str "has") && (PyData.canLay0 (.str (S g)) && true)) = true
    rw [e, b]
    rfl
  | .neg t, h => by
    obtain ⟨a, b⟩ := can_tst t h
    have e : PyData.canLay0 (.str "not") = true := by decide +kernel
    refine ⟨?_, ?_⟩
    · show (PyData.canLay0 (.str "not") && (PyData.canLay0 t.toD && true)) = true
      rw [e, a]
      rfl
    · show max 0 (max (PyData.depth t.toD) 0) + 1 ≤ t.deep + 1
      omega
  | .two o t u, h => by
    obtain ⟨h1, h2⟩ := Bool.and_eq_true_iff.mp h
    obtain ⟨a, b⟩ := can_tst t h1
    obtain ⟨a2, b2⟩ := can_tst u h2
    have e : PyData.canLay0 (.str (twoS o)) = true := by cases o <;> decide +kernel
    refine ⟨?_, ?_⟩
    · show (PyData.canLay0 (.str (twoS o)) && (PyData.canLay0 t.toD && (PyData.canLay0 u.toD && true))) = true
      rw [e, a, a2]
      rfl
    · show max 0 (max (PyData.depth t.toD) (max (PyData.depth u.toD) 0)) + 1 ≤ max t.deep u.deep + 1
      omega
theorem not_sp : ("not " : Str) = S (kNot ++ [32]) := by decide +kernel
theorem neg_txt (t : Tst) : ("not " : Str) ++ S t.txt = S ((kNot ++ [32]) ++ t.txt) := by rw [not_sp, SX.S_cat]
theorem neg_spl {t : Tst} (hg : t.good = true) : TL.spl [32] 0 [] ((kNot ++ [32]) ++ t.txt) = kNot :: t.wd := by
  have e : (kNot ++ [32]) ++ t.txt = (Tst.neg t).txt := by
    rw [← txt_neg]
    simp [TL.joinL]
  rw [e]
  exact split_txt (t := .neg t) hg
end Bl

/-! a def called by keywords alone -/
namespace Bl
open PySem L2
section
variable {X : Cx} {CX : CXT} {k : Nat} {f : Addr} {fd : FuncData} {ps ks : List Str} {sp : Sp} {E : XK} {x : Str} {p pos : Pos} {kws : List Keyword} {tk : TA} {g : List Value → List Value → List Value} {gV : List V → List V → List V}
theorem pe_callK0 (F : FnOk X.prog X.w X.K X.mg X.base CX k f fd ps sp) (hr : Room k X.A) (hg : Gl X x) (hm : X.mg x = some (.ref f)) (hk : PySem.W.keepIn X.K (.ref f) = true) (hb : KBinds X.K fd ps ks g gV) (hx : Passes CX X E)
    (hkw : PK X kws tk) (hall : (backToKw pos (keywordEach kws X.env)).all (·.1.isSome) = true := by rfl) (hks : (backToKw pos (keywordEach kws X.env)).filterMap (·.1) = ks := by rfl)
    (hdb : (x == ("__debug__" : Str)) = false := by decide) (hpl : ((backTo pos (starEach [] X.env)).any (·.1) || (backToKw pos (keywordEach kws X.env)).any (·.1.isNone)) = false := by rfl) :
    PE X (.Call (.Name x p) [] kws pos) (tCallK sp gV E tNil tk) := by
  refine ⟨fun pins s σ H Q I h => ?_⟩
  refine wpAny_Call_Name_kw (ld_glob I hg hm ?_ hdb)
  refine PySem.W.callWith_KW0 (h₀ := X.base) I.ok.mod.kin hk hall (thn (hkw.run pos pins s σ H _ I h) fun ws s2 ⟨zs, H2, I2, rz, q2⟩ => ⟨I2.kIn, ?_⟩) hpl
  rw [hks]
  exact run_fnk (us := []) (vs := []) F hr hb hx I2 .nil rz q2
end
end Bl

namespace Bl
open PySem L2
def top (i : Nat) : Stmt := PySem.Challenge.pw_bothlots_k03_texts_of_tests.main.body.getD i (.Pass ⟨0, 0, 0, 0⟩)
abbrev s_is_name : Stmt := top 8
abbrev s_is_column : Stmt := top 9
abbrev s_is_test : Stmt := top 13
abbrev s_is_test_within : Stmt := top 14
abbrev s_test_text : Stmt := top 15
abbrev s_read_test : Stmt := top 16
abbrev s_read_from : Stmt := top 17
abbrev s_read_leaf : Stmt := top 18
abbrev s_box : Stmt := top 20
abbrev s_pull : Stmt := top 21
abbrev s_of : Stmt := top 22
abbrev s_names : Stmt := top 23
abbrev s_same : Stmt := top 24
abbrev s_field : Stmt := top 25
abbrev s_got : Stmt := top 26
abbrev s_odd : Stmt := top 27
abbrev s_free_test : Stmt := top 28
abbrev s_test_words : Stmt := top 29
abbrev s_deep : Stmt := top 30
abbrev s_law : Stmt := top 31
abbrev si_InvalidTest : Stmt := inClass (top 3) 0
abbrev si_NothingLeft : Stmt := inClass (top 4) 0
structure Top (K : PySem.W.Frag) (w : World) (mg : Str → Option Value) : Type where
  a_is_name : Addr
  d_is_name : FuncData
  F_is_name : Fun K "is_name" "is_name" s_is_name a_is_name d_is_name
  m_is_name : mg "is_name" = some (.ref a_is_name)
  b_is_name : Binds K d_is_name ["value"] []
  a_is_column : Addr
  d_is_column : FuncData
  F_is_column : Fun K "is_column" "is_column" s_is_column a_is_column d_is_column
  m_is_column : mg "is_column" = some (.ref a_is_column)
  b_is_column : Binds K d_is_column ["value"] []
  a_is_test : Addr
  d_is_test : FuncData
  F_is_test : Fun K "is_test" "is_test" s_is_test a_is_test d_is_test
  m_is_test : mg "is_test" = some (.ref a_is_test)
  b_is_test : Binds K d_is_test ["value"] []
  a_is_test_within : Addr
  d_is_test_within : FuncData
  F_is_test_within : Fun K "_is_test_within" "_is_test_within" s_is_test_within a_is_test_within d_is_test_within
  m_is_test_within : mg "_is_test_within" = some (.ref a_is_test_within)
  b_is_test_within : Binds K d_is_test_within ["value", "deepest"] []
  a_test_text : Addr
  d_test_text : FuncData
  F_test_text : Fun K "test_text" "test_text" s_test_text a_test_text d_test_text
  m_test_text : mg "test_text" = some (.ref a_test_text)
  b_test_text : Binds K d_test_text ["test"] []
  a_read_test : Addr
  d_read_test : FuncData
  F_read_test : Fun K "read_test" "read_test" s_read_test a_read_test d_read_test
  m_read_test : mg "read_test" = some (.ref a_read_test)
  b_read_test : Binds K d_read_test ["text"] []
  a_read_from : Addr
  d_read_from : FuncData
  F_read_from : Fun K "_read_from" "_read_from" s_read_from a_read_from d_read_from
  m_read_from : mg "_read_from" = some (.ref a_read_from)
  b_read_from : Binds K d_read_from ["words", "start", "deepest"] []
  a_read_leaf : Addr
  d_read_leaf : FuncData
  F_read_leaf : Fun K "_read_leaf" "_read_leaf" s_read_leaf a_read_leaf d_read_leaf
  m_read_leaf : mg "_read_leaf" = some (.ref a_read_leaf)
  b_read_leaf : Binds K d_read_leaf ["words", "start"] []
  a_box : Addr
  d_box : FuncData
  F_box : Fun K "_law_box" "_law_box" s_box a_box d_box
  m_box : mg "_law_box" = some (.ref a_box)
  b_box : Binds K d_box ["_law_script"] []
  a_pull : Addr
  d_pull : FuncData
  F_pull : Fun K "_law_pull" "_law_pull" s_pull a_pull d_pull
  m_pull : mg "_law_pull" = some (.ref a_pull)
  b_pull : Binds K d_pull ["_law_box_here", "_law_many"] []
  a_of : Addr
  d_of : FuncData
  F_of : Fun K "_law_of" "_law_of" s_of a_of d_of
  m_of : mg "_law_of" = some (.ref a_of)
  b_of : Binds K d_of ["_law_box_here", "_law_some"] []
  a_names : Addr
  d_names : FuncData
  F_names : Fun K "_law_names" "_law_names" s_names a_names d_names
  m_names : mg "_law_names" = some (.ref a_names)
  b_names : Binds K d_names ["_law_box_here", "_law_many"] []
  a_same : Addr
  d_same : FuncData
  F_same : Fun K "_law_same" "_law_same" s_same a_same d_same
  m_same : mg "_law_same" = some (.ref a_same)
  b_same : Binds K d_same ["_law_found", "_law_due"] []
  a_field : Addr
  d_field : FuncData
  F_field : Fun K "_law_field" "_law_field" s_field a_field d_field
  m_field : mg "_law_field" = some (.ref a_field)
  b_field : Binds K d_field ["_law_e"] []
  a_got : Addr
  d_got : FuncData
  F_got : Fun K "_law_got" "_law_got" s_got a_got d_got
  m_got : mg "_law_got" = some (.ref a_got)
  b_got : Binds K d_got ["_law_ask"] []
  a_odd : Addr
  d_odd : FuncData
  F_odd : Fun K "_law_odd" "_law_odd" s_odd a_odd d_odd
  m_odd : mg "_law_odd" = some (.ref a_odd)
  b_odd : Binds K d_odd ["_law_box_here", "_law_more"] []
  a_free_test : Addr
  d_free_test : FuncData
  F_free_test : Fun K "_law_free_test" "_law_free_test" s_free_test a_free_test d_free_test
  m_free_test : mg "_law_free_test" = some (.ref a_free_test)
  b_free_test : Binds K d_free_test ["_law_box_here", "_law_words", "_law_deep_here"] []
  a_test_words : Addr
  d_test_words : FuncData
  F_test_words : Fun K "_law_test_words" "_law_test_words" s_test_words a_test_words d_test_words
  m_test_words : mg "_law_test_words" = some (.ref a_test_words)
  b_test_words : Binds K d_test_words ["_law_test"] []
  a_deep : Addr
  d_deep : FuncData
  F_deep : Fun K "_law_deep" "_law_deep" s_deep a_deep d_deep
  m_deep : mg "_law_deep" = some (.ref a_deep)
  b_deep : Binds K d_deep ["_law_test"] []
  a_law : Addr
  d_law : FuncData
  F_law : Fun K "law" "law" s_law a_law d_law
  m_law : mg "law" = some (.ref a_law)
  b_law : Binds K d_law ["_law_script"] []
  C_LotsError : Addr
  mc_LotsError : mg "LotsError" = some (.ref C_LotsError)
  C_Missing : Addr
  mc_Missing : mg "Missing" = some (.ref C_Missing)
  C_InvalidTest : Addr
  mc_InvalidTest : mg "InvalidTest" = some (.ref C_InvalidTest)
  x_InvalidTest : XC K C_InvalidTest
  f_InvalidTest : Addr
  di_InvalidTest : FuncData
  iC_InvalidTest : PySem.W.findIn K (.ref C_InvalidTest) "__init__" = some (some (.ref f_InvalidTest))
  tI_InvalidTest : PySem.W.typeIn K (.ref f_InvalidTest) = some (.type "function")
  Fi_InvalidTest : Fun K "__init__" "InvalidTest.__init__" si_InvalidTest f_InvalidTest di_InvalidTest
  bi_InvalidTest : Binds K di_InvalidTest ["self", "given"] []
  C_NothingLeft : Addr
  mc_NothingLeft : mg "NothingLeft" = some (.ref C_NothingLeft)
  x_NothingLeft : XC K C_NothingLeft
  f_NothingLeft : Addr
  di_NothingLeft : FuncData
  iC_NothingLeft : PySem.W.findIn K (.ref C_NothingLeft) "__init__" = some (some (.ref f_NothingLeft))
  tI_NothingLeft : PySem.W.typeIn K (.ref f_NothingLeft) = some (.type "function")
  Fi_NothingLeft : Fun K "__init__" "NothingLeft.__init__" si_NothingLeft f_NothingLeft di_NothingLeft
  bi_NothingLeft : Binds K di_NothingLeft ["self"] []
  c_law : Addr
  P_law : Addr
  k_law : d_law.code = .ref c_law
  Lc_law : ∃ (e : Value) (dd : Option Addr) (vs : Array Value) (sl : Array (Option Value)), K.lookup c_law = some ⟨e, dd, .fields vs, sl⟩ ∧ vs[11]? = some (.ref P_law)
  Nc_law : K.lookup P_law = none
  Hc_law : PySem.W.codeHdIn K c_law P_law = true
  xq_InvalidTest : xqB K C_InvalidTest C_LotsError C_Missing C_NothingLeft ["given"] = true
  xq_NothingLeft : xqB K C_NothingLeft C_LotsError C_Missing C_NothingLeft [] = true
  z_abs : mg "abs" = none
  z_all : mg "all" = none
  z_bool : mg "bool" = none
  z_int : mg "int" = none
  z_isinstance : mg "isinstance" = none
  z_len : mg "len" = none
  z_list : mg "list" = none
  z_max : mg "max" = none
  z_min : mg "min" = none
  z_range : mg "range" = none
  z_str : mg "str" = none
  z_tuple : mg "tuple" = none
  z_zip : mg "zip" = none
  t_LETTERS : Tok
  c_LETTERS : mg "LETTERS" = some (.str "abcdefghijklmnopqrstuvwxyz" t_LETTERS)
  r_LETTERS : RelV (.str "abcdefghijklmnopqrstuvwxyz") (.str "abcdefghijklmnopqrstuvwxyz" t_LETTERS)
  t_LONGEST_NAME : Tok
  c_LONGEST_NAME : mg "LONGEST_NAME" = some (.int 6 t_LONGEST_NAME)
  r_LONGEST_NAME : RelV (.int 6) (.int 6 t_LONGEST_NAME)
  t_DEEPEST : Tok
  c_DEEPEST : mg "DEEPEST" = some (.int 6 t_DEEPEST)
  r_DEEPEST : RelV (.int 6) (.int 6 t_DEEPEST)
  p_PARTS : Addr
  c_PARTS : mg "PARTS" = some (.ref p_PARTS)
  r_PARTS : RelV (.ref p_PARTS) (.ref p_PARTS)
  q_PARTS : ∀ H : Hp, PartsAt K w p_PARTS
section
variable {P : Program} {w : World} {K : PySem.W.Frag} {mg : Str → Option Value} {base : Heap}
theorem sci_InvalidTest : FnScope ["self", "given"] ["self", "given"] (defScope si_InvalidTest) := ⟨rfl, rfl, rfl, by decide +kernel, rfl, by decide +kernel, by decide +kernel⟩
theorem oki_InvalidTest (T : Top K w mg) : FnOk P w K mg base CX0 1 T.f_InvalidTest T.di_InvalidTest ["self", "given"] (spI K T.C_InvalidTest ("InvalidTest", ["given"])) := by
  refine T.Fi_InvalidTest.ok sci_InvalidTest (fun vs H Q E h => ?_) (fun cdv A outer s H vs Q E hr h => ?_)
  · obtain ⟨a, ys, rfl, hl, _⟩ := h
    rw [List.length_cons, hl]
    rfl
  obtain ⟨a, ys, rfl, hl, ea, k⟩ := h
  refine ⟨_, (pss_cons (ps_xst (pv 0) (pv 1))
    (pss_one (ps_xst (pv 0) pe_str))), ?_⟩
  exact ini1 T.x_InvalidTest (xq_nof T.xq_InvalidTest) hl ea k
theorem sci_NothingLeft : FnScope ["self"] ["self"] (defScope si_NothingLeft) := ⟨rfl, rfl, rfl, by decide +kernel, rfl, by decide +kernel, by decide +kernel⟩
theorem oki_NothingLeft (T : Top K w mg) : FnOk P w K mg base CX0 1 T.f_NothingLeft T.di_NothingLeft ["self"] (spI K T.C_NothingLeft ("NothingLeft", [])) := by
  refine T.Fi_NothingLeft.ok sci_NothingLeft (fun vs H Q E h => ?_) (fun cdv A outer s H vs Q E hr h => ?_)
  · obtain ⟨a, ys, rfl, hl, _⟩ := h
    rw [List.length_cons, hl]
    rfl
  obtain ⟨a, ys, rfl, hl, ea, k⟩ := h
  refine ⟨_, (pss_one (ps_xst (pv 0) pe_str)), ?_⟩
  exact ini0 T.x_NothingLeft (xq_nof T.xq_NothingLeft) hl ea k
end

end Bl

namespace Bl
open PySem L2
abbrev n_box : List Str := ["_law_script", "_law_mixed", "_law_cell"]
theorem sc_box : FnScope n_box ["_law_script"] (defScope s_box) := ⟨rfl, rfl, rfl, by decide +kernel, rfl, by decide +kernel, by decide +kernel⟩
abbrev n_pull : List Str := ["_law_box_here", "_law_many", "_law_cell", "_law_digit", "_law_twice"]
theorem sc_pull : FnScope n_pull ["_law_box_here", "_law_many"] (defScope s_pull) := ⟨rfl, rfl, rfl, by decide +kernel, rfl, by decide +kernel, by decide +kernel⟩
abbrev n_of : List Str := ["_law_box_here", "_law_some"]
theorem sc_of : FnScope n_of ["_law_box_here", "_law_some"] (defScope s_of) := ⟨rfl, rfl, rfl, by decide +kernel, rfl, by decide +kernel, by decide +kernel⟩
section
variable {P : Program} {w : World} {K : PySem.W.Frag} {mg : Str → Option Value} {base : Heap}
theorem ok_pull (T : Top K w mg) : FnOk P w K mg base CX0 1 T.a_pull T.d_pull ["_law_box_here", "_law_many"] (spPull K) := by
  refine T.F_pull.ok sc_pull (fun vs H Q E h => ?_) (fun cdv A outer s H vs Q E hr h => ?_)
  · obtain ⟨p, l, n, rfl, _⟩ := h
    rfl
  obtain ⟨p, l, n, rfl, ⟨ns, i, w', m, c, hp, hl, hi, hm0, hm1⟩, hn0, hn1, k⟩ := h
  -- what a box at the end gives
  have fin : ∀ (H' : Hp) (i' w2 m' c' d : Int), H' p = some (.lst (boxL l i' w2 m' c')) → But p H H' → 0 ≤ i' → 0 ≤ m' → m' < 2147483629 → 0 ≤ d → d < n → Q (.int d) H' := fun H' i' w2 m' c' d h1 h2 h3 h4 h5 h6 h7 =>
    k d H' h6 h7 ⟨ns, i', w2, m', c', h1, h2 _ _ hl, h3, h4, h5⟩ h2
  refine ⟨_, (pss_cons (ps_asg (pe_op op_add (pe_ix ix_list (pv 0) pe_int (fun _ _ => rfl)) pe_int) (pg_sub (pv 0) pe_int set_list))
    (C8.pss_cut (ps_if (PW.pt (pw_and (pt_cmpR op_eq (pe_ix ix_list (pv 0) pe_int (fun _ _ => rfl)) pe_int (nomark _)) (pw_and1 (pt_cmpR op_lt (pe_ix ix_list (pv 0) pe_int (fun _ _ => rfl)) (pe_callB call_len_seq (by rfl) T.z_len (by decide +kernel) (pa_cons (pe_ix ix_list (pv 0) pe_int (fun _ _ => rfl)) pa_nil)) (nomark _))))) (pss_cons (ps_set (i := 2) sc_pull.nd rfl (Or.inl rfl) (pe_ix ix_list (pe_ix ix_list (pv 0) pe_int (fun _ _ => rfl)) (pe_ix ix_list (pv 0) pe_int (fun _ _ => rfl)) (fun _ _ => rfl)))
    (pss_cons (ps_asg (pe_op op_add (pe_ix ix_list (pv 0) pe_int (fun _ _ => rfl)) pe_int) (pg_sub (pv 0) pe_int set_list))
    (pss_one (ps_if (pt_cmpR op_ge (pe_callB call_abs (by rfl) T.z_abs (by decide +kernel) (pa_cons (pv 2) pa_nil)) (pe_op op_pow pe_int pe_int) (nomark _)) (pss_one (ps_asg (pe_callB call_abs (by rfl) T.z_abs (by decide +kernel) (pa_cons (pv 2) pa_nil)) (pg_sub (pv 0) pe_int set_list))) (pss_one (ps_asg (pe_op op_mod (pe_callTy call_int1 (by rfl) T.z_int (by decide +kernel) (pa_cons (pe_op op_add (pe_op op_add (pe_op op_mul (pe_ix ix_list (pv 0) pe_int (fun _ _ => rfl)) pe_int) (pe_op op_mul (pe_op op_mod (pe_callTy call_int1 (by rfl) T.z_int (by decide +kernel) (pa_cons (pv 2) pa_nil)) pe_int) pe_int)) pe_int) pa_nil)) pe_int) (pg_sub (pv 0) pe_int set_list))))))) pss_nil)
    (pss_cons (ps_if (pt_cmpR op_gt (pe_ix ix_list (pv 0) pe_int (fun _ _ => rfl)) pe_int (nomark _)) (pss_cons (ps_set (i := 3) sc_pull.nd rfl (Or.inl rfl) (pe_op op_mod (pe_callTy call_int1 (by rfl) T.z_int (by decide +kernel) (pa_cons (pe_ix ix_list (pv 0) pe_int (fun _ _ => rfl)) pa_nil)) (pv 1)))
    (pss_cons (ps_asg (pe_op op_fdiv (pe_ix ix_list (pv 0) pe_int (fun _ _ => rfl)) (pv 1)) (pg_sub (pv 0) pe_int set_list))
    (pss_one (ps_ret (pv 3))))) pss_nil)
    (pss_cons (ps_set (i := 4) sc_pull.nd rfl (Or.inl rfl) (pe_op op_mod (pe_callTy call_int1 (by rfl) T.z_int (by decide +kernel) (pa_cons (pe_op op_add (pe_op op_mul (pe_ix ix_list (pv 0) pe_int (fun _ _ => rfl)) (pe_ix ix_list (pv 0) pe_int (fun _ _ => rfl))) (pe_op op_mul (pe_ix ix_list (pv 0) pe_int (fun _ _ => rfl)) pe_int)) pa_nil)) pe_int))
    (pss_cons (ps_asg (pe_op op_mod (pe_callTy call_int1 (by rfl) T.z_int (by decide +kernel) (pa_cons (pe_op op_add (pe_op op_add (pe_op op_mul (pv 4) pe_int) (pe_op op_mul (pe_ix ix_list (pv 0) pe_int (fun _ _ => rfl)) pe_int)) pe_int) pa_nil)) pe_int) (pg_sub (pv 0) pe_int set_list))
    (pss_one (ps_ret (pe_op op_mod (pe_callTy call_int1 (by rfl) T.z_int (by decide +kernel) (pa_cons (pe_op op_fdiv (pe_ix ix_list (pv 0) pe_int (fun _ _ => rfl)) pe_int) pa_nil)) (pv 1))))))))), ?_⟩
  -- box[4] = box[4] + 1
  refine ⟨_, rfl, p, _, _, _, rfl, rfl, SqL.of hp, rfl, _, _, rfl, rfl, _, rfl, p, _, _, _, rfl, rfl, hp, rfl, ?_⟩
  have e1 : But p H (upd H p (.lst (boxL l i w' m (c + 1)))) := But.put (Same.refl _)
  have hp1 : (upd H p (.lst (boxL l i w' m (c + 1)))) p = some (.lst (boxL l i w' m (c + 1))) := upd_same
  show tSeq _ _ _ _ (upd H p (.lst (boxL l i w' m (c + 1))))
  generalize (upd H p (.lst (boxL l i w' m (c + 1)))) = H1 at e1 hp1 ⊢
  have hl1 : SqL K H1 l (ns.map V.int) := SqL.of (hide_le _ _ (e1 _ _ hl))
  clear hp
  refine ⟨fun σ H2 => ∃ (o2 : Option V) (i2 w2 m2 : Int), σ = [some (.ref p), some (.int n), o2, none, none] ∧ H2 p = some (.lst (boxL l i2 w2 m2 (c + 1))) ∧ But p H H2 ∧ 0 ≤ i2 ∧ 0 ≤ m2 ∧ m2 < 2147483629, ?_, ?_⟩
  -- if box[2] == 0 and box[1] < len(box[0])
  · refine ⟨_, rfl, p, _, _, _, rfl, rfl, SqL.of hp1, rfl, rfl, _, rfl, ?_⟩
    refine ite2 (fun _ => ?_) (fun _ => iteF ⟨none, i, w', m, rfl, hp1, e1, hi, hm0, hm1⟩)
    refine ⟨_, rfl, p, _, _, _, rfl, rfl, SqL.of hp1, rfl, _, rfl, p, _, _, _, rfl, rfl, SqL.of hp1, rfl, l, _, rfl, .inl hl1, _, _, rfl, rfl, _, rfl, ?_⟩
    refine ite2 (fun hlt => ?_) (fun _ => ⟨none, i, w', m, rfl, hp1, e1, hi, hm0, hm1⟩)
    have hlt' : i < ns.length := by
      have := of_decide_eq_true hlt
      simpa using this
    obtain ⟨v, hv⟩ := atI_int hi hlt'
    -- cell = box[0][box[1]]; box[1] = box[1] + 1
    refine ⟨_, rfl, p, _, _, _, rfl, rfl, SqL.of hp1, rfl, _, rfl, p, _, _, _, rfl, rfl, SqL.of hp1, rfl, l, _, _, _, rfl, rfl, hl1, hv, ?_⟩
    refine ⟨_, rfl, p, _, _, _, rfl, rfl, SqL.of hp1, rfl, _, _, rfl, rfl, _, rfl, p, _, _, _, rfl, rfl, hp1, rfl, ?_⟩
    -- if abs(cell) >= 10 ** 18
    refine ⟨_, rfl, v, rfl, _, _, rfl, rfl, ⟨by decide, by decide, by decide⟩, _, _, rfl, rfl, _, rfl, ?_⟩
    refine ite2 (fun _ => ?_) (fun _ => ?_)
    · refine ⟨_, rfl, v, rfl, _, rfl, p, _, _, _, rfl, rfl, upd_same, rfl, ?_⟩
      exact ⟨_, i + 1, _, m, rfl, upd_same, (But.put (But.put e1)), by omega, hm0, hm1⟩
    · refine ⟨_, rfl, p, _, _, _, rfl, rfl, SqL.of upd_same, rfl, _, _, rfl, rfl, .inl (by constructor <;> omega), _, rfl, .inl ⟨v, rfl, ?_⟩⟩
      have b1 := mod_lt' (a := v) (b := 1000003) (by decide)
      refine ⟨_, _, rfl, rfl, (by show (0 : Int) < 1000003; decide), _, _, rfl, rfl, .inl (by constructor <;> omega), _, _, rfl, rfl, _, _, rfl, rfl, .inl ⟨_, rfl, ?_⟩⟩
      refine ⟨_, _, rfl, rfl, (by show (0 : Int) < 2147483629; decide), _, rfl, p, _, _, _, rfl, rfl, upd_same, rfl, ?_⟩
      exact ⟨_, i + 1, w', _, rfl, upd_same, (But.put (But.put e1)), by omega, Int.emod_nonneg _ (by decide), Int.emod_lt_of_pos _ (by decide)⟩
  -- the rest
  · rintro σ H2 ⟨o2, i2, w2, m2, rfl, hp2, e2, hi2, hm20, hm21⟩
    refine ⟨_, rfl, p, _, _, _, rfl, rfl, SqL.of hp2, rfl, _, _, rfl, rfl, _, rfl, ?_⟩
    refine ite2 (fun _ => ?_) (fun _ => ?_)
    · refine ⟨_, rfl, p, _, _, _, rfl, rfl, SqL.of hp2, rfl, .inl ⟨_, rfl, ?_⟩⟩
      refine ⟨_, rfl, _, _, rfl, rfl, hn0, ?_⟩
      refine ⟨_, rfl, p, _, _, _, rfl, rfl, SqL.of hp2, rfl, _, rfl, _, _, rfl, rfl, ⟨hn0, hn1⟩, _, rfl, p, _, _, _, rfl, rfl, hp2, rfl, ?_⟩
      refine ⟨_, rfl, ?_⟩
      exact fin _ i2 _ m2 _ _ upd_same (But.put e2) hi2 hm20 hm21 (Int.emod_nonneg _ (by omega)) (Int.emod_lt_of_pos _ hn0)
    · refine ⟨_, rfl, p, _, _, _, rfl, rfl, SqL.of hp2, rfl, _, rfl, p, _, _, _, rfl, rfl, SqL.of hp2, rfl, _, _, rfl, rfl, .inl (by constructor <;> omega), _, rfl, p, _, _, _, rfl, rfl, SqL.of hp2, rfl, _, _, rfl, rfl, .inr (by constructor <;> omega), _, _, rfl, rfl, .inl ⟨_, rfl, ?_⟩⟩
      have b1 := mod_lt' (a := m2 * m2 + (c + 1) * 8317) (b := 2147483549) (by decide)
      refine ⟨_, _, rfl, rfl, (by show (0 : Int) < 2147483549; decide), ?_⟩
      refine ⟨_, rfl, _, _, rfl, rfl, .inl (by constructor <;> omega), _, rfl, p, _, _, _, rfl, rfl, SqL.of hp2, rfl, _, _, rfl, rfl, .inl (by constructor <;> omega), _, _, rfl, rfl, _, _, rfl, rfl, .inl ⟨_, rfl, ?_⟩⟩
      refine ⟨_, _, rfl, rfl, (by show (0 : Int) < 2147483629; decide), _, rfl, p, _, _, _, rfl, rfl, hp2, rfl, ?_⟩
      refine ⟨_, rfl, p, _, _, _, rfl, rfl, SqL.of upd_same, rfl, _, _, rfl, rfl, (by constructor <;> decide), .inl ⟨_, rfl, ?_⟩⟩
      refine ⟨_, rfl, _, _, rfl, rfl, hn0, ?_⟩
      exact fin _ i2 w2 _ _ _ upd_same (But.put e2) hi2 (Int.emod_nonneg _ (by decide)) (Int.emod_lt_of_pos _ (by decide)) (Int.emod_nonneg _ (by omega)) (Int.emod_lt_of_pos _ hn0)
theorem ok_box (T : Top K w mg) : FnOk P w K mg base CX0 1 T.a_box T.d_box ["_law_script"] (spBox K) := by
  refine T.F_box.ok sc_box (fun vs H Q E h => ?_) (fun cdv A outer s H vs Q E hr h => ?_)
  · obtain ⟨a, ns, rfl, _⟩ := h
    rfl
  obtain ⟨a, ns, rfl, hS, h63, k⟩ := h
  refine ⟨_, (pss_cons (ps_set (i := 1) sc_box.nd rfl (Or.inl rfl) pe_int)
    (pss_cons (ps_for PassesOwn.never rfl (pi_list (pe_slice sl_list (pv 0) po_none (po_some pe_int))) (pg_name (i := 2) sc_box.nd rfl (Or.inl rfl))
    (pss_one (ps_set (i := 1) sc_box.nd rfl (Or.inl rfl) (pe_op op_mod (pe_callTy call_int1 (by rfl) T.z_int (by decide +kernel) (pa_cons (pe_op op_add (pe_op op_add (pe_op op_mul (pv 1) pe_int) (pe_op op_mul (pe_op op_mod (pe_callTy call_int1 (by rfl) T.z_int (by decide +kernel) (pa_cons (pv 2) pa_nil)) pe_int) pe_int)) pe_int) pa_nil)) pe_int))))
    (pss_one (ps_ret (pe_lst (pa_cons (pe_callTy call_list_of (by rfl) T.z_list (by decide +kernel) (pa_cons (pe_slice sl_list (pv 0) po_none (po_some pe_int)) pa_nil)) (pa_cons pe_int (pa_cons pe_int (pa_cons (pv 1) (pa_cons pe_int pa_nil)))))))))), ?_⟩
  refine ⟨_, rfl, _, rfl, a, _, rfl, hS, fun p hp => ?_⟩
  rw [cutV_63 h63]
  have g1 : Same H (upd H p (.lst (ns.map V.int))) := same_new hp _
  refine ⟨p, rfl, ⟨_, SqL.of upd_same⟩, for_list (K := K) (a := p) (xs := ns.map V.int) (fun i σ H2 => ∃ (m : Int) (o : Option V), σ = [some (.ref a), some (.int m), o] ∧ 0 ≤ m ∧ m < 2147483629 ∧ Same (upd H p (.lst (ns.map V.int))) H2)
    ⟨10010, none, rfl, by decide, by decide, Same.refl _⟩ (fun i σ H2 _ ⟨_, _, _, _, _, s2⟩ => s2.seq (SqL.of upd_same)) ?_ ?_⟩
  · rintro i x σ H2 hx ⟨m, o, rfl, h0, h1, s2⟩
    obtain ⟨v, rfl⟩ : ∃ v : Int, x = .int v := by
      rw [List.getElem?_map] at hx
      cases e : ns[i]? with
      | none => rw [e] at hx; cases hx
      | some z => rw [e] at hx; exact ⟨z, (Option.some.inj hx).symm⟩
    have b1 := mod_lt' (a := v) (b := 1000003) (by decide)
    refine ⟨_, rfl, _, _, rfl, rfl, .inl (by constructor <;> omega), _, rfl, .inl ⟨v, rfl, ?_⟩⟩
    refine ⟨_, _, rfl, rfl, (by show (0 : Int) < 1000003; decide), _, _, rfl, rfl, .inl (by constructor <;> omega), _, _, rfl, rfl, _, _, rfl, rfl, .inl ⟨_, rfl, ?_⟩⟩
    refine ⟨_, _, rfl, rfl, (by show (0 : Int) < 2147483587; decide), ?_⟩
    have b2 := mod_lt' (a := m * 50021 + v % 1000003 * 769 + 17) (b := 2147483587) (by decide)
    exact ⟨_, _, rfl, b2.1, by omega, s2⟩
  · rintro σ H2 ⟨m, o, rfl, h0, h1, s2⟩
    have s3 := g1.trans s2
    refine ⟨_, rfl, _, rfl, a, _, rfl, s3.seq hS, fun q hq => ?_⟩
    rw [cutV_63 h63]
    have g2 := same_new hq (.lst (ns.map V.int))
    refine ⟨q, _, rfl, .inl (SqL.of upd_same), fun l hl => ?_⟩
    have g3 := same_new hl (.lst (ns.map V.int))
    refine ⟨_, rfl, (by show 5 ≤ sizeLine; decide), fun b hb => ?_⟩
    have g4 := same_new hb (.lst (boxL l 0 0 m 0))
    have nb : l ≠ b := ne_of_none upd_same hb
    refine k b l _ (s3.free (g2.free (g3.free hb))) ⟨ns, 0, 0, m, 0, upd_same, ?_, by decide, h0, h1⟩ (s3.trans (g2.trans (g3.trans g4)))
    rw [hide_ne nb, upd_ne nb, upd_same]
theorem ok_of (T : Top K w mg) : FnOk P w K mg base CX0 2 T.a_of T.d_of ["_law_box_here", "_law_some"] (spOf K) := by
  refine T.F_of.ok sc_of (fun vs H Q E h => ?_) (fun cdv A outer s H vs Q E hr h => ?_)
  · obtain ⟨p, l, v, rfl, _⟩ := h
    rfl
  obtain ⟨p, l, v, rfl, B, h⟩ := h
  refine ⟨_, (pss_one (ps_ret (pe_ix ix_seq (pv 1) (pe_call (ok_pull T) (hr.mono (by decide)) rfl T.m_pull T.F_pull.kp T.b_pull .nil pass0 (pa_cons (pv 0) (pa_cons (pe_callB call_len (by rfl) T.z_len (by decide +kernel) (pa_cons (pv 1) pa_nil)) pa_nil))) (fun _ _ => rfl)))), ?_⟩
  rcases h with ⟨a, xs, rfl, hS, h0, h1, k⟩ | ⟨z, rfl, h0, h1, k⟩
  · refine ⟨_, rfl, _, rfl, _, rfl, _, xs.length, rfl, ?_, p, l, xs.length, rfl, B, by omega, by omega, fun d H' hd0 hd1 B' e => ?_⟩
    · rcases hS with hS | hS
      · exact .inl ⟨xs, hide_le.seq hS, rfl⟩
      · exact .inr ⟨xs, Same.tup hide_le hS, rfl⟩
    · obtain ⟨n, x, hx, hat⟩ := atI_some hd0 hd1
      rcases hS with hS | hS
      · exact .inl ⟨a, xs, d, x, rfl, rfl, hide_le.seq (e.seq hS), hat, k n x H' hx B' e⟩
      · exact .inr (.inl ⟨a, xs, d, x, rfl, rfl, Same.tup hide_le (Same.tup e hS), hat, k n x H' hx B' e⟩)
  · refine ⟨_, rfl, _, rfl, _, rfl, _, z.length, rfl, ⟨small (by omega), rfl⟩, p, l, z.length, rfl, B, by omega, by omega, fun d H' hd0 hd1 B' e => ?_⟩
    obtain ⟨n, rfl⟩ := Int.eq_ofNat_of_zero_le hd0
    have hn : n < z.cps.toList.length := by
      rw [Array.length_toList]
      show n < z.length
      omega
    exact .inr (.inr ⟨z, n, z.cps.toList[n], rfl, rfl, small (by omega), atI_nat (List.getElem?_eq_getElem hn), k _ H' (List.getElem_mem hn) B' e⟩)
end
end Bl

namespace Bl
open PySem L2
abbrev n_same : List Str := ["_law_found", "_law_due", "_law_a", "_law_b"]
theorem sc_same : FnScope n_same ["_law_found", "_law_due"] (defScope s_same) := ⟨rfl, rfl, rfl, by decide +kernel, rfl, by decide +kernel, by decide +kernel⟩
section
variable {P : Program} {w : World} {K : PySem.W.Frag} {mg : Str → Option Value} {base : Heap}
theorem walk_zipT {a b : Addr} {xs ys : List V} {n : Nat} (hn : n = min xs.length ys.length) : Walk (RZ.ItzT K a b) n (fun H => SqT K H a xs ∧ SqT K H b ys) (YPair (fun i => xs[i]?) (fun i => ys[i]?)) := by
  subst hn
  refine ⟨fun i _ hi q => ?_, fun _ q => ⟨xs, ys, q.1, q.2, by omega⟩, fun i H v H' _ q y => ?_⟩
  · have h1 : i < xs.length := by omega
    have h2 : i < ys.length := by omega
    exact ⟨xs, ys, xs[i], ys[i], q.1, q.2, by simp [h1], by simp [h2]⟩
  · obtain ⟨T, x, z, h1, h2, h3, h4, h5⟩ := y
    exact ⟨T, x, z, h1, h2, h3, h4 xs q.1, h5 ys q.2⟩
theorem kit_lt (d : PyData) : PySem.W.kitAny K (.type (tyN d)) [.type "list", .type "tuple"] = some (match d with | .list _ => true | .tuple _ => true | _ => false) := by
  cases d with
  | list ds => exact kitAny_cons (b := true) (kit_ty (by dsimp only [tyN]; decide +kernel)) (fun h => nomatch h) (fun _ => rfl)
  | tuple ds => exact kitAny_cons (b := false) (kit_ty (by dsimp only [tyN]; decide +kernel)) (fun _ => kitAny_cons (b := true) (kit_ty (by dsimp only [tyN]; decide +kernel)) (fun h => nomatch h) (fun _ => rfl)) (fun h => nomatch h)
  | _ => exact kitAny_cons (b := false) (kit_ty (by dsimp only [tyN]; decide +kernel)) (fun _ => kitAny_cons (b := false) (kit_ty (by dsimp only [tyN]; decide +kernel)) (fun _ => kitAny_nil) (fun h => nomatch h)) (fun h => nomatch h)
theorem ok_same0 (T : Top K w mg) : FnOk P w K mg base CX0 0 T.a_same T.d_same ["_law_found", "_law_due"] (spSame K 0) := by
  have no : ∀ vs H Q E, ¬ spSame K 0 vs H Q E := fun vs H Q E h => by
    obtain ⟨x, y, d, _, _, _, h1, _⟩ := h
    cases d <;> exact h1
  exact ⟨fun vs H Q E h => absurd h (no vs H Q E), fun A outer s H args us vs Q E _ _ _ _ h => absurd h (no vs H Q E)⟩
theorem ok_same1 (T : Top K w mg) {n : Nat} (G : FnOk P w K mg base CX0 n T.a_same T.d_same ["_law_found", "_law_due"] (spSame K n)) : FnOk P w K mg base CX0 (n + 1) T.a_same T.d_same ["_law_found", "_law_due"] (spSame K (n + 1)) := by
  refine T.F_same.ok sc_same (fun vs H Q E h => ?_) (fun cdv A outer s H vs Q E hr h => ?_)
  · obtain ⟨x, y, d, rfl, _⟩ := h
    rfl
  obtain ⟨x, y, d, rfl, hx, hy, hf, k⟩ := h
  refine ⟨_, (pss_cons (ps_if (PW.pt (pw_or (pt_cmpR op_isN (pv 1) pe_non (nomark _)) (pw_or1 (pt_cmpR op_isN (pv 0) pe_non (nomark _))))) (pss_one (ps_ret (pe_and (pe_cmpR op_isN (pv 1) pe_non (nomark _)) (pe_one (pe_cmpR op_isN (pv 0) pe_non (nomark _)))))) pss_nil)
    (pss_cons (ps_if (pt_val (pe_callB call_isiT (by rfl) T.z_isinstance (by decide +kernel) (pa_cons (pv 1) (pa_cons (pe_tup (pa_cons (pe_bltn (v := .ty "list") (by rfl) T.z_list (by decide +kernel) rfl) (pa_cons (pe_bltn (v := .ty "tuple") (by rfl) T.z_tuple (by decide +kernel) rfl) pa_nil))) pa_nil)))) (pss_cons (ps_if (PW.pt (pw_or (pt_cmpR op_ne (pe_callB call_isi (by rfl) T.z_isinstance (by decide +kernel) (pa_cons (pv 0) (pa_cons (pe_bltn (v := .ty "list") (by rfl) T.z_list (by decide +kernel) rfl) pa_nil))) (pe_callB call_isi (by rfl) T.z_isinstance (by decide +kernel) (pa_cons (pv 1) (pa_cons (pe_bltn (v := .ty "list") (by rfl) T.z_list (by decide +kernel) rfl) pa_nil))) (nomark _)) (pw_or1 (pt_cmpR op_ne (pe_callB call_isi (by rfl) T.z_isinstance (by decide +kernel) (pa_cons (pv 0) (pa_cons (pe_bltn (v := .ty "tuple") (by rfl) T.z_tuple (by decide +kernel) rfl) pa_nil))) (pe_callB call_isi (by rfl) T.z_isinstance (by decide +kernel) (pa_cons (pv 1) (pa_cons (pe_bltn (v := .ty "tuple") (by rfl) T.z_tuple (by decide +kernel) rfl) pa_nil))) (nomark _))))) (pss_one (ps_ret pe_bl)) pss_nil)
    (pss_one (ps_ret (pe_and (pe_cmpR op_eq (pe_callB call_len (by rfl) T.z_len (by decide +kernel) (pa_cons (pv 0) pa_nil)) (pe_callB call_len (by rfl) T.z_len (by decide +kernel) (pa_cons (pv 1) pa_nil)) (nomark _)) (pe_one (pe_callB (cr_all rfl) (by rfl) T.z_all (by decide +kernel) (pa_cons (pe_lc (own := [("_law_a", 2), ("_law_b", 3)]) (g := gTup K 2 (gCons (gName 2) (gCons (gName 3) gNil))) (tt := tYes) rfl sc_same.nd (RZ.pi_zipA (by rfl) T.z_zip (pa_cons (pv 0) (pa_cons (pv 1) pa_nil))) (blkOk_by (own := [("_law_a", 2), ("_law_b", 3)]) (N := n_same) (sc := defScope s_same) (by decide +kernel)) (fun _ _ _ _ _ => by exact (pg_tup rfl (pgs_cons (pg_name (i := 2) sc_same.nd rfl (Or.inl rfl)) (pgs_cons (pg_name (i := 3) sc_same.nd rfl (Or.inl rfl)) pgs_nil)))) (fun _ _ _ _ _ => pts_nil) (fun _ _ _ _ _ => (pe_call G hr rfl T.m_same T.F_same.kp T.b_same .nil pass0 (pa_cons (pv 2) (pa_cons (pv 3) pa_nil))))) pa_nil))))))) pss_nil)
    (pss_cons (ps_if (PW.pt (pw_or (pt_val (pe_callB call_isi (by rfl) T.z_isinstance (by decide +kernel) (pa_cons (pv 1) (pa_cons (pe_bltn (v := .ty "bool") (by rfl) T.z_bool (by decide +kernel) rfl) pa_nil)))) (pw_or1 (pt_val (pe_callB call_isi (by rfl) T.z_isinstance (by decide +kernel) (pa_cons (pv 0) (pa_cons (pe_bltn (v := .ty "bool") (by rfl) T.z_bool (by decide +kernel) rfl) pa_nil))))))) (pss_one (ps_ret (pe_and (pe_callB call_isi (by rfl) T.z_isinstance (by decide +kernel) (pa_cons (pv 1) (pa_cons (pe_bltn (v := .ty "bool") (by rfl) T.z_bool (by decide +kernel) rfl) pa_nil))) (pe_and (pe_callB call_isi (by rfl) T.z_isinstance (by decide +kernel) (pa_cons (pv 0) (pa_cons (pe_bltn (v := .ty "bool") (by rfl) T.z_bool (by decide +kernel) rfl) pa_nil))) (pe_one (pe_cmpR op_eq (pv 0) (pv 1) (nomark _))))))) pss_nil)
    (pss_cons (ps_if (pt_val (pe_callB call_isi (by rfl) T.z_isinstance (by decide +kernel) (pa_cons (pv 1) (pa_cons (pe_bltn (v := .ty "int") (by rfl) T.z_int (by decide +kernel) rfl) pa_nil)))) (pss_one (ps_ret (pe_and (pe_callB call_isi (by rfl) T.z_isinstance (by decide +kernel) (pa_cons (pv 0) (pa_cons (pe_bltn (v := .ty "int") (by rfl) T.z_int (by decide +kernel) rfl) pa_nil))) (pe_one (pe_cmpR op_eq (pv 0) (pv 1) (nomark _)))))) pss_nil)
    (pss_one (ps_ret (pe_and (pe_callB call_isi (by rfl) T.z_isinstance (by decide +kernel) (pa_cons (pv 0) (pa_cons (pe_bltn (v := .ty "str") (by rfl) T.z_str (by decide +kernel) rfl) pa_nil))) (pe_and (pe_callB call_isi (by rfl) T.z_isinstance (by decide +kernel) (pa_cons (pv 1) (pa_cons (pe_bltn (v := .ty "str") (by rfl) T.z_str (by decide +kernel) rfl) pa_nil))) (pe_one (pe_cmpR op_eq (pv 0) (pv 1) (nomark _))))))))))), ?_⟩
  cases d with
  | none =>
    obtain rfl : x = .non := by cases hx; rfl
    obtain rfl : y = .non := by cases hy; rfl
    refine ⟨_, rfl, rfl, _, rfl, ?_⟩
    refine iteT ?_
    refine ⟨_, rfl, rfl, _, rfl, ?_⟩
    refine iteT ?_
    refine ⟨_, rfl, rfl, ?_⟩
    exact k H (Same.refl _)
  | bool b =>
    obtain rfl : x = .bl b := by cases hx; rfl
    obtain rfl : y = .bl b := by cases hy; rfl
    refine ⟨_, rfl, rfl, _, rfl, ?_⟩
    refine iteF ?_
    refine ⟨_, rfl, rfl, _, rfl, ?_⟩
    refine iteF ?_
    refine ⟨_, rfl, (by show 2 ≤ sizeLine; decide), fun tp htp => ?_⟩
    have g := same_new htp (.tup [.ty "list", .ty "tuple"])
    have hx' := Dp.mono g _ _ hx
    refine ⟨_, tp, _, _, _, _, rfl, upd_same, .cons (.ty "list") (.cons (.ty "tuple") .nil), Dp.ty hx', kit_lt _, _, rfl, ?_⟩
    refine iteF ?_
    refine ⟨_, rfl, _, .ty "bool", _, _, _, rfl, .ty "bool", Dp.ty hx', kit_d some_bool, _, rfl, ?_⟩
    rw [isBool_eq]
    refine iteT ?_
    refine ⟨_, rfl, _, .ty "bool", _, _, _, rfl, .ty "bool", Dp.ty hx', kit_d some_bool, _, rfl, ?_⟩
    rw [isBool_eq]
    refine iteT ?_
    refine ⟨_, rfl, _, .ty "bool", _, _, _, rfl, .ty "bool", Dp.ty hx', kit_d some_bool, _, rfl, ?_⟩
    rw [isBool_eq]
    refine iteT ?_
    refine ⟨_, rfl, _, rfl, rfl, ?_⟩
    rw [decide_eq_true rfl]
    exact k _ g
  | int i =>
    obtain rfl : x = .int i := by cases hx; rfl
    obtain rfl : y = .int i := by cases hy; rfl
    refine ⟨_, rfl, rfl, _, rfl, ?_⟩
    refine iteF ?_
    refine ⟨_, rfl, rfl, _, rfl, ?_⟩
    refine iteF ?_
    refine ⟨_, rfl, (by show 2 ≤ sizeLine; decide), fun tp htp => ?_⟩
    have g := same_new htp (.tup [.ty "list", .ty "tuple"])
    have hx' := Dp.mono g _ _ hx
    refine ⟨_, tp, _, _, _, _, rfl, upd_same, .cons (.ty "list") (.cons (.ty "tuple") .nil), Dp.ty hx', kit_lt _, _, rfl, ?_⟩
    refine iteF ?_
    refine ⟨_, rfl, _, .ty "bool", _, _, _, rfl, .ty "bool", Dp.ty hx', kit_d some_bool, _, rfl, ?_⟩
    rw [isBool_eq]
    refine iteF ?_
    refine ⟨_, rfl, _, .ty "bool", _, _, _, rfl, .ty "bool", Dp.ty hx', kit_d some_bool, _, rfl, ?_⟩
    rw [isBool_eq]
    refine iteF ?_
    refine ⟨_, rfl, _, .ty "int", _, _, _, rfl, .ty "int", Dp.ty hx', kit_d some_int, _, rfl, ?_⟩
    rw [isInt_eq]
    refine iteT ?_
    refine ⟨_, rfl, _, .ty "int", _, _, _, rfl, .ty "int", Dp.ty hx', kit_d some_int, _, rfl, ?_⟩
    rw [isInt_eq]
    refine iteT ?_
    refine ⟨_, rfl, _, rfl, rfl, ?_⟩
    rw [decide_eq_true rfl]
    exact k _ g
  | str z =>
    obtain rfl : x = .str z := by cases hx; rfl
    obtain rfl : y = .str z := by cases hy; rfl
    refine ⟨_, rfl, rfl, _, rfl, ?_⟩
    refine iteF ?_
    refine ⟨_, rfl, rfl, _, rfl, ?_⟩
    refine iteF ?_
    refine ⟨_, rfl, (by show 2 ≤ sizeLine; decide), fun tp htp => ?_⟩
    have g := same_new htp (.tup [.ty "list", .ty "tuple"])
    have hx' := Dp.mono g _ _ hx
    refine ⟨_, tp, _, _, _, _, rfl, upd_same, .cons (.ty "list") (.cons (.ty "tuple") .nil), Dp.ty hx', kit_lt _, _, rfl, ?_⟩
    refine iteF ?_
    refine ⟨_, rfl, _, .ty "bool", _, _, _, rfl, .ty "bool", Dp.ty hx', kit_d some_bool, _, rfl, ?_⟩
    rw [isBool_eq]
    refine iteF ?_
    refine ⟨_, rfl, _, .ty "bool", _, _, _, rfl, .ty "bool", Dp.ty hx', kit_d some_bool, _, rfl, ?_⟩
    rw [isBool_eq]
    refine iteF ?_
    refine ⟨_, rfl, _, .ty "int", _, _, _, rfl, .ty "int", Dp.ty hx', kit_d some_int, _, rfl, ?_⟩
    rw [isInt_eq]
    refine iteF ?_
    refine ⟨_, rfl, _, .ty "str", _, _, _, rfl, .ty "str", Dp.ty hx', kit_d some_str, _, rfl, ?_⟩
    rw [isStr_eq]
    refine iteT ?_
    refine ⟨_, rfl, _, .ty "str", _, _, _, rfl, .ty "str", Dp.ty hx', kit_d some_str, _, rfl, ?_⟩
    rw [isStr_eq]
    refine iteT ?_
    refine ⟨_, rfl, _, rfl, rfl, ?_⟩
    rw [decide_eq_true rfl]
    exact k _ g
  | list ds =>
    cases hx with
    | lst hsx hax =>
    cases hy with
    | lst hsy hay =>
    rename_i ax xs ay ys
    have hx : Dp K H (.ref ax) (.list ds) := .lst hsx hax
    have hy : Dp K H (.ref ay) (.list ds) := .lst hsy hay
    refine ⟨_, rfl, rfl, _, rfl, ?_⟩
    refine iteF ?_
    refine ⟨_, rfl, rfl, _, rfl, ?_⟩
    refine iteF ?_
    refine ⟨_, rfl, (by show 2 ≤ sizeLine; decide), fun tp htp => ?_⟩
    have g := same_new htp (.tup [.ty "list", .ty "tuple"])
    have hT1 : (upd H tp (.tup [.ty "list", .ty "tuple"])) tp = some (.tup [.ty "list", .ty "tuple"]) := upd_same
    generalize upd H tp (.tup [.ty "list", .ty "tuple"]) = H1 at g hT1 ⊢
    have hx' := Dp.mono g _ _ hx
    have hy' := Dp.mono g _ _ hy
    refine ⟨_, tp, _, _, _, _, rfl, hT1, .cons (.ty "list") (.cons (.ty "tuple") .nil), Dp.ty hy', kit_lt _, _, rfl, ?_⟩
    refine iteT ?_
    refine ⟨_, rfl, _, .ty "list", _, _, _, rfl, .ty "list", Dp.ty hx', kit_d some_list, _, rfl, _, .ty "list", _, _, _, rfl, .ty "list", Dp.ty hy', kit_d some_list, rfl, _, rfl, ?_⟩
    refine iteNS rfl ?_
    refine ⟨_, rfl, _, .ty "tuple", _, _, _, rfl, .ty "tuple", Dp.ty hx', kit_d some_tuple, _, rfl, _, .ty "tuple", _, _, _, rfl, .ty "tuple", Dp.ty hy', kit_d some_tuple, rfl, _, rfl, ?_⟩
    refine iteNS rfl ?_
    have lx := DpAll.len hax
    have ly := DpAll.len hay
    refine ⟨_, rfl, _, ds.length, rfl, .inl ⟨xs, Same.seq g hsx, lx.symm⟩, _, rfl, _, ds.length, rfl, .inl ⟨ys, Same.seq g hsy, ly.symm⟩, rfl, _, rfl, ?_⟩
    rw [decide_eq_true rfl]
    refine iteT ?_
    refine ⟨_, rfl, _, rfl, ax, ay, xs, ys, rfl, .inl ⟨Same.seq g hsx, Same.seq g hsy, fun D hD => ?_⟩⟩
    refine lc_it (walk_zip (xs := xs) (ys := ys) (n := ds.length) (by omega)) (fun i H2 => Same H1 H2 ∧ H2 D = some (.lst ((List.replicate i true).map V.bl))) ⟨same_new hD _, upd_same⟩ (fun i H2 _ q => ⟨Same.seq (g.trans q.1) hsx, Same.seq (g.trans q.1) hsy⟩) ?_ ?_
    · rintro i x H2 H3 hi ⟨g2, hl⟩ ⟨Tt, u, v, rfl, hT, rfl, hu, hv⟩
      obtain ⟨d1, hd1, du⟩ := DpAll.get hax hu
      obtain ⟨d2, hd2, dv⟩ := DpAll.get hay hv
      rw [hd1] at hd2
      cases hd2
      have g3 := g.trans (g2.trans (same_new hT (.tup [u, v])))
      have hfd : Fits n d1 := hf.2 d1 (List.mem_of_getElem? hd1)
      refine ⟨Tt, _, rfl, SqT.of upd_same, rfl, _, _, rfl, _, _, rfl, rfl, rfl, ?_⟩
      refine ⟨_, rfl, _, rfl, u, v, d1, rfl, Dp.mono g3 _ _ du, Dp.mono g3 _ _ dv, hfd, fun H' g4 => ?_⟩
      have hD' : H' D = some (.lst ((List.replicate i true).map V.bl)) := g4 _ _ (by rw [upd_ne (ne_of_none hl hT)]; exact hl)
      have hlen : ((List.replicate i true).map V.bl).length < sizeLine := by
        rw [List.length_map, List.length_replicate]
        exact small' (Nat.lt_trans hi hf.1)
      refine ⟨_, hD', hlen, fun b o q => ?_, ?_⟩
      · rw [upd_ne (ne_of_none q hD)]
        exact g4 _ _ (same_new hT _ _ _ (g2 b o q))
      · rw [upd_same, List.replicate_succ', List.map_append]
        rfl
    · rintro H2 ⟨g2, hl⟩
      refine ⟨D, _, rfl, SqL.of hl, ?_⟩
      have e : (List.replicate ds.length true).all id = true := by simp
      rw [e]
      exact k H2 (g.trans g2)
  | tuple ds =>
    cases hx with
    | tup hsx hax =>
    cases hy with
    | tup hsy hay =>
    rename_i ax xs ay ys
    have hx : Dp K H (.ref ax) (.tuple ds) := .tup hsx hax
    have hy : Dp K H (.ref ay) (.tuple ds) := .tup hsy hay
    refine ⟨_, rfl, rfl, _, rfl, ?_⟩
    refine iteF ?_
    refine ⟨_, rfl, rfl, _, rfl, ?_⟩
    refine iteF ?_
    refine ⟨_, rfl, (by show 2 ≤ sizeLine; decide), fun tp htp => ?_⟩
    have g := same_new htp (.tup [.ty "list", .ty "tuple"])
    have hT1 : (upd H tp (.tup [.ty "list", .ty "tuple"])) tp = some (.tup [.ty "list", .ty "tuple"]) := upd_same
    generalize upd H tp (.tup [.ty "list", .ty "tuple"]) = H1 at g hT1 ⊢
    have hx' := Dp.mono g _ _ hx
    have hy' := Dp.mono g _ _ hy
    refine ⟨_, tp, _, _, _, _, rfl, hT1, .cons (.ty "list") (.cons (.ty "tuple") .nil), Dp.ty hy', kit_lt _, _, rfl, ?_⟩
    refine iteT ?_
    refine ⟨_, rfl, _, .ty "list", _, _, _, rfl, .ty "list", Dp.ty hx', kit_d some_list, _, rfl, _, .ty "list", _, _, _, rfl, .ty "list", Dp.ty hy', kit_d some_list, rfl, _, rfl, ?_⟩
    refine iteNS rfl ?_
    refine ⟨_, rfl, _, .ty "tuple", _, _, _, rfl, .ty "tuple", Dp.ty hx', kit_d some_tuple, _, rfl, _, .ty "tuple", _, _, _, rfl, .ty "tuple", Dp.ty hy', kit_d some_tuple, rfl, _, rfl, ?_⟩
    refine iteNS rfl ?_
    have lx := DpAll.len hax
    have ly := DpAll.len hay
    refine ⟨_, rfl, _, ds.length, rfl, .inr ⟨xs, Same.tup g hsx, lx.symm⟩, _, rfl, _, ds.length, rfl, .inr ⟨ys, Same.tup g hsy, ly.symm⟩, rfl, _, rfl, ?_⟩
    rw [decide_eq_true rfl]
    refine iteT ?_
    refine ⟨_, rfl, _, rfl, ax, ay, xs, ys, rfl, .inr ⟨Same.tup g hsx, Same.tup g hsy, fun D hD => ?_⟩⟩
    refine lc_it (walk_zipT (xs := xs) (ys := ys) (n := ds.length) (by omega)) (fun i H2 => Same H1 H2 ∧ H2 D = some (.lst ((List.replicate i true).map V.bl))) ⟨same_new hD _, upd_same⟩ (fun i H2 _ q => ⟨Same.tup (g.trans q.1) hsx, Same.tup (g.trans q.1) hsy⟩) ?_ ?_
    · rintro i x H2 H3 hi ⟨g2, hl⟩ ⟨Tt, u, v, rfl, hT, rfl, hu, hv⟩
      obtain ⟨d1, hd1, du⟩ := DpAll.get hax hu
      obtain ⟨d2, hd2, dv⟩ := DpAll.get hay hv
      rw [hd1] at hd2
      cases hd2
      have g3 := g.trans (g2.trans (same_new hT (.tup [u, v])))
      have hfd : Fits n d1 := hf.2 d1 (List.mem_of_getElem? hd1)
      refine ⟨Tt, _, rfl, SqT.of upd_same, rfl, _, _, rfl, _, _, rfl, rfl, rfl, ?_⟩
      refine ⟨_, rfl, _, rfl, u, v, d1, rfl, Dp.mono g3 _ _ du, Dp.mono g3 _ _ dv, hfd, fun H' g4 => ?_⟩
      have hD' : H' D = some (.lst ((List.replicate i true).map V.bl)) := g4 _ _ (by rw [upd_ne (ne_of_none hl hT)]; exact hl)
      have hlen : ((List.replicate i true).map V.bl).length < sizeLine := by
        rw [List.length_map, List.length_replicate]
        exact small' (Nat.lt_trans hi hf.1)
      refine ⟨_, hD', hlen, fun b o q => ?_, ?_⟩
      · rw [upd_ne (ne_of_none q hD)]
        exact g4 _ _ (same_new hT _ _ _ (g2 b o q))
      · rw [upd_same, List.replicate_succ', List.map_append]
        rfl
    · rintro H2 ⟨g2, hl⟩
      refine ⟨D, _, rfl, SqL.of hl, ?_⟩
      have e : (List.replicate ds.length true).all id = true := by simp
      rw [e]
      exact k H2 (g.trans g2)
  | dict _ => cases hx
theorem ok_same (T : Top K w mg) : ∀ n : Nat, FnOk P w K mg base CX0 n T.a_same T.d_same ["_law_found", "_law_due"] (spSame K n)
  | 0 => ok_same0 T
  | n + 1 => ok_same1 T (ok_same T n)
end
end Bl

namespace Bl
open PySem L2
abbrev n_odd : List Str := ["_law_box_here", "_law_more"]
theorem sc_odd : FnScope n_odd ["_law_box_here", "_law_more"] (defScope s_odd) := ⟨rfl, rfl, rfl, by decide +kernel, rfl, by decide +kernel, by decide +kernel⟩
section
variable {P : Program} {w : World} {K : PySem.W.Frag} {mg : Str → Option Value} {base : Heap}
def oddV (t1 l1 t0 : Addr) : List V := [.non, .bl true, .bl false, .str "", .str "A", .str "a1", .str "sevenst", .int (-1), .int 7, .ref t1, .ref l1, .ref t0, .int (10 ^ 14)]
theorem DpAll.len' {K : PySem.W.Frag} {H : Hp} {ds : List PyData} {vs : List V} (h : DpAll K H vs ds) : ds.length = vs.length := (DpAll.len h).symm
theorem ok_odd (T : Top K w mg) : FnOk P w K mg base CX0 3 T.a_odd T.d_odd ["_law_box_here", "_law_more"] (spOdd K) := by
  refine T.F_odd.ok sc_odd (fun vs H Q E h => ?_) (fun cdv A outer s H vs Q E hr h => ?_)
  · obtain ⟨p, l, q, ys, ds, rfl, _⟩ := h
    rfl
  obtain ⟨p, l, q, ys, ds, rfl, B, hq, hqp, hds, hlen, k⟩ := h
  refine ⟨_, (pss_one (ps_ret (pe_call (ok_of T) (hr.mono (by decide)) rfl T.m_of T.F_of.kp T.b_of .nil pass0 (pa_cons (pv 0) (pa_cons (pe_op op_cat (pe_lst (pa_cons pe_non (pa_cons pe_bl (pa_cons pe_bl (pa_cons pe_str (pa_cons pe_str (pa_cons pe_str (pa_cons pe_str (pa_cons (pe_un un_neg pe_int) (pa_cons pe_int (pa_cons (pe_tup (pa_cons pe_int (pa_cons pe_str pa_nil))) (pa_cons (pe_lst (pa_cons pe_int pa_nil)) (pa_cons (pe_tup pa_nil) (pa_cons (pe_op op_pow pe_int pe_int) pa_nil)))))))))))))) (pv 1)) pa_nil))))), ?_⟩
  refine ⟨_, rfl, _, rfl, (by show 2 ≤ sizeLine; decide), fun t1 h1 => ⟨(by show 1 ≤ sizeLine; decide), fun l1 h2 => ⟨(by show 0 ≤ sizeLine; decide), fun t0 h3 => ?_⟩⟩⟩
  have B1 := B.new h1 (.tup [.int 1, .str "a"])
  have B2 := B1.new h2 (.lst [.int 1])
  have B3 := B2.new h3 (.tup [])
  have e1 := same_new h1 (.tup [.int 1, .str "a"])
  have e2 := same_new h2 (.lst [.int 1])
  have e3 := same_new h3 (.tup [])
  have n1 := B.ne h1
  have n2 := B1.ne h2
  have n3 := B2.ne h3
  have f1 : hide p (upd H t1 (.tup [.int 1, .str "a"])) t1 = some (.tup [.int 1, .str "a"]) := hid_same n1
  have f2 : hide p (upd (upd H t1 (.tup [.int 1, .str "a"])) l1 (.lst [.int 1])) l1 = some (.lst [.int 1]) := hid_same n2
  have f3 : hide p (upd (upd (upd H t1 (.tup [.int 1, .str "a"])) l1 (.lst [.int 1])) t0 (.tup [])) t0 = some (.tup []) := hid_same n3
  generalize (upd (upd (upd H t1 (.tup [.int 1, .str "a"])) l1 (.lst [.int 1])) t0 (.tup [])) = H3 at *
  generalize (upd (upd H t1 (.tup [.int 1, .str "a"])) l1 (.lst [.int 1])) = H2 at *
  generalize (upd H t1 (.tup [.int 1, .str "a"])) = H1 at *
  refine ⟨_, _, rfl, rfl, ⟨by decide, by decide, by decide⟩, (by show 13 ≤ sizeLine; decide), fun L hL => ?_⟩
  have e4 := same_new hL (.lst (oddV t1 l1 t0))
  have e03 := e1.trans (e2.trans e3)
  have D13 : DpAll K (hide p H3) (oddV t1 l1 t0) odds :=
    .cons .non (.cons (.bl _) (.cons (.bl _) (.cons (.str _) (.cons (.str _) (.cons (.str _) (.cons (.str _) (.cons (.int _) (.cons (.int _)
      (.cons (.tup (SqT.of (hide_mono (e2.trans e3) _ _ f1)) (.cons (.int _) (.cons (.str _) .nil)))
      (.cons (.lst (SqL.of (hide_mono e3 _ _ f2)) (.cons (.int _) .nil))
      (.cons (.tup (SqT.of f3) .nil) (.cons (.int _) .nil))))))))))))
  have Dall := DpAll.app D13 (DpAll.mono (hide_mono e03) _ _ hds)
  have ly := DpAll.len hds
  refine ⟨_, rfl, L, q, _, ys, rfl, rfl, (upd_same : (upd H3 L (.lst (oddV t1 l1 t0))) L = _), e4 _ _ (e03 _ _ hq), (by show 13 + ys.length ≤ sizeLine; exact small (by omega)), fun M hM => ?_⟩
  have hM' : (upd H3 L (.lst (oddV t1 l1 t0))) M = none := hM
  have B4 := B3.new hL (.lst (oddV t1 l1 t0))
  have nM := B4.ne hM'
  have e5 : Same H3 (upd (upd H3 L (.lst (oddV t1 l1 t0))) M (.lst (oddV t1 l1 t0 ++ ys))) := e4.trans (same_new hM' _)
  refine ⟨p, l, .ref M, rfl, B4.new hM' (.lst (oddV t1 l1 t0 ++ ys)), .inl ⟨M, _, rfl, .inl (SqL.of (hid_same nM)), (by rw [List.length_append]; exact Nat.lt_of_lt_of_le (by decide : 0 < 13) (Nat.le_add_right _ _)), (by rw [List.length_append]; show 13 + ys.length < 1000000; omega), fun i x H' hx B' e => ?_⟩⟩
  obtain ⟨d, hd, hxd⟩ := DpAll.get Dall hx
  exact k x d H' (List.mem_of_getElem? hd) (Dp.mono e _ _ (Dp.mono (hide_mono e5) _ _ hxd)) B' ((hide_mono (e03.trans e5)).trans e)
end
end Bl

namespace Bl
open PySem L2
abbrev n_is_name : List Str := ["value", "letter"]
theorem sc_is_name : FnScope n_is_name ["value"] (defScope s_is_name) := ⟨rfl, rfl, rfl, by decide +kernel, rfl, by decide +kernel, by decide +kernel⟩
section
variable {P : Program} {w : World} {K : PySem.W.Frag} {mg : Str → Option Value} {base : Heap}
theorem ok_is_name (T : Top K w mg) : FnOk P w K mg base CX0 1 T.a_is_name T.d_is_name ["value"] (spIsName K) := by
  refine T.F_is_name.ok sc_is_name (fun vs H Q E h => ?_) (fun cdv A outer s H vs Q E hr h => ?_)
  · obtain ⟨v, d, rfl, _⟩ := h
    rfl
  obtain ⟨v, d, rfl, hd, hz, k⟩ := h
  refine ⟨_, (pss_cons (ps_if (PW.pt (pw_or (pt_not (pt_val (pe_callB call_isi (by rfl) T.z_isinstance (by decide +kernel) (pa_cons (pv 0) (pa_cons (pe_bltn (v := .ty "str") (by rfl) T.z_str (by decide +kernel) rfl) pa_nil))))) (pw_or1 (pt_not (pt_chain op_le op_le pe_int (pe_callB call_len_str (by rfl) T.z_len (by decide +kernel) (pa_cons (pv 0) pa_nil)) (pe_glob rfl T.c_LONGEST_NAME T.r_LONGEST_NAME)))))) (pss_one (ps_ret pe_bl)) pss_nil)
    (pss_one (ps_ret (pe_callB (cr_all rfl) (by rfl) T.z_all (by decide +kernel) (pa_cons (pe_lc (own := [("letter", 1)]) (g := gName 1) (tt := tYes) rfl sc_is_name.nd (pi_str (pv 0)) (blkOk_by (own := [("letter", 1)]) (N := n_is_name) (sc := defScope s_is_name) (by decide +kernel)) (fun _ _ _ _ _ => (pg_name (i := 1) sc_is_name.nd rfl (Or.inl rfl))) (fun _ _ _ _ _ => pts_nil) (fun _ _ _ _ _ => (pe_cmpR op_in_sign (pv 1) (pe_glob rfl T.c_LETTERS T.r_LETTERS) rfl))) pa_nil))))), ?_⟩
  refine ⟨_, rfl, v, .ty "str", _, _, _, rfl, .ty "str", Dp.ty hd, kit_d some_str, _, rfl, ?_⟩
  rw [isStr_eq]
  cases d with
  | str z =>
    obtain rfl : v = .str z := by cases hd; rfl
    have hz1 := hz z rfl
    refine iteF ?_
    refine ⟨_, rfl, z, rfl, small (by omega), _, _, rfl, rfl, _, rfl, ?_⟩
    refine ite2 (fun h1 => ?_) (fun h1 => ?_)
    · refine ⟨_, _, rfl, rfl, _, rfl, ?_⟩
      have h1' : 1 ≤ z.length := by have := of_decide_eq_true h1; omega
      by_cases h2 : z.length ≤ 6
      · rw [decide_eq_true (show (z.length : Int) ≤ 6 by omega)]
        refine iteF ?_
        refine ⟨_, rfl, z, rfl, fun D hD => ?_⟩
        refine lc_it (walk_str (z := z)) (fun i H2 => Same H H2 ∧ H2 D = some (.lst (((z.cps.toList.take i).map (fun c => decide (c ∈ alpha))).map V.bl))) ⟨same_new hD _, upd_same⟩ (fun _ _ _ _ => True.intro) ?_ ?_
        · rintro i x H2 H3 hi ⟨g, hl⟩ ⟨rfl, c, hc, rfl⟩
          have hc2 : z.cps.toList[i]? = some c := by rw [Array.getElem?_toList]; exact hc
          have hlen : (((z.cps.toList.take i).map (fun c => decide (c ∈ alpha))).map V.bl).length < sizeLine := by
            rw [List.length_map, List.length_map, List.length_take]
            have h3 : z.cps.size ≤ 6 := h2
            exact small' (by omega)
          refine ⟨rfl, _, rfl, c, _, rfl, rfl, _, hl, hlen, fun b o q => ?_, ?_⟩
          · rw [upd_ne (ne_of_none q hD)]
            exact g b o q
          · rw [upd_same, alpha_eq, List.take_add_one, hc2]
            simp
        · rintro H2 ⟨g, hl⟩
          refine ⟨D, _, rfl, SqL.of hl, ?_⟩
          have e : (((z.cps.toList.take z.cps.size).map (fun c => decide (c ∈ alpha))).all id) = nameD (.str z) := by
            show _ = (decide (1 ≤ z.length) && decide (z.length ≤ 6) && z.cps.toList.all (fun c => decide (c ∈ alpha)))
            rw [decide_eq_true h1', decide_eq_true h2, Bool.true_and, Bool.true_and, List.take_of_length_le (by rw [Array.length_toList]; exact Nat.le_refl _), List.all_map]
            rfl
          rw [e]
          exact k H2 g
      · rw [decide_eq_false (show ¬ (z.length : Int) ≤ 6 by omega)]
        refine iteT ?_
        have e : nameD (.str z) = false := by
          show (decide (1 ≤ z.length) && decide (z.length ≤ 6) && _) = false
          rw [decide_eq_false h2, Bool.and_false, Bool.false_and]
        rw [← e]
        exact k H (Same.refl _)
    · refine ⟨_, rfl, ?_⟩
      refine iteT ?_
      have e : nameD (.str z) = false := by
        show (decide (1 ≤ z.length) && _ && _) = false
        rw [decide_eq_false (by intro q; exact h1 (decide_eq_true (by omega))), Bool.false_and, Bool.false_and]
      rw [← e]
      exact k H (Same.refl _)
  | _ => exact iteT (k H (Same.refl _))
end
end Bl

namespace Bl
open PySem L2
open SX (S)
abbrev n_is_column : List Str := ["value", "parts", "part"]
theorem sc_is_column : FnScope n_is_column ["value"] (defScope s_is_column) := ⟨rfl, rfl, rfl, by decide +kernel, rfl, by decide +kernel, by decide +kernel⟩
abbrev n_is_test_within : List Str := ["value", "deepest", "head", "rest", "part"]
theorem sc_is_test_within : FnScope n_is_test_within ["value", "deepest"] (defScope s_is_test_within) := ⟨rfl, rfl, rfl, by decide +kernel, rfl, by decide +kernel, by decide +kernel⟩
abbrev n_is_test : List Str := ["value"]
theorem sc_is_test : FnScope n_is_test ["value"] (defScope s_is_test) := ⟨rfl, rfl, rfl, by decide +kernel, rfl, by decide +kernel, by decide +kernel⟩
section
variable {P : Program} {w : World} {K : PySem.W.Frag} {mg : Str → Option Value} {base : Heap}
theorem at0 {x : V} {xs : List V} : atI (x :: xs) 0 = some x := atI_nat (show (x :: xs)[0]? = some x from rfl)
theorem at1 {x y : V} {xs : List V} : atI (x :: y :: xs) 1 = some y := atI_nat (show (x :: y :: xs)[1]? = some y from rfl)
def spTest (K : PySem.W.Frag) : Sp := fun vs H Q _ => ∃ (v : V) (d : PyData), vs = [v] ∧ Dp K H v d ∧ Sm 7 d ∧ ∀ H', Same H H' → Q (.bl (isT 6 d)) H'
theorem ok_is_column (T : Top K w mg) : FnOk P w K mg base CX0 2 T.a_is_column T.d_is_column ["value"] (spIsCol K) := by
  refine T.F_is_column.ok sc_is_column (fun vs H Q E h => ?_) (fun cdv A outer s H vs Q E hr h => ?_)
  · obtain ⟨v, d, rfl, _⟩ := h
    rfl
  obtain ⟨v, d, rfl, hd, hz, k⟩ := h
  refine ⟨_, (pss_cons (ps_if (pt_not (pt_val (pe_callB call_isi (by rfl) T.z_isinstance (by decide +kernel) (pa_cons (pv 0) (pa_cons (pe_bltn (v := .ty "str") (by rfl) T.z_str (by decide +kernel) rfl) pa_nil))))) (pss_one (ps_ret pe_bl)) pss_nil)
    (pss_cons (ps_set (i := 1) sc_is_column.nd rfl (Or.inl rfl) (pe_split (pv 0) pe_str))
    (pss_one (ps_ret (pe_and (pe_cmpR op_le (pe_callB call_len_seq (by rfl) T.z_len (by decide +kernel) (pa_cons (pv 1) pa_nil)) pe_int (nomark _)) (pe_one (pe_callB (cr_all rfl) (by rfl) T.z_all (by decide +kernel) (pa_cons (pe_lc (own := [("part", 2)]) (g := gName 2) (tt := tYes) rfl sc_is_column.nd (pi_list (pv 1)) (blkOk_by (own := [("part", 2)]) (N := n_is_column) (sc := defScope s_is_column) (by decide +kernel)) (fun _ _ _ _ _ => (pg_name (i := 2) sc_is_column.nd rfl (Or.inl rfl))) (fun _ _ _ _ _ => pts_nil) (fun _ _ _ _ _ => (pe_call (ok_is_name T) (hr.mono (by decide)) rfl T.m_is_name T.F_is_name.kp T.b_is_name .nil pass0 (pa_cons (pv 2) pa_nil)))) pa_nil)))))))), ?_⟩
  refine ⟨_, rfl, v, .ty "str", _, _, _, rfl, .ty "str", Dp.ty hd, kit_d some_str, _, rfl, ?_⟩
  rw [isStr_eq]
  cases d with
  | str z =>
    obtain rfl : v = .str z := by cases hd; rfl
    have hz1 := hz z rfl
    refine iteF ?_
    refine ⟨_, rfl, ⟨_, rfl⟩, _, _, rfl, rfl, (by decide +kernel), small (by omega), fun p hp => ?_⟩
    have g := same_new hp (.lst ((Txt.split z ".").map V.str))
    have hp1 : (upd H p (.lst ((Txt.split z ".").map V.str))) p = some (.lst ((Txt.split z ".").map V.str)) := upd_same
    have e1 : colD (.str z) = (decide ((Txt.split z ".").length ≤ 2) && (Txt.split z ".").all nameB) := rfl
    refine ⟨_, rfl, p, _, rfl, .inl (SqL.of hp1), _, _, rfl, rfl, _, rfl, ?_⟩
    rw [List.length_map]
    refine ite2 (fun h2 => ?_) (fun h2 => ?_)
    · have h2' : (Txt.split z ".").length ≤ 2 := by
        have := of_decide_eq_true h2
        omega
      refine ⟨_, rfl, p, rfl, ⟨_, SqL.of hp1⟩, fun D hD => ?_⟩
      refine lc_list (K := K) (a := p) (xs := (Txt.split z ".").map V.str) (fun i H2 => Same (upd H p (.lst ((Txt.split z ".").map V.str))) H2 ∧ H2 D = some (.lst ((((Txt.split z ".").take i).map nameB).map V.bl)))
        ⟨same_new hD _, upd_same⟩ (fun i H2 _ q => q.1.seq (SqL.of hp1)) ?_ ?_
      · rintro i x H2 hx ⟨g2, hl⟩
        obtain ⟨y, hy, rfl⟩ : ∃ y, (Txt.split z ".")[i]? = some y ∧ x = .str y := by
          rw [List.getElem?_map] at hx
          cases e : (Txt.split z ".")[i]? with
          | none => rw [e] at hx; cases hx
          | some y => rw [e] at hx; exact ⟨y, rfl, (Option.some.inj hx).symm⟩
        have hyl := split_len (List.mem_of_getElem? hy)
        refine ⟨rfl, _, rfl, .str y, .str y, rfl, .str _, (fun u e => by cases e; omega), fun H3 g3 => ⟨_, g3 _ _ hl, ?_, Same.mut (g2.trans g3) hD _, ?_⟩⟩
        · rw [List.length_map, List.length_map, List.length_take]
          exact small' (by omega)
        · rw [upd_same, List.take_add_one, hy, List.map_append, List.map_append]
          rfl
      · rintro H2 ⟨g2, hl⟩
        refine ⟨D, _, rfl, SqL.of hl, ?_⟩
        have e : ((((Txt.split z ".").take ((Txt.split z ".").map V.str).length).map nameB).all id) = colD (.str z) := by
          rw [e1, decide_eq_true h2', Bool.true_and, List.length_map, List.take_of_length_le (Nat.le_refl _), List.all_map]
          rfl
        rw [e]
        exact k H2 (g.trans g2)
    · have q := k _ g
      rw [e1, decide_eq_false (by intro h; exact h2 (decide_eq_true (by omega))), Bool.false_and] at q
      exact q
  | _ => exact iteT (k H (Same.refl _))
theorem ok_within0 (T : Top K w mg) : FnOk P w K mg base CX0 2 T.a_is_test_within T.d_is_test_within ["value", "deepest"] (spIsT K 0) := by
  have no : ∀ vs H Q E, ¬ spIsT K 0 vs H Q E := fun vs H Q E h => by
    obtain ⟨v, d, m, _, h1, _⟩ := h
    omega
  exact ⟨fun vs H Q E h => absurd h (no vs H Q E), fun A outer s H args us vs Q E _ _ _ _ h => absurd h (no vs H Q E)⟩
theorem ok_within1 (T : Top K w mg) {n : Nat} (G : FnOk P w K mg base CX0 (n + 2) T.a_is_test_within T.d_is_test_within ["value", "deepest"] (spIsT K n)) : FnOk P w K mg base CX0 (n + 3) T.a_is_test_within T.d_is_test_within ["value", "deepest"] (spIsT K (n + 1)) := by
  refine T.F_is_test_within.ok sc_is_test_within (fun vs H Q E h => ?_) (fun cdv A outer s H vs Q E hr h => ?_)
  · obtain ⟨v, d, m, rfl, _⟩ := h
    rfl
  obtain ⟨v, d, m, rfl, hm, hd, hs, k⟩ := h
  refine ⟨_, (pss_cons (ps_if (PW.pt (pw_or (pt_cmpR op_eq (pv 1) pe_int (nomark _)) (pw_or (pt_not (pt_val (pe_callB call_isi (by rfl) T.z_isinstance (by decide +kernel) (pa_cons (pv 0) (pa_cons (pe_bltn (v := .ty "tuple") (by rfl) T.z_tuple (by decide +kernel) rfl) pa_nil))))) (pw_or1 (pt_cmpR op_eq (pe_callB call_len_seq (by rfl) T.z_len (by decide +kernel) (pa_cons (pv 0) pa_nil)) pe_int (nomark _)))))) (pss_one (ps_ret pe_bl)) pss_nil)
    (pss_cons (ps_asg (pv 0) (pg_star1 rfl (pg_name (i := 2) sc_is_test_within.nd rfl (Or.inl rfl)) (pg_name (i := 3) sc_is_test_within.nd rfl (Or.inl rfl))))
    (pss_cons (ps_if (pt_not (pt_val (pe_callB call_isi (by rfl) T.z_isinstance (by decide +kernel) (pa_cons (pv 2) (pa_cons (pe_bltn (v := .ty "str") (by rfl) T.z_str (by decide +kernel) rfl) pa_nil))))) (pss_one (ps_ret pe_bl)) pss_nil)
    (pss_cons (ps_if (pt_cmpR (op_in_parts (T.q_PARTS (fun _ => none))) (pv 2) (pe_glob rfl T.c_PARTS T.r_PARTS) rfl) (pss_one (ps_ret (pe_and (pe_cmpR op_eq (pe_callB call_len_seq (by rfl) T.z_len (by decide +kernel) (pa_cons (pv 3) pa_nil)) (pe_ix (ix_parts (T.q_PARTS (fun _ => none))) (pe_glob rfl T.c_PARTS T.r_PARTS) (pv 2) (fun _ _ => rfl)) (nomark _)) (pe_one (pe_callB (cr_all rfl) (by rfl) T.z_all (by decide +kernel) (pa_cons (pe_lc (own := [("part", 4)]) (g := gName 4) (tt := tYes) rfl sc_is_test_within.nd (pi_list (pv 3)) (blkOk_by (own := [("part", 4)]) (N := n_is_test_within) (sc := defScope s_is_test_within) (by decide +kernel)) (fun _ _ _ _ _ => (pg_name (i := 4) sc_is_test_within.nd rfl (Or.inl rfl))) (fun _ _ _ _ _ => pts_nil) (fun _ _ _ _ _ => (pe_call G hr rfl T.m_is_test_within T.F_is_test_within.kp T.b_is_test_within .nil pass0 (pa_cons (pv 4) (pa_cons (pe_op op_sub (pv 1) pe_int) pa_nil))))) pa_nil)))))) pss_nil)
    (pss_cons (ps_if (pt_cmpR op_eq (pv 2) pe_str (nomark _)) (pss_one (ps_ret (pe_and (pe_cmpR op_eq (pe_callB call_len_seq (by rfl) T.z_len (by decide +kernel) (pa_cons (pv 3) pa_nil)) pe_int (nomark _)) (pe_one (pe_call (ok_is_name T) (hr.mono (by omega)) rfl T.m_is_name T.F_is_name.kp T.b_is_name .nil pass0 (pa_cons (pe_ix ix_list (pv 3) pe_int (fun _ _ => rfl)) pa_nil)))))) pss_nil)
    (pss_one (ps_ret (pe_and (pe_cmpR op_eq (pv 2) pe_str (nomark _)) (pe_and (pe_cmpR op_eq (pe_callB call_len_seq (by rfl) T.z_len (by decide +kernel) (pa_cons (pv 3) pa_nil)) pe_int (nomark _)) (pe_and (pe_call (ok_is_column T) (hr.mono (by omega)) rfl T.m_is_column T.F_is_column.kp T.b_is_column .nil pass0 (pa_cons (pe_ix ix_list (pv 3) pe_int (fun _ _ => rfl)) pa_nil)) (pe_one (pe_call (ok_is_name T) (hr.mono (by omega)) rfl T.m_is_name T.F_is_name.kp T.b_is_name .nil pass0 (pa_cons (pe_ix ix_list (pv 3) pe_int (fun _ _ => rfl)) pa_nil))))))))))))), ?_⟩
  refine ⟨_, rfl, rfl, _, rfl, ?_⟩
  cases m with
  | zero => exact iteTk (decide_eq_true rfl) (k H (Same.refl _))
  | succ j =>
  refine iteFk (decide_eq_false (fun h => by have := V.int.inj h; omega)) ?_
  refine ⟨_, rfl, v, .ty "tuple", _, _, _, rfl, .ty "tuple", Dp.ty hd, kit_d some_tuple, _, rfl, ?_⟩
  rw [isTuple_eq]
  cases d with
  | tuple ds =>
    refine iteF ?_
    cases hd with
    | tup hsq ha =>
    rename_i a xs
    refine ⟨_, rfl, a, xs, rfl, .inr hsq, rfl, _, rfl, ?_⟩
    cases ha with
    | nil => exact iteTk (decide_eq_true rfl) (k H (Same.refl _))
    | cons hx hr' =>
    rename_i x xr d0 rest
    refine iteFk (decide_eq_false (fun h => by have := V.int.inj h; rw [List.length_cons] at this; omega)) ?_
    have hsl : (d0 :: rest).length ≤ 1000 ∧ ∀ d ∈ d0 :: rest, Sm (j + 1) d := hs
    refine ⟨_, rfl, a, x, xr, rfl, hsq, fun p hp => ?_⟩
    have g := same_new hp (.lst xr)
    have hp1 : (upd H p (.lst xr)) p = some (.lst xr) := upd_same
    have hx1 := Dp.mono g _ _ hx
    have hr1 := DpAll.mono g _ _ hr'
    have lr := DpAll.len hr'
    have lr2 : rest.length ≤ 999 := by
      have := hsl.1
      rw [List.length_cons] at this
      omega
    refine ⟨_, rfl, x, .ty "str", _, _, _, rfl, .ty "str", Dp.ty hx1, kit_d some_str, _, rfl, ?_⟩
    rw [isStr_eq]
    generalize upd H p (.lst xr) = H1 at *
    cases d0 with
    | str h =>
      obtain rfl : x = .str h := by cases hx1; rfl
      refine iteF ?_
      refine ⟨_, rfl, h, rfl, rfl, _, rfl, ?_⟩
      cases e : partsN h with
      | some kk =>
        refine iteT ?_
        rw [isT_parts j rest e] at k
        refine ⟨_, rfl, p, xr, rfl, .inl (SqL.of hp1), _, rfl, h, kk, rfl, rfl, e, rfl, _, rfl, ?_⟩
        refine ite2 (fun h2 => ?_) (fun h2 => ?_)
        · have h2' : rest.length = kk := by
            have := V.int.inj (of_decide_eq_true h2)
            omega
          rw [decide_eq_true h2', Bool.true_and] at k
          refine ⟨_, rfl, p, rfl, ⟨_, SqL.of hp1⟩, fun D hD => ?_⟩
          refine lc_list (K := K) (a := p) (xs := xr) (fun i H2 => Same H1 H2 ∧ H2 D = some (.lst (((rest.take i).map (isT j)).map V.bl)))
            ⟨same_new hD _, upd_same⟩ (fun i H2 _ q => q.1.seq (SqL.of hp1)) ?_ ?_
          · rintro i y H2 hy ⟨g2, hl⟩
            obtain ⟨dy, hdy, hyd⟩ := DpAll.get hr1 hy
            have hmem : dy ∈ rest := List.mem_of_getElem? hdy
            refine ⟨rfl, _, rfl, _, rfl, _, _, rfl, rfl, y, dy, j, ?_, by omega, Dp.mono g2 _ _ hyd, hsl.2 dy (List.mem_cons_of_mem _ hmem), fun H3 g3 => ⟨_, g3 _ _ hl, ?_, Same.mut (g2.trans g3) hD _, ?_⟩⟩
            · show [y, V.int (((j + 1 : Nat) : Int) - 1)] = _
              rw [show (((j + 1 : Nat) : Int) - 1) = (j : Int) by omega]
            · rw [List.length_map, List.length_map, List.length_take]
              exact small' (by omega)
            · rw [upd_same, List.take_add_one, hdy, List.map_append, List.map_append]
              rfl
          · rintro H2 ⟨g2, hl⟩
            refine ⟨D, _, rfl, SqL.of hl, ?_⟩
            have e2 : (((rest.take xr.length).map (isT j)).all id) = rest.all (isT j) := by
              rw [lr, List.take_of_length_le (Nat.le_refl _), List.all_map]
              rfl
            rw [e2]
            exact k H2 (g.trans g2)
        · have q := k H1 g
          rw [decide_eq_false (by intro h; exact h2 (decide_eq_true (by rw [lr, h]))), Bool.false_and] at q
          exact q
      | none =>
        refine iteF ?_
        rw [isT_leaf j rest e] at k
        refine ⟨_, rfl, rfl, _, rfl, ?_⟩
        refine ite2 (fun hhas => ?_) (fun hhas => ?_)
        · have hh : h = "has" := V.str.inj (of_decide_eq_true hhas)
          have el : leafB h rest = (decide (rest.length = 1) && atD nameD rest 0) := by
            unfold leafB
            rw [if_pos hh]
          rw [el] at k
          refine ⟨_, rfl, p, xr, rfl, .inl (SqL.of hp1), rfl, _, rfl, ?_⟩
          refine ite2 (fun h2 => ?_) (fun h2 => ?_)
          · have h2' : rest.length = 1 := by
              have := V.int.inj (of_decide_eq_true h2)
              omega
            rw [decide_eq_true h2', Bool.true_and] at k
            cases hr1 with
            | nil => cases h2'
            | cons hy hz =>
            rename_i y ys dy dz
            refine ⟨_, rfl, p, _, _, _, rfl, rfl, SqL.of hp1, at0, y, dy, rfl, hy, (fun z e => ?_), fun H3 g3 => k H3 (g.trans g3)⟩
            subst e
            exact hsl.2 _ (List.mem_cons_of_mem _ List.mem_cons_self)
          · have q := k H1 g
            rw [decide_eq_false (by intro h; exact h2 (decide_eq_true (by rw [lr, h]; rfl))), Bool.false_and] at q
            exact q
        · have hh : ¬ h = "has" := fun e => hhas (decide_eq_true (by rw [e]))
          have el : leafB h rest = (decide (h = "is") && (decide (rest.length = 2) && (atD colD rest 0 && atD nameD rest 1))) := by
            unfold leafB
            rw [if_neg hh]
          rw [el] at k
          refine ⟨_, rfl, rfl, _, rfl, ?_⟩
          refine ite2 (fun h1 => ?_) (fun h1 => ?_)
          · have hi : h = "is" := V.str.inj (of_decide_eq_true h1)
            rw [decide_eq_true hi, Bool.true_and] at k
            refine ⟨_, rfl, p, xr, rfl, .inl (SqL.of hp1), rfl, _, rfl, ?_⟩
            refine ite2 (fun h2 => ?_) (fun h2 => ?_)
            · have h2' : rest.length = 2 := by
                have := V.int.inj (of_decide_eq_true h2)
                omega
              rw [decide_eq_true h2', Bool.true_and] at k
              cases hr1 with
              | nil => cases h2'
              | cons hy hz =>
              cases hz with
              | nil => cases h2'
              | cons hz hzz =>
              rename_i y dy z zs dz dzs
              refine ⟨_, rfl, p, _, _, _, rfl, rfl, SqL.of hp1, at0, y, dy, rfl, hy, (fun z e => ?_), fun H3 g3 => ?_⟩
              · subst e
                exact hsl.2 _ (List.mem_cons_of_mem _ List.mem_cons_self)
              refine ⟨_, rfl, ?_⟩
              refine ite2 (fun h3 => ?_) (fun h3 => ?_)
              · have e3 : atD colD (dy :: dz :: dzs) 0 = true := h3
                rw [e3, Bool.true_and] at k
                refine ⟨_, rfl, p, _, _, _, rfl, rfl, SqL.of (g3 _ _ hp1), at1, z, dz, rfl, Dp.mono g3 _ _ hz, (fun z e => ?_), fun H4 g4 => k H4 (g.trans (g3.trans g4))⟩
                subst e
                exact hsl.2 _ (List.mem_cons_of_mem _ (List.mem_cons_of_mem _ List.mem_cons_self))
              · have e3 : atD colD (dy :: dz :: dzs) 0 = false := Bool.eq_false_iff.mpr h3
                rw [e3, Bool.false_and] at k
                exact k H3 (g.trans g3)
            · have q := k H1 g
              rw [decide_eq_false (by intro h; exact h2 (decide_eq_true (by rw [lr, h]; rfl))), Bool.false_and] at q
              exact q
          · have q := k H1 g
            rw [decide_eq_false (by intro h; exact h1 (decide_eq_true (by rw [h]))), Bool.false_and] at q
            exact q
    | _ => exact iteT (k H1 g)
  | _ => exact iteT (k H (Same.refl _))
theorem ok_within (T : Top K w mg) : ∀ n : Nat, FnOk P w K mg base CX0 (n + 2) T.a_is_test_within T.d_is_test_within ["value", "deepest"] (spIsT K n)
  | 0 => ok_within0 T
  | n + 1 => ok_within1 T (ok_within T n)
theorem ok_is_test (T : Top K w mg) : FnOk P w K mg base CX0 10 T.a_is_test T.d_is_test ["value"] (spTest K) := by
  refine T.F_is_test.ok sc_is_test (fun vs H Q E h => ?_) (fun cdv A outer s H vs Q E hr h => ?_)
  · obtain ⟨v, d, rfl, _⟩ := h
    rfl
  obtain ⟨v, d, rfl, hd, hs, k⟩ := h
  refine ⟨_, (pss_one (ps_ret (pe_call (ok_within T 7) (hr.mono (by decide)) rfl T.m_is_test_within T.F_is_test_within.kp T.b_is_test_within .nil pass0 (pa_cons (pv 0) (pa_cons (pe_glob rfl T.c_DEEPEST T.r_DEEPEST) pa_nil))))), ?_⟩
  exact ⟨_, rfl, v, d, 6, rfl, by decide, hd, hs, k⟩
end
end Bl

namespace Bl
open PySem L2
open SX (S)
abbrev n_test_text : List Str := ["test", "part"]
theorem sc_test_text : FnScope n_test_text ["test"] (defScope s_test_text) := ⟨rfl, rfl, rfl, by decide +kernel, rfl, by decide +kernel, by decide +kernel⟩
theorem sp_eq : (" " : Str) = S [32] := by decide +kernel
theorem is_eq : ("is" : Str) = S kIs := by decide +kernel
theorem has_eq : ("has" : Str) = S kHas := by decide +kernel
theorem not_eq : ("not" : Str) = S kNot := by decide +kernel
theorem two_eq (o : Bool) : twoS o = S (kTwo o) := by cases o <;> decide +kernel
section
variable {P : Program} {w : World} {K : PySem.W.Frag} {mg : Str → Option Value} {base : Heap}
theorem ok_text0 (T : Top K w mg) : FnOk P w K mg base CX0 1 T.a_test_text T.d_test_text ["test"] (spText K 0) := by
  have no : ∀ vs H Q E, ¬ spText K 0 vs H Q E := fun vs H Q E h => by
    obtain ⟨v, t, _, _, _, h1, _⟩ := h
    have := t.deep_pos
    omega
  exact ⟨fun vs H Q E h => absurd h (no vs H Q E), fun A outer s H args us vs Q E _ _ _ _ h => absurd h (no vs H Q E)⟩
theorem ok_text1 (T : Top K w mg) {n : Nat} (G : FnOk P w K mg base CX0 (n + 1) T.a_test_text T.d_test_text ["test"] (spText K n)) : FnOk P w K mg base CX0 (n + 2) T.a_test_text T.d_test_text ["test"] (spText K (n + 1)) := by
  refine T.F_test_text.ok sc_test_text (fun vs H Q E h => ?_) (fun cdv A outer s H vs Q E hr h => ?_)
  · obtain ⟨v, t, rfl, _⟩ := h
    rfl
  obtain ⟨v, t, rfl, hv, hg, hn, h10, k⟩ := h
  have tl := txt_len hg
  have p10 : 2 ^ t.deep ≤ 2 ^ 10 := Nat.pow_le_pow_right (by decide) h10
  refine ⟨_, (pss_cons (ps_if (pt_cmpR (op_in_parts (T.q_PARTS (fun _ => none))) (pe_ix ix_tup (pv 0) pe_int (fun _ _ => rfl)) (pe_glob rfl T.c_PARTS T.r_PARTS) rfl) (pss_one (ps_ret (pe_join pe_str (pe_op op_cat (pe_lst (pa_cons (pe_ix ix_tup (pv 0) pe_int (fun _ _ => rfl)) pa_nil)) (pe_lc (own := [("part", 1)]) (g := gName 1) (tt := tYes) rfl sc_test_text.nd (pi_tup (pe_slice sl_tupA (pv 0) (po_some pe_int) po_none)) (blkOk_by (own := [("part", 1)]) (N := n_test_text) (sc := defScope s_test_text) (by decide +kernel)) (fun _ _ _ _ _ => (pg_name (i := 1) sc_test_text.nd rfl (Or.inl rfl))) (fun _ _ _ _ _ => pts_nil) (fun _ _ _ _ _ => (pe_call G hr rfl T.m_test_text T.F_test_text.kp T.b_test_text .nil pass0 (pa_cons (pv 1) pa_nil)))))))) pss_nil)
    (pss_one (ps_ret (pe_join pe_str (pv 0))))), ?_⟩
  cases t with
  | is c g =>
    obtain ⟨a, x, y, z, rfl, hs, hx, hy, hz⟩ := Dp.tup3 hv
    obtain rfl := Dp.str1 hx
    obtain rfl := Dp.str1 hy
    obtain rfl := Dp.str1 hz
    refine ⟨_, rfl, a, _, _, _, rfl, rfl, hs, rfl, _, rfl, rfl, _, rfl, ?_⟩
    refine iteFk (by decide +kernel) ?_
    refine ⟨⟨_, rfl⟩, _, rfl, _, a, [("is" : Str), S c, S g], rfl, rfl, .inr hs, ?_, ?_⟩
    · show (2 + ((S c).length + ((S g).length + 0))) + 3 * 1 ≤ 16777216
      obtain ⟨h1, h2⟩ := Bool.and_eq_true_iff.mp hg
      have := col_len h1
      have := name_len h2
      rw [SX.S_len, SX.S_len]
      omega
    · rw [sp_eq, is_eq, show [S kIs, S c, S g] = [kIs, c, g].map S from rfl, SX.join_S]
      exact k H (Same.refl _)
  | has g =>
    obtain ⟨a, x, y, rfl, hs, hx, hy⟩ := Dp.tup2 hv
    obtain rfl := Dp.str1 hx
    obtain rfl := Dp.str1 hy
    refine ⟨_, rfl, a, _, _, _, rfl, rfl, hs, rfl, _, rfl, rfl, _, rfl, ?_⟩
    refine iteFk (by decide +kernel) ?_
    refine ⟨⟨_, rfl⟩, _, rfl, _, a, [("has" : Str), S g], rfl, rfl, .inr hs, ?_, ?_⟩
    · show (3 + ((S g).length + 0)) + 2 * 1 ≤ 16777216
      have := name_len hg
      rw [SX.S_len]
      omega
    · rw [sp_eq, has_eq, show [S kHas, S g] = [kHas, g].map S from rfl, SX.join_S]
      exact k H (Same.refl _)
  | neg t =>
    obtain ⟨a, x, y, rfl, hs, hx, hy⟩ := Dp.tup2 hv
    obtain rfl := Dp.str1 hx
    have hn' : t.deep + 1 ≤ n + 1 := hn
    have h10' : t.deep + 1 ≤ 10 := h10
    have tl1 := txt_len (t := t) hg
    refine ⟨_, rfl, a, _, _, _, rfl, rfl, hs, rfl, _, rfl, rfl, _, rfl, ?_⟩
    refine iteTk (by decide +kernel) ?_
    refine ⟨⟨_, rfl⟩, _, rfl, a, _, _, _, rfl, rfl, hs, rfl, (by show 1 ≤ sizeLine; decide), fun l1 hl1 => ?_⟩
    have g0 := same_new hl1 (.lst [.str "not"])
    refine ⟨_, rfl, _, rfl, a, _, rfl, Same.tup g0 hs, fun h => absurd h.1 (by show ¬ (1 : Nat) = 0; decide), fun _ b hb => ?_⟩
    have g1 := same_new hb (.tup [y])
    refine ⟨b, rfl, ⟨_, SqT.of upd_same⟩, fun D hD => ?_⟩
    refine lc_tup (K := K) (a := b) (xs := [y]) (fun i Hx => Same (upd (upd H l1 (.lst [.str "not"])) b (.tup [y])) Hx ∧ Hx D = some (.lst (([S t.txt].take i).map V.str))) ⟨same_new hD _, upd_same⟩ (fun i Hx _ q => Same.tup q.1 (SqT.of upd_same)) ?_ ?_
    · rintro i c H2 hc ⟨g, hl⟩
      have e := g0.trans (g1.trans g)
      match i, hc with
      | 0, hc =>
        obtain rfl : y = c := Option.some.inj hc
        exact ⟨rfl, _, rfl, y, t, rfl, Dp.mono e _ _ hy, hg, by omega, by omega, fun H3 g3 => ⟨_, g3 _ _ hl, (by show 0 < sizeLine; decide), Same.mut (g.trans g3) hD _, upd_same⟩⟩
      | i + 1, hc => cases hc
    · rintro H2 ⟨g, hl⟩
      have hl1' : H2 l1 = some (.lst [.str "not"]) := g _ _ (g1 _ _ upd_same)
      refine ⟨l1, D, _, [.str (S t.txt)], rfl, rfl, hl1', hl, (by show 1 + 1 ≤ sizeLine; decide), fun r hr' => ?_⟩
      have g5 := same_new hr' (.lst [.str "not", .str (S t.txt)])
      refine ⟨_, r, [("not" : Str), S t.txt], rfl, rfl, .inl (SqL.of upd_same), ?_, ?_⟩
      · show (3 + ((S t.txt).length + 0)) + 2 * 1 ≤ 16777216
        have : 2 ^ t.deep ≤ 2 ^ 10 := Nat.pow_le_pow_right (by decide) (by omega)
        rw [SX.S_len]
        omega
      · rw [sp_eq, not_eq, show [S kNot, S t.txt] = [kNot, t.txt].map S from rfl, SX.join_S, txt_neg]
        exact k _ (g0.trans (g1.trans (g.trans g5)))
  | two o t u =>
    obtain ⟨a, x, y, z, rfl, hs, hx, hy, hz⟩ := Dp.tup3 hv
    obtain rfl := Dp.str1 hx
    have hn' : max t.deep u.deep + 1 ≤ n + 1 := hn
    have h10' : max t.deep u.deep + 1 ≤ 10 := h10
    obtain ⟨hg1, hg2⟩ := Bool.and_eq_true_iff.mp hg
    have tl1 := txt_len hg1
    have tl2 := txt_len hg2
    refine ⟨_, rfl, a, _, _, _, rfl, rfl, hs, rfl, _, rfl, rfl, _, rfl, ?_⟩
    refine iteTk (by cases o <;> decide +kernel) ?_
    refine ⟨⟨_, rfl⟩, _, rfl, a, _, _, _, rfl, rfl, hs, rfl, (by show 1 ≤ sizeLine; decide), fun l1 hl1 => ?_⟩
    have g0 := same_new hl1 (.lst [.str (twoS o)])
    refine ⟨_, rfl, _, rfl, a, _, rfl, Same.tup g0 hs, fun h => absurd h.1 (by show ¬ (1 : Nat) = 0; decide), fun _ b hb => ?_⟩
    have g1 := same_new hb (.tup [y, z])
    refine ⟨b, rfl, ⟨_, SqT.of upd_same⟩, fun D hD => ?_⟩
    refine lc_tup (K := K) (a := b) (xs := [y, z]) (fun i Hx => Same (upd (upd H l1 (.lst [.str (twoS o)])) b (.tup [y, z])) Hx ∧ Hx D = some (.lst (([S t.txt, S u.txt].take i).map V.str))) ⟨same_new hD _, upd_same⟩ (fun i Hx _ q => Same.tup q.1 (SqT.of upd_same)) ?_ ?_
    · rintro i c H2 hc ⟨g, hl⟩
      have e := g0.trans (g1.trans g)
      match i, hc with
      | 0, hc =>
        obtain rfl : y = c := Option.some.inj hc
        exact ⟨rfl, _, rfl, y, t, rfl, Dp.mono e _ _ hy, hg1, by omega, by omega, fun H3 g3 => ⟨_, g3 _ _ hl, (by show 0 < sizeLine; decide), Same.mut (g.trans g3) hD _, upd_same⟩⟩
      | 1, hc =>
        obtain rfl : z = c := Option.some.inj hc
        exact ⟨rfl, _, rfl, z, u, rfl, Dp.mono e _ _ hz, hg2, by omega, by omega, fun H3 g3 => ⟨_, g3 _ _ hl, (by show 1 < sizeLine; decide), Same.mut (g.trans g3) hD _, upd_same⟩⟩
      | i + 2, hc => cases hc
    · rintro H2 ⟨g, hl⟩
      have hl1' : H2 l1 = some (.lst [.str (twoS o)]) := g _ _ (g1 _ _ upd_same)
      have hl2 : H2 D = some (.lst [.str (S t.txt), .str (S u.txt)]) := hl
      refine ⟨l1, D, _, [.str (S t.txt), .str (S u.txt)], rfl, rfl, hl1', hl2, (by show 1 + 2 ≤ sizeLine; decide), fun r hr' => ?_⟩
      have g5 := same_new hr' (.lst [.str (twoS o), .str (S t.txt), .str (S u.txt)])
      refine ⟨_, r, [twoS o, S t.txt, S u.txt], rfl, rfl, .inl (SqL.of upd_same), ?_, ?_⟩
      · show ((twoS o).length + ((S t.txt).length + ((S u.txt).length + 0))) + 3 * 1 ≤ 16777216
        have m1 : 2 ^ t.deep ≤ 2 ^ 10 := Nat.pow_le_pow_right (by decide) (by omega)
        have m2 : 2 ^ u.deep ≤ 2 ^ 10 := Nat.pow_le_pow_right (by decide) (by omega)
        have m3 : (twoS o).length ≤ 3 := by cases o <;> decide +kernel
        rw [SX.S_len t.txt, SX.S_len u.txt]
        omega
      · have ej : Txt.join " " [twoS o, S t.txt, S u.txt] = S (Tst.two o t u).txt := by
          rw [sp_eq, two_eq, show [S (kTwo o), S t.txt, S u.txt] = [kTwo o, t.txt, u.txt].map S from rfl, SX.join_S, txt_two]
        rw [ej]
        exact k _ (g0.trans (g1.trans (g.trans g5)))
theorem ok_text (T : Top K w mg) : ∀ n : Nat, FnOk P w K mg base CX0 (n + 1) T.a_test_text T.d_test_text ["test"] (spText K n)
  | 0 => ok_text0 T
  | n + 1 => ok_text1 T (ok_text T n)
end
end Bl

namespace Bl
open PySem L2
open SX (S)
/-! short words: array_get_dec closes a side condition; array_mem_dec goes one step into a reading; sizeOf_list_dec goes on while it can -/
local macro_rules | `(tactic| array_get_dec) => `(tactic| first
  | rfl
  | assumption
  | exact upd_same
  | exact SqL.of upd_same
  | exact SqT.of upd_same
  | ((with_reducible apply SqL.of); assumption)
  | ((with_reducible apply SqT.of); assumption)
  | exact Same.refl _
  | exact .ty _
  | exact .str _
  | exact .int _
  | exact ⟨_, rfl⟩
  | ((with_reducible apply Dp.ty); assumption)
  | (with_reducible exact kit_d some_str)
  | (with_reducible exact kit_d some_int)
  | (with_reducible exact kit_d some_bool)
  | (with_reducible exact kit_d some_list)
  | (with_reducible exact kit_d some_tuple)
  | ((with_reducible apply Bl.get_new); assumption; array_get_dec)
  | ((with_reducible apply Bl.seq_new); assumption; array_get_dec)
  | ((with_reducible apply Bl.tup_new); assumption; array_get_dec)
  | ((with_reducible apply Bl.dp_new); assumption; array_get_dec)
  | ((with_reducible apply Bl.dpa_new); assumption; array_get_dec)
  | ((with_reducible apply Bl.same_nw); assumption; array_get_dec)
  | ((with_reducible apply Bl.get_tr); assumption; array_get_dec)
  | ((with_reducible apply Bl.seq_tr); assumption; array_get_dec)
  | ((with_reducible apply Bl.tup_tr); assumption; array_get_dec)
  | ((with_reducible apply Bl.dp_tr); assumption; array_get_dec)
  | ((with_reducible apply Bl.dpa_tr); assumption; array_get_dec)
  | ((with_reducible apply Bl.same_tr); assumption; array_get_dec)
  | ((with_reducible apply Dp.ty); assumption)
  | ((with_reducible apply Dp.ty); array_get_dec)
  | exact small (Nat.le_of_ble_eq_true rfl)
  | exact small' (Nat.le_of_ble_eq_true rfl)
  | ((with_reducible refine Or.inl ?_); array_get_dec)
  | ((with_reducible refine Or.inr ?_); array_get_dec)
  | ((with_reducible apply Bl.gEx); array_get_dec)
  | omega
  | exact small (by omega)
  | exact small' (by omega))
local macro_rules | `(tactic| array_mem_dec) => `(tactic| first
  | ((with_reducible apply Bl.gIte); first
    | (refine Bl.gT (by rfl) ?_)
    | (refine Bl.gF (by rfl) ?_))
  | ((fail_if_success (with_reducible apply Bl.gIte)); (fail_if_success (with_reducible apply Bl.gLoop)); (fail_if_success (with_reducible apply Bl.gComp)); (fail_if_success (with_reducible apply Bl.gWhile)); first
    | (with_reducible intro _ _)
    | (with_reducible intro _)
    | (refine And.intro (by array_get_dec) ?_)
    | (apply Bl.gEx)
    | (refine Or.inl (And.intro (by array_get_dec) ?_))
    | (refine Or.inr (And.intro (by array_get_dec) ?_))
    | (refine Or.inl ⟨_, by array_get_dec, ?_⟩)
    | (refine Or.inr ⟨_, by array_get_dec, ?_⟩)
    ))
local macro_rules | `(tactic| sizeOf_list_dec) => `(tactic| repeat array_mem_dec)

abbrev n_read_leaf : List Str := ["words", "start", "end", "leaf"]
theorem sc_read_leaf : FnScope n_read_leaf ["words", "start"] (defScope s_read_leaf) := ⟨rfl, rfl, rfl, by decide +kernel, rfl, by decide +kernel, by decide +kernel⟩
abbrev n_read_from : List Str := ["words", "start", "deepest", "head", "test", "end", "_", "found", "part"]
theorem sc_read_from : FnScope n_read_from ["words", "start", "deepest"] (defScope s_read_from) := ⟨rfl, rfl, rfl, by decide +kernel, rfl, by decide +kernel, by decide +kernel⟩
section
variable {P : Program} {w : World} {K : PySem.W.Frag} {mg : Str → Option Value} {base : Heap}
theorem ok_read_leaf (T : Top K w mg) : FnOk P w K mg base CX0 11 T.a_read_leaf T.d_read_leaf ["words", "start"] (spLeaf K) := by
  refine T.F_read_leaf.ok sc_read_leaf (fun vs H Q E h => ?_) (fun cdv A outer s H vs Q E hr h => ?_)
  · obtain ⟨v, _, _, _, rfl, _⟩ := h
    rfl
  obtain ⟨a, pre, h, r, rfl, hS, hl, hw, hp, k⟩ := h
  have lt := leaf_told (r := r) hp
  have hle : pre.length ≤ ((pre ++ h :: r).map wV).length := by
    rw [List.length_map, List.length_append]
    omega
  have ecut : ∀ n : Nat, cutV ((pre ++ h :: r).map wV) (some (pre.length : Int)) (some ((pre.length : Int) + (n : Int))) = ((h :: r).take n).map wV := fun n => by
    rw [cut_nat hle, List.map_append, List.drop_left' (by rw [List.length_map]), List.map_take]
  have hsm : ∀ n : Nat, n ≤ 3 → Sm 7 (leafD ((h :: r).take n)) := fun n hn => by
    refine ⟨?_, fun d hd => ?_⟩
    · rw [List.length_map, List.length_take]
      omega
    · obtain ⟨x, hx, rfl⟩ := List.mem_map.mp hd
      show (S x).length ≤ 100000
      rw [SX.S_len]
      exact hw x (List.mem_of_mem_take hx)
  have hat : atI ((pre ++ h :: r).map wV) (pre.length : Int) = some (wV h) := atI_nat (by rw [List.getElem?_map, List.getElem?_append_right (Nat.le_refl _), Nat.sub_self]; rfl)
  refine ⟨_, (pss_cons (ps_set (i := 2) sc_read_leaf.nd rfl (Or.inl rfl) (pe_op op_add (pv 1) (pe_ifExp (pt_cmpR op_eq (pe_ix ix_list (pv 0) (pv 1) (fun _ _ => rfl)) pe_str (nomark _)) pe_int pe_int)))
    (pss_cons (ps_set (i := 3) sc_read_leaf.nd rfl (Or.inl rfl) (pe_callTy call_tuple_of (by rfl) T.z_tuple (by decide +kernel) (pa_cons (pe_slice sl_list (pv 0) (po_some (pv 1)) (po_some (pv 2))) pa_nil)))
    (pss_one (ps_ret (pe_ifExp (pt_val (pe_call (ok_is_test T) (hr.mono (by decide)) rfl T.m_is_test T.F_is_test.kp T.b_is_test .nil pass0 (pa_cons (pv 3) pa_nil))) (pe_tup (pa_cons (pv 3) (pa_cons (pv 2) pa_nil))) pe_non))))), ?_⟩
  sizeOf_list_dec
  have main : ∀ n : Nat, n = leafN h → n ≤ 3 → ∀ (p l : Addr), H p = none → upd H p (.lst (((h :: r).take n).map wV)) l = none →
      ∀ H' : Hp, Same (upd (upd H p (.lst (((h :: r).take n).map wV))) l (.tup (((h :: r).take n).map wV))) H' →
      if isT 6 (leafD ((h :: r).take n)) = true then (∀ t, H' t = none → Q (.ref t) (upd H' t (.tup [.ref l, .int ((pre.length : Int) + (n : Int))]))) else Q .non H' := fun n hn h3 p l fp fl H' e => by
    subst hn
    have e1 : Same H H' := ((same_new fp _).trans (same_new fl _)).trans e
    have el : H' l = some (.tup (((h :: r).take (leafN h)).map wV)) := e _ _ upd_same
    cases ee : leafS h r with
    | none =>
      rw [ee] at lt k
      exact iteFk lt (k H' e1)
    | some q =>
      obtain ⟨t, rest⟩ := q
      rw [ee] at lt k
      obtain ⟨l1, l2, l3, l4⟩ := lt
      refine iteTk l1 fun t' ht => ?_
      refine k _ t' (.ref l) (e1.trans (same_new ht _)) (SqT.of ?_) ?_
      · rw [upd_same, l3]
        have : 1 ≤ leafN h := by unfold leafN; split <;> decide
        simp only [List.length_append, List.length_cons, List.length_drop]
        rw [show ((pre.length + (r.length + 1) : Nat) : Int) - ((r.length - (leafN h - 1) : Nat) : Int) = (pre.length : Int) + (leafN h : Int) by omega]
      · rw [← l2]
        exact Dp.mono (same_new ht _) _ _ (.tup (SqT.of el) (dpa_words _))
  by_cases hi : h = kIs
  · refine iteTk (by rw [hi]; decide +kernel) ?_
    have hn : 3 = leafN h := (if_pos hi).symm
    sizeOf_list_dec
    rename_i p fp l fl
    rw [show ((pre.length : Int) + 3) = (pre.length : Int) + ((3 : Nat) : Int) from rfl, ecut] at fl ⊢
    refine ⟨.tup (SqT.of upd_same) (dpa_words _), hsm 3 (by decide), fun H' e => ⟨_, rfl, ?_⟩⟩
    have m := main 3 hn (by decide) p l fp fl H' e
    by_cases hc : isT 6 (leafD ((h :: r).take 3)) = true
    · rw [if_pos hc] at m
      refine iteTk hc ?_
      sizeOf_list_dec
      exact m _ (by assumption)
    · rw [if_neg hc] at m
      exact iteFk (Bool.eq_false_iff.mpr hc) m
  · refine iteFk (decide_eq_false (fun e => hi (S_inj (by rw [← is_eq']; exact V.str.inj e)))) ?_
    have hn : 2 = leafN h := (if_neg hi).symm
    sizeOf_list_dec
    rename_i p fp l fl
    rw [show ((pre.length : Int) + 2) = (pre.length : Int) + ((2 : Nat) : Int) from rfl, ecut] at fl ⊢
    refine ⟨.tup (SqT.of upd_same) (dpa_words _), hsm 2 (by decide), fun H' e => ⟨_, rfl, ?_⟩⟩
    have m := main 2 hn (by decide) p l fp fl H' e
    by_cases hc : isT 6 (leafD ((h :: r).take 2)) = true
    · rw [if_pos hc] at m
      refine iteTk hc ?_
      sizeOf_list_dec
      exact m _ (by assumption)
    · rw [if_neg hc] at m
      exact iteFk (Bool.eq_false_iff.mpr hc) m
end
end Bl

namespace Bl
open PySem L2
open SX (S)
/-! short words: array_get_dec closes a side condition; array_mem_dec goes one step into a reading; sizeOf_list_dec goes on while it can -/
local macro_rules | `(tactic| array_get_dec) => `(tactic| first
  | rfl
  | assumption
  | exact upd_same
  | exact SqL.of upd_same
  | exact SqT.of upd_same
  | ((with_reducible apply SqL.of); assumption)
  | ((with_reducible apply SqT.of); assumption)
  | exact Same.refl _
  | exact .ty _
  | exact .str _
  | exact .int _
  | exact ⟨_, rfl⟩
  | ((with_reducible apply Dp.ty); assumption)
  | (with_reducible exact kit_d some_str)
  | (with_reducible exact kit_d some_int)
  | (with_reducible exact kit_d some_bool)
  | (with_reducible exact kit_d some_list)
  | (with_reducible exact kit_d some_tuple)
  | ((with_reducible apply Bl.get_new); assumption; array_get_dec)
  | ((with_reducible apply Bl.seq_new); assumption; array_get_dec)
  | ((with_reducible apply Bl.tup_new); assumption; array_get_dec)
  | ((with_reducible apply Bl.dp_new); assumption; array_get_dec)
  | ((with_reducible apply Bl.dpa_new); assumption; array_get_dec)
  | ((with_reducible apply Bl.same_nw); assumption; array_get_dec)
  | ((with_reducible apply Bl.get_tr); assumption; array_get_dec)
  | ((with_reducible apply Bl.seq_tr); assumption; array_get_dec)
  | ((with_reducible apply Bl.tup_tr); assumption; array_get_dec)
  | ((with_reducible apply Bl.dp_tr); assumption; array_get_dec)
  | ((with_reducible apply Bl.dpa_tr); assumption; array_get_dec)
  | ((with_reducible apply Bl.same_tr); assumption; array_get_dec)
  | ((with_reducible apply Dp.ty); assumption)
  | ((with_reducible apply Dp.ty); array_get_dec)
  | exact small (Nat.le_of_ble_eq_true rfl)
  | exact small' (Nat.le_of_ble_eq_true rfl)
  | ((with_reducible refine Or.inl ?_); array_get_dec)
  | ((with_reducible refine Or.inr ?_); array_get_dec)
  | ((with_reducible apply Bl.gEx); array_get_dec)
  | omega
  | exact small (by omega)
  | exact small' (by omega))
local macro_rules | `(tactic| array_mem_dec) => `(tactic| first
  | ((with_reducible apply Bl.gIte); first
    | (refine Bl.gT (by rfl) ?_)
    | (refine Bl.gF (by rfl) ?_))
  | ((fail_if_success (with_reducible apply Bl.gIte)); (fail_if_success (with_reducible apply Bl.gLoop)); (fail_if_success (with_reducible apply Bl.gComp)); (fail_if_success (with_reducible apply Bl.gWhile)); first
    | (with_reducible intro _ _)
    | (with_reducible intro _)
    | (refine And.intro (by array_get_dec) ?_)
    | (apply Bl.gEx)
    | (refine Or.inl (And.intro (by array_get_dec) ?_))
    | (refine Or.inr (And.intro (by array_get_dec) ?_))
    | (refine Or.inl ⟨_, by array_get_dec, ?_⟩)
    | (refine Or.inr ⟨_, by array_get_dec, ?_⟩)
    ))
local macro_rules | `(tactic| sizeOf_list_dec) => `(tactic| repeat array_mem_dec)

section
variable {P : Program} {w : World} {K : PySem.W.Frag} {mg : Str → Option Value} {base : Heap}
theorem ok_from1 (T : Top K w mg) {n : Nat} (G : FnOk P w K mg base CX0 (n + 12) T.a_read_from T.d_read_from ["words", "start", "deepest"] (spFrom K n)) : FnOk P w K mg base CX0 (n + 13) T.a_read_from T.d_read_from ["words", "start", "deepest"] (spFrom K (n + 1)) := by
  refine T.F_read_from.ok sc_read_from (fun vs H Q E h => ?_) (fun cdv A outer s H vs Q E hr h => ?_)
  · obtain ⟨_, _, _, _, rfl, _⟩ := h
    rfl
  obtain ⟨a, pre, r, m, rfl, hm, hS, hl, hw, k⟩ := h
  refine ⟨_, (pss_cons (ps_if (PW.pt (pw_or (pt_cmpR op_eq (pv 2) pe_int (nomark _)) (pw_or1 (pt_cmpR op_eq (pv 1) (pe_callB call_len_seq (by rfl) T.z_len (by decide +kernel) (pa_cons (pv 0) pa_nil)) (nomark _))))) (pss_one (ps_ret pe_non)) pss_nil)
    (pss_cons (ps_set (i := 3) sc_read_from.nd rfl (Or.inl rfl) (pe_ix ix_list (pv 0) (pv 1) (fun _ _ => rfl)))
    (pss_cons (ps_if (pt_cmpR (op_notin_parts (T.q_PARTS (fun _ => none))) (pv 3) (pe_glob rfl T.c_PARTS T.r_PARTS) rfl) (pss_one (ps_ret (pe_call (ok_read_leaf T) (hr.mono (by omega)) rfl T.m_read_leaf T.F_read_leaf.kp T.b_read_leaf .nil pass0 (pa_cons (pv 0) (pa_cons (pv 1) pa_nil))))) pss_nil)
    (pss_cons (ps_set (i := 4) sc_read_from.nd rfl (Or.inl rfl) (pe_tup (pa_cons (pv 3) pa_nil)))
    (pss_cons (ps_set (i := 5) sc_read_from.nd rfl (Or.inl rfl) (pe_op op_add (pv 1) pe_int))
    (pss_cons (ps_for PassesOwn.never rfl (pi_range1 (by rfl) T.z_range (pa_cons (pe_ix (ix_parts (T.q_PARTS (fun _ => none))) (pe_glob rfl T.c_PARTS T.r_PARTS) (pv 3) (fun _ _ => rfl)) pa_nil)) (pg_name (i := 6) sc_read_from.nd rfl (Or.inl rfl))
    (pss_cons (ps_set (i := 7) sc_read_from.nd rfl (Or.inl rfl) (pe_call G hr rfl T.m_read_from T.F_read_from.kp T.b_read_from .nil pass0 (pa_cons (pv 0) (pa_cons (pv 5) (pa_cons (pe_op op_sub (pv 2) pe_int) pa_nil)))))
    (pss_cons (ps_if (pt_cmpR op_isN (pv 7) pe_non (nomark _)) (pss_one (ps_ret pe_non)) pss_nil)
    (pss_cons (ps_asg (pv 7) (pg_tup rfl (pgs_cons (pg_name (i := 8) sc_read_from.nd rfl (Or.inl rfl)) (pgs_cons (pg_name (i := 5) sc_read_from.nd rfl (Or.inl rfl)) pgs_nil))))
    (pss_one (ps_set (i := 4) sc_read_from.nd rfl (Or.inl rfl) (pe_tup (StX.pa_star (pv 4) (pa_cons (pv 8) pa_nil)))))))))
    (pss_one (ps_ret (pe_tup (pa_cons (pv 4) (pa_cons (pv 5) pa_nil))))))))))), ?_⟩
  sizeOf_list_dec
  cases m with
  | zero =>
    refine iteTk (decide_eq_true rfl) ?_
    exact k H (Same.refl _)
  | succ m =>
  refine iteFk (decide_eq_false (fun h => by have := V.int.inj h; omega)) ?_
  have elen : ((pre ++ r).map wV).length = pre.length + r.length := by rw [List.length_map, List.length_append]
  sizeOf_list_dec
  cases r with
  | nil =>
    refine iteTk (decide_eq_true (by rw [elen]; rfl)) ?_
    exact k H (Same.refl _)
  | cons h r =>
  refine iteFk (decide_eq_false (fun h => by have := V.int.inj h; rw [elen] at this; simp only [List.length_cons] at this; omega)) ?_
  have hat : atI ((pre ++ h :: r).map wV) (pre.length : Int) = some (wV h) := atI_nat (by rw [List.getElem?_map, List.getElem?_append_right (Nat.le_refl _), Nat.sub_self]; rfl)
  sizeOf_list_dec
  cases e : partsN (S h) with
  | none =>
    refine iteT ?_
    rw [rdS_leaf e] at k
    refine ⟨_, rfl, _, rfl, a, pre, h, r, rfl, hS, ?_, fun w hm => hw w (List.mem_append_right _ hm), e, k⟩
    rw [List.length_cons] at hl
    omega
  | some kk =>
  refine iteF ?_
  rw [rdS_parts e] at k
  have hk2 : kk ≤ 2 := by
    rcases parts_of e with ⟨_, rfl⟩ | ⟨_, rfl⟩ <;> decide
  sizeOf_list_dec
  rename_i p hp
  refine for_range (lo := 0) (n := kk) (fun j σ H2 => Hold (∃ (q : Addr) (vs : List V) (ts : List Tst) (pre' rj : List Wd) (o6 o7 o8 : Option V), σ = [some (.ref a), some (.int pre.length), some (.int ((m + 1 : Nat) : Int)), some (wV h), some (.ref q), some (.int pre'.length), o6, o7, o8] ∧
    Same H H2 ∧ SqT K H2 q (wV h :: vs) ∧ DpAll K H2 vs (ts.map Tst.toD) ∧ ts.length = j ∧ pre ++ h :: r = pre' ++ rj ∧ rdN m kk r = (match rdN m (kk - j) rj with | none => none | some (us, rest) => some (ts ++ us, rest)))) ?_ ?_ ?_
  · refine ⟨p, [], [], pre ++ [h], r, none, none, none, ?_, same_new hp _, SqT.of upd_same, .nil, rfl, by simp, ?_⟩
    · rw [List.length_append]
      rfl
    · show _ = (match rdN m kk r with | none => none | some (us, rest) => some ([] ++ us, rest))
      cases rdN m kk r <;> rfl
  · rintro j σ H2 hj ⟨q, vs, ts, pre', rj, o6, o7, o8, rfl, e2, hq, hd, ht, hsp, hrd⟩
    have hS2 : SqL K H2 a ((pre' ++ rj).map wV) := by
      rw [← hsp]
      exact e2.seq hS
    have hw2 : ∀ w ∈ pre' ++ rj, w.length ≤ 100000 := by
      rw [← hsp]
      exact hw
    have hl2 : pre'.length + rj.length ≤ 100000 := by
      rw [← List.length_append, ← hsp, List.length_append]
      exact hl
    have ekj : kk - j = (kk - (j + 1)) + 1 := by omega
    rw [ekj, rdN] at hrd
    refine ⟨_, rfl, _, rfl, _, rfl, _, _, rfl, rfl, a, pre', rj, m, ?_, by omega, hS2, hl2, hw2, ?_⟩
    · show [V.ref a, V.int (pre'.length : Int), V.int (((m + 1 : Nat) : Int) - 1)] = _
      rw [show (((m + 1 : Nat) : Int) - 1) = (m : Int) by omega]
    cases er : rdS m rj with
    | none =>
      rw [er] at hrd
      rw [hrd] at k
      intro H3 e3
      sizeOf_list_dec
      exact k H3 (e2.trans e3)
    | some z =>
      obtain ⟨t, rest⟩ := z
      rw [er] at hrd
      obtain ⟨hs1, _, _⟩ := rd_sound _ _ _ _ er
      intro H3 p3 v3 e3 hp3 hv3
      sizeOf_list_dec
      have hq3 : SqT K H3 q (wV h :: vs) := by array_get_dec
      have hvl : vs.length = j := by rw [DpAll.len hd, List.length_map, ht]
      have hz : (wV h :: vs ++ [v3]).length ≤ sizeLine := small (by simp only [List.length_append, List.length_cons, List.length_nil]; omega)
      sizeOf_list_dec
      rename_i p4 hp4
      refine ⟨p4, vs ++ [v3], ts ++ [t], pre' ++ t.wd, rest, some (.int (0 + (j : Int))), some (.ref p3), some v3, ?_, e2.trans (e3.trans (same_new hp4 _)), SqT.of upd_same, ?_, ?_, ?_, ?_⟩
      · have e5 : (((pre' ++ rj).length : Nat) : Int) - (rest.length : Int) = (((pre' ++ t.wd).length : Nat) : Int) := by
          rw [hs1]
          simp only [List.length_append]
          omega
        show [some (V.ref a), some (V.int pre.length), some (V.int ((m + 1 : Nat) : Int)), some (wV h), some (V.ref p4), some (V.int ((((pre' ++ rj).length : Nat) : Int) - (rest.length : Int))), some (V.int (0 + j)), some (V.ref p3), some v3] = _
        rw [e5]
      · rw [List.map_append]
        exact DpAll.app (DpAll.mono (e3.trans (same_new hp4 _)) _ _ hd) (.cons (Dp.mono (same_new hp4 _) _ _ hv3) .nil)
      · rw [List.length_append, ht]
        rfl
      · rw [hsp, hs1, List.append_assoc]
      · rw [hrd]
        dsimp only
        cases rdN m (kk - (j + 1)) rest with
        | none => rfl
        | some z => simp
  · rintro σ H2 ⟨q, vs, ts, pre', rj, o6, o7, o8, rfl, e2, hq, hd, ht, hsp, hrd⟩
    rw [Nat.sub_self] at hrd
    simp only [rdN, List.append_nil] at hrd
    rw [hrd] at k
    sizeOf_list_dec
    rename_i p4 hp4
    have e4 := same_new hp4 (.tup [.ref q, .int pre'.length])
    refine k _ p4 (.ref q) (e2.trans e4) (SqT.of ?_) (mkT_dp e ht (Same.tup e4 hq) (DpAll.mono e4 _ _ hd))
    rw [upd_same, hsp]
    have e5 : (((pre' ++ rj).length : Nat) : Int) - (rj.length : Int) = (pre'.length : Int) := by
      simp only [List.length_append]
      omega
    rw [e5]
theorem ok_from0 (T : Top K w mg) : FnOk P w K mg base CX0 12 T.a_read_from T.d_read_from ["words", "start", "deepest"] (spFrom K 0) := by
  have no : ∀ vs H Q E, ¬ spFrom K 0 vs H Q E := fun vs H Q E h => by
    obtain ⟨_, _, _, m, _, h1, _⟩ := h
    omega
  exact ⟨fun vs H Q E h => absurd h (no vs H Q E), fun A outer s H args us vs Q E _ _ _ _ h => absurd h (no vs H Q E)⟩
theorem ok_from (T : Top K w mg) : ∀ n : Nat, FnOk P w K mg base CX0 (n + 12) T.a_read_from T.d_read_from ["words", "start", "deepest"] (spFrom K n)
  | 0 => ok_from0 T
  | n + 1 => ok_from1 T (ok_from T n)
end
end Bl

namespace Bl
open PySem L2
open SX (S)
abbrev n_names : List Str := ["_law_box_here", "_law_many", "_law_letters", "_law_stem", "_law_spot", "_law_first", "_law_found", "_law_k", "_law_word"]
theorem sc_names : FnScope n_names ["_law_box_here", "_law_many"] (defScope s_names) := ⟨rfl, rfl, rfl, by decide +kernel, rfl, by decide +kernel, by decide +kernel⟩
section
variable {P : Program} {w : World} {K : PySem.W.Frag} {mg : Str → Option Value} {base : Heap}
theorem ok_names (T : Top K w mg) : FnOk P w K mg base CX0 3 T.a_names T.d_names ["_law_box_here", "_law_many"] (spNames K) := by
  refine T.F_names.ok sc_names (fun vs H Q E h => ?_) (fun cdv A outer s H vs Q E hr h => ?_)
  · obtain ⟨p, b, n, rfl, _⟩ := h
    rfl
  obtain ⟨p, b, n, rfl, B, hn1, hn5, k⟩ := h
  refine ⟨_, (pss_cons (ps_set (i := 2) sc_names.nd rfl (Or.inr rfl) pe_str)
    (pss_cons (ps_set (i := 3) sc_names.nd rfl (Or.inr rfl) (pe_join pe_str (pe_lc (own := [("_law_k", 7)]) (g := gName 7) (tt := tYes) rfl sc_names.nd (pi_range1 (by rfl) T.z_range (pa_cons (pe_call (ok_of T) (hr.mono (by decide)) rfl T.m_of T.F_of.kp T.b_of .nil pass0 (pa_cons (pv 0) (pa_cons (pe_lst (pa_cons pe_int (pa_cons pe_int (pa_cons pe_int (pa_cons pe_int pa_nil))))) pa_nil))) pa_nil)) (blkOk_by (own := [("_law_k", 7)]) (N := n_names) (sc := defScope s_names) (by decide +kernel)) (fun _ _ _ _ _ => (pg_name (i := 7) sc_names.nd rfl (Or.inl rfl))) (fun _ _ _ _ _ => pts_nil) (fun _ _ _ _ _ => (pe_call (ok_of T) (hr.mono (by decide)) rfl T.m_of T.F_of.kp T.b_of .nil pass0 (pa_cons (pv 0) (pa_cons (pv 2) pa_nil)))))))
    (pss_cons (ps_asg (pe_tup (pa_cons (pe_call (ok_pull T) (hr.mono (by decide)) rfl T.m_pull T.F_pull.kp T.b_pull .nil pass0 (pa_cons (pv 0) (pa_cons (pe_op op_add (pe_callB call_len_str (by rfl) T.z_len (by decide +kernel) (pa_cons (pv 3) pa_nil)) pe_int) pa_nil))) (pa_cons (pe_call (ok_pull T) (hr.mono (by decide)) rfl T.m_pull T.F_pull.kp T.b_pull .nil pass0 (pa_cons (pv 0) (pa_cons pe_int pa_nil))) pa_nil))) (pg_tup rfl (pgs_cons (pg_name (i := 4) sc_names.nd rfl (Or.inr rfl)) (pgs_cons (pg_name (i := 5) sc_names.nd rfl (Or.inr rfl)) pgs_nil))))
    (pss_cons (ps_setLc (i := 6) (own := [("_law_k", 7)]) (g := gName 7) (tt := tYes) rfl sc_names.nd rfl rfl (sw_true rfl rfl rfl (by decide +kernel)) (pi_range1 (by rfl) T.z_range (pa_cons (pe_op op_add (pv 1) pe_int) pa_nil)) (blkOk_by (own := [("_law_k", 7)]) (N := n_names) (sc := defScope s_names) (by decide +kernel)) (fun _ _ _ _ _ => (pg_name (i := 7) sc_names.nd rfl (Or.inl rfl))) (fun _ _ _ _ _ => pts_nil) (fun _ _ _ _ _ => (pe_op op_add_str (pe_op op_add_str (pe_slice sl_str (pv 3) po_none (po_some (pv 4))) (pe_ix ix_str (pv 2) (pe_op op_mod (pe_callTy call_int1 (by rfl) T.z_int (by decide +kernel) (pa_cons (pe_op op_add (pv 5) (pe_op op_mul pe_int (pv 7))) pa_nil)) pe_int) (fun _ _ => rfl))) (pe_slice sl_str (pv 3) (po_some (pv 4)) po_none))))
    (pss_one (ps_ret (pe_slice sl_list (pe_lc (own := [("_law_word", 8)]) (g := gName 8) rfl sc_names.nd (pi_list (pv 6)) (blkOk_by (own := [("_law_word", 8)]) (N := n_names) (sc := defScope s_names) (by decide +kernel)) (fun _ _ _ _ _ => (pg_name (i := 8) sc_names.nd rfl (Or.inl rfl))) (fun _ _ _ _ _ => (pts_one (pt_cmpR (r := rIn K true) op_notIn_seq (pv 8) (pe_lst (pa_cons pe_str (pa_cons pe_str (pa_cons pe_str (pa_cons pe_str pa_nil))))) rfl))) (fun _ _ _ _ _ => (pv 8))) po_none (po_some (pv 1))))))))), ?_⟩
  -- the stem
  refine ⟨⟨_, rfl⟩, _, rfl, (by show 4 ≤ sizeLine; decide), fun l hl => ?_⟩
  have B1 := B.new hl (.lst [.int 0, .int 1, .int 2, .int 5])
  have e1 : But p H _ := But.of (same_new hl (.lst [.int 0, .int 1, .int 2, .int 5]))
  refine ⟨p, b, _, rfl, B1, .inl ⟨l, _, rfl, .inl (SqL.of (hid_same (B.ne hl))), (by decide), (by decide), fun i x H1 hx B2 e2 => ?_⟩⟩
  obtain ⟨j, rfl, hj⟩ : ∃ j : Nat, x = .int (j : Int) ∧ (j = 0 ∨ j = 1 ∨ j = 2 ∨ j = 5) := by
    match i, hx with
    | 0, h => exact ⟨0, (Option.some.inj h).symm, by decide⟩
    | 1, h => exact ⟨1, (Option.some.inj h).symm, by decide⟩
    | 2, h => exact ⟨2, (Option.some.inj h).symm, by decide⟩
    | 3, h => exact ⟨5, (Option.some.inj h).symm, by decide⟩
    | n + 4, h => cases h
  have e12 : But p H H1 := Same.trans e1 e2
  clear e1 e2 B1
  refine ⟨(j : Int), rfl, by omega, by omega, fun D hD => ?_⟩
  have nD := B2.ne hD
  have nDb := B2.nl hD
  refine lc_range (lo := 0) (n := (j : Int).toNat) (fun i H2 => BoxAt H2 p b ∧ But p H1 H2 ∧ ∃ cs : List Nat, cs.length = i ∧ (∀ c ∈ cs, c ∈ alpha) ∧ H2 D = some (.lst ((cs.map fun c => S [c]).map V.str)))
    ⟨B2.new hD _, But.of (same_new hD _), [], rfl, (by intro c hc; cases hc), upd_same⟩ ?_ ?_
  · rintro i H2 hi ⟨B3, e3, cs, hcs, hlow, hd⟩
    refine ⟨rfl, _, rfl, _, rfl, p, b, _, rfl, B3, .inr ⟨_, rfl, by decide +kernel, by decide +kernel, fun c H3 hc B4 e4 => ?_⟩⟩
    have hd' : H3 D = some (.lst ((cs.map fun c => S [c]).map V.str)) := hide_le _ _ (e4 _ _ (by rw [hide_ne nD]; exact hd))
    refine ⟨_, hd', ?_, B4.mut nD nDb _, But.mut (Same.trans e3 e4) hD _, cs ++ [c], by rw [List.length_append, hcs]; rfl, ?_, ?_⟩
    · rw [List.length_map, List.length_map]
      exact small' (by omega)
    · intro x hx
      rcases List.mem_append.mp hx with h | h
      · exact hlow x h
      · rw [List.mem_singleton.mp h, ← alpha_eq]
        exact hc
    · rw [upd_same, List.map_append, List.map_append]
      rfl
  · rintro H2 ⟨B3, e3, cs, hcs, hlow, hd⟩
    rw [Int.toNat_natCast] at hcs
    refine ⟨_, D, cs.map fun c => S [c], rfl, rfl, .inl (SqL.of hd), ?_, ?_⟩
    · have h1 : ∀ l : List Nat, ((l.map fun c => S [c]).map (·.length)).sum = l.length := by
        intro l
        induction l with
        | nil => rfl
        | cons c l ih =>
          rw [List.map_cons, List.map_cons, List.sum_cons, ih, List.length_cons]
          show 1 + l.length = l.length + 1
          omega
      rw [h1, show ("" : Str).length = 0 by decide +kernel, Nat.mul_zero]
      omega
    rw [join_one]
    have e123 : But p H H2 := Same.trans e12 e3
    -- spot, first
    refine ⟨_, rfl, _, rfl, _, rfl, small (by rw [SX.S_len]; omega), _, _, rfl, rfl, ?_⟩
    refine ⟨p, b, _, rfl, B3, by omega, by rw [SX.S_len]; omega, fun sp H3 hsp0 hsp1 B4 e4 => ?_⟩
    refine ⟨_, rfl, p, b, _, rfl, B4, by decide, by decide, fun fi H4 hf0 hf1 B5 e5 => ?_⟩
    obtain ⟨sp, rfl⟩ := Int.eq_ofNat_of_zero_le hsp0
    obtain ⟨f, rfl⟩ := Int.eq_ofNat_of_zero_le hf0
    rw [SX.S_len] at hsp1
    have hsp : sp ≤ cs.length := by omega
    refine ⟨(by show 2 ≤ sizeLine; decide), fun t ht => ?_⟩
    have B6 := B5.new ht (.tup [.int sp, .int f])
    have e6 : But p H _ := Same.trans e123 (Same.trans e4 (Same.trans e5 (But.of (same_new ht (.tup [.int sp, .int f])))))
    have ht1 : (upd H4 t (.tup [.int sp, .int f])) t = some (.tup [.int sp, .int f]) := upd_same
    refine ⟨t, _, rfl, SqT.of ht1, rfl, _, _, rfl, _, _, rfl, rfl, ?_⟩
    show tSeq _ _ _ _ (upd H4 t (.tup [.int sp, .int f]))
    generalize (upd H4 t (.tup [.int sp, .int f])) = H5 at B6 e6 ⊢
    -- the words
    refine ⟨_, rfl, _, _, rfl, rfl, _, rfl, (by omega), (by omega), fun D2 hD2 => ?_⟩
    refine lc_range (lo := 0) (n := ((n : Int) + 2).toNat) (fun i H2 => Same H5 H2 ∧ H2 D2 = some (.lst (((List.range i).map (wd cs sp f)).map nameV))) ⟨same_new hD2 _, upd_same⟩ ?_ ?_
    · rintro i H6 hi ⟨g, hd6⟩
      have hidx : ((f : Int) + 7 * (0 + (i : Int))) % 26 = (((f + 7 * i) % 26 : Nat) : Int) := by omega
      have hlt : (f + 7 * i) % 26 < 26 := Nat.mod_lt _ (by decide)
      refine ⟨rfl, _, rfl, _, rfl, _, rfl, _, rfl, small (by rw [SX.S_len]; omega), ?_⟩
      refine ⟨_, rfl, _, rfl, _, rfl, _, _, rfl, rfl, .inl (by constructor <;> decide), _, _, rfl, rfl, .inl ⟨_, rfl, _, _, rfl, rfl, (by show (0 : Int) < 26; decide), ?_⟩⟩
      refine ⟨_, _, alpha.getD ((f + 7 * i) % 26) 0, rfl, rfl, (by decide +kernel), ?_, ?_⟩
      · rw [hidx, alpha_eq]
        exact atI_nat (alpha_at _ hlt)
      · rw [cut_pre hsp]
        refine ⟨_, _, rfl, rfl, ?_, ?_⟩
        · rw [SX.S_len, List.length_take]
          show min sp cs.length + 1 ≤ sizeLine
          exact small (by omega)
        refine ⟨_, rfl, _, rfl, _, rfl, _, rfl, small (by rw [SX.S_len]; omega), ?_⟩
        rw [cut_suf hsp]
        have ew : S (cs.take sp) ++ (⟨#[alpha.getD ((f + 7 * i) % 26) 0]⟩ : Str) ++ S (cs.drop sp) = S (wd cs sp f i) := by
          show S (cs.take sp) ++ S [alpha.getD ((f + 7 * i) % 26) 0] ++ S (cs.drop sp) = _
          rw [SX.S_cat, SX.S_cat, List.append_assoc]
          rfl
        refine ⟨_, _, rfl, rfl, ?_, ?_⟩
        · have h1 : (S (cs.take sp) ++ (⟨#[alpha.getD ((f + 7 * i) % 26) 0]⟩ : Str)).length = min sp cs.length + 1 := by
            show (S (cs.take sp) ++ S [alpha.getD ((f + 7 * i) % 26) 0]).length = _
            rw [SX.S_cat, SX.S_len, List.length_append, List.length_take]
            rfl
          rw [h1, SX.S_len, List.length_drop]
          exact small (by omega)
        · rw [ew]
          refine ⟨_, hd6, ?_, Same.mut g hD2 _, ?_⟩
          · rw [List.length_map, List.length_map, List.length_range]
            exact small' (by omega)
          · rw [upd_same, List.range_succ, List.map_append, List.map_append]
            rfl
    rintro H6 ⟨g6, hd6⟩
    rw [show ((n : Int) + 2).toNat = n + 2 by omega] at hd6
    obtain ⟨hz1, hz2, hz3, hz4⟩ := wds_names (sp := sp) (f := f) hn5 hlow (by omega)
    -- those let
    refine ⟨_, rfl, D2, rfl, ⟨_, SqL.of hd6⟩, fun D3 hD3 => ?_⟩
    refine lc_list (K := K) (a := D2) (xs := (wds cs sp f (n + 2)).map nameV) (fun i H2 => Same H6 H2 ∧ H2 D3 = some (.lst ((((wds cs sp f (n + 2)).take i).filter keepB).map nameV))) ⟨same_new hD3 _, upd_same⟩ (fun i H2 _ q => q.1.seq (SqL.of hd6)) ?_ ?_
    · rintro i x H7 hx ⟨g, hd7⟩
      rw [List.getElem?_map] at hx
      obtain ⟨z, hz, rfl⟩ : ∃ z, (wds cs sp f (n + 2))[i]? = some z ∧ x = nameV z := by
        cases e : (wds cs sp f (n + 2))[i]? with
        | none => rw [e] at hx; cases hx
        | some z => rw [e] at hx; exact ⟨z, rfl, (Option.some.inj hx).symm⟩
      refine ⟨rfl, _, rfl, (by show 4 ≤ sizeLine; decide), fun l4 hl4 => ?_⟩
      have g8 := g.trans (same_new hl4 (.lst bads))
      have hd8 : (upd H7 l4 (.lst bads)) D3 = some (.lst ((((wds cs sp f (n + 2)).take i).filter keepB).map nameV)) := by
        rw [upd_ne (ne_of_none hd7 hl4)]
        exact hd7
      refine ⟨l4, bads, rfl, .inl (SqL.of upd_same), rfl, rfl, _, rfl, ?_⟩
      show if (!inV (.str (S z)) bads) = true then _ else _
      rw [inV_bads]
      have ef : ((wds cs sp f (n + 2)).take (i + 1)).filter keepB = ((wds cs sp f (n + 2)).take i).filter keepB ++ (if keepB z = true then [z] else []) := by
        rw [List.take_add_one, hz, List.filter_append]
        congr 1
        by_cases hk : keepB z = true
        · rw [if_pos hk]
          exact List.filter_cons_of_pos hk
        · rw [if_neg hk]
          exact List.filter_cons_of_neg hk
      refine ite2 (fun hk => ?_) (fun hk => ?_)
      · have hk' : keepB z = true := hk
        rw [if_pos hk'] at ef
        refine ⟨_, rfl, _, hd8, ?_, Same.mut g8 hD3 _, ?_⟩
        · rw [List.length_map]
          have h1 := List.length_filter_le keepB ((wds cs sp f (n + 2)).take i)
          have h2 : ((wds cs sp f (n + 2)).take i).length ≤ n + 2 := by
            rw [List.length_take]
            unfold wds
            rw [List.length_map, List.length_range]
            omega
          exact small' (by omega)
        · rw [upd_same, ef, List.map_append]
          rfl
      · have hk' : ¬ keepB z = true := hk
        rw [if_neg hk', List.append_nil] at ef
        refine ⟨g8, ?_⟩
        rw [ef]
        exact hd8
    · rintro H7 ⟨g7, hd7⟩
      rw [List.length_map, List.take_of_length_le (Nat.le_refl _)] at hd7
      refine ⟨_, rfl, _, rfl, D3, _, rfl, SqL.of hd7, fun q hq => ?_⟩
      rw [cutV_pre, ← List.map_take]
      have B7 := (B6.mono g6).mono g7
      have e7 : But p H H7 := Same.trans e6 (But.of (g6.trans g7))
      refine k q _ _ hz1 hz2 hz3 ⟨_, hz4⟩ ?_ (B7.ne hq) upd_same (B7.new hq _) (Same.trans e7 (But.of (same_new hq _)))
      exact e7.free (hide_free hq)
end
end Bl

namespace Bl
open PySem L2
open SX (S)
abbrev n_free_test : List Str := ["_law_box_here", "_law_words", "_law_deep_here", "_law_column", "_law_way", "_law_part", "_law_other"]
theorem sc_free_test : FnScope n_free_test ["_law_box_here", "_law_words", "_law_deep_here"] (defScope s_free_test) := ⟨rfl, rfl, rfl, by decide +kernel, rfl, by decide +kernel, by decide +kernel⟩
section
variable {P : Program} {w : World} {K : PySem.W.Frag} {mg : Str → Option Value} {base : Heap}
theorem ok_free0 (T : Top K w mg) : FnOk P w K mg base CX0 2 T.a_free_test T.d_free_test ["_law_box_here", "_law_words", "_law_deep_here"] (spFree K 0) := by
  have no : ∀ vs H Q E, ¬ spFree K 0 vs H Q E := fun vs H Q E h => by
    obtain ⟨p, l, q, w0, w1, w2, w3, w4, d, _, _, _, _, _, h1, h2, _⟩ := h
    omega
  exact ⟨fun vs H Q E h => absurd h (no vs H Q E), fun A outer s H args us vs Q E _ _ _ _ h => absurd h (no vs H Q E)⟩
theorem ok_free1 (T : Top K w mg) {n : Nat} (G : FnOk P w K mg base CX0 (n + 2) T.a_free_test T.d_free_test ["_law_box_here", "_law_words", "_law_deep_here"] (spFree K n)) : FnOk P w K mg base CX0 (n + 3) T.a_free_test T.d_free_test ["_law_box_here", "_law_words", "_law_deep_here"] (spFree K (n + 1)) := by
  refine T.F_free_test.ok sc_free_test (fun vs H Q E h => ?_) (fun cdv A outer s H vs Q E hr h => ?_)
  · obtain ⟨p, l, q, w0, w1, w2, w3, w4, d, rfl, _⟩ := h
    rfl
  obtain ⟨p, l, q, w0, w1, w2, w3, w4, d, rfl, B, hq, hl0, hl2, hd1, hdn, k⟩ := h
  have hqp : q ≠ p := by
    rintro rfl
    rw [hide_at] at hq
    cases hq
  have sq : ∀ {H'}, But p H H' → SqL K H' q [nameV w0, nameV w1, nameV w2, nameV w3, nameV w4] := fun e => SqL.of (hide_le _ _ (e _ _ hq))
  refine ⟨_, (pss_cons (ps_if (pt_cmpR op_eq (pv 2) pe_int (nomark _)) (pss_cons (ps_set (i := 3) sc_free_test.nd rfl (Or.inl rfl) (pe_call (ok_of T) (hr.mono (by omega)) rfl T.m_of T.F_of.kp T.b_of .nil pass0 (pa_cons (pv 0) (pa_cons (pe_lst (pa_cons (pe_ix ix_list (pv 1) pe_int (fun _ _ => rfl)) (pa_cons (pe_ix ix_list (pv 1) pe_int (fun _ _ => rfl)) (pa_cons (pe_op op_add_str (pe_op op_add_str (pe_ix ix_list (pv 1) pe_int (fun _ _ => rfl)) pe_str) (pe_ix ix_list (pv 1) pe_int (fun _ _ => rfl))) pa_nil)))) pa_nil))))
    (pss_one (ps_ret (pe_ifExp (pt_cmpR op_gt (pe_call (ok_pull T) (hr.mono (by omega)) rfl T.m_pull T.F_pull.kp T.b_pull .nil pass0 (pa_cons (pv 0) (pa_cons pe_int pa_nil))) pe_int (nomark _)) (pe_tup (pa_cons pe_str (pa_cons (pv 3) (pa_cons (pe_ix ix_list (pv 1) pe_int (fun _ _ => rfl)) pa_nil)))) (pe_tup (pa_cons pe_str (pa_cons (pe_ix ix_list (pv 1) pe_int (fun _ _ => rfl)) pa_nil))))))) pss_nil)
    (pss_cons (ps_par (i := 4) (j := 5) (by rfl) sc_free_test.nd rfl rfl (by decide) rfl rfl (pa_cons (pe_call (ok_pull T) (hr.mono (by omega)) rfl T.m_pull T.F_pull.kp T.b_pull .nil pass0 (pa_cons (pv 0) (pa_cons pe_int pa_nil))) (pa_cons (pe_call G hr rfl T.m_free_test T.F_free_test.kp T.b_free_test .nil pass0 (pa_cons (pv 0) (pa_cons (pv 1) (pa_cons (pe_op op_sub (pv 2) pe_int) pa_nil)))) pa_nil)) (by rfl))
    (pss_cons (ps_if (pt_cmpR op_eq (pv 4) pe_int (nomark _)) (pss_one (ps_ret (pe_tup (pa_cons pe_str (pa_cons (pv 5) pa_nil))))) pss_nil)
    (pss_cons (ps_set (i := 6) sc_free_test.nd rfl (Or.inl rfl) (pe_call G hr rfl T.m_free_test T.F_free_test.kp T.b_free_test .nil pass0 (pa_cons (pv 0) (pa_cons (pv 1) (pa_cons (pe_op op_add pe_int (pe_call (ok_pull T) (hr.mono (by omega)) rfl T.m_pull T.F_pull.kp T.b_pull .nil pass0 (pa_cons (pv 0) (pa_cons (pe_callB (call_min2 rfl) (by rfl) T.z_min (by decide +kernel) (pa_cons (pe_op op_sub (pv 2) pe_int) (pa_cons pe_int pa_nil))) pa_nil)))) pa_nil)))))
    (pss_one (ps_ret (pe_ifExp (pt_cmpR op_eq (pe_call (ok_pull T) (hr.mono (by omega)) rfl T.m_pull T.F_pull.kp T.b_pull .nil pass0 (pa_cons (pv 0) (pa_cons pe_int pa_nil))) pe_int (nomark _)) (pe_tup (pa_cons (pe_ix ix_list (pe_lst (pa_cons pe_str (pa_cons pe_str pa_nil))) (pe_op op_sub (pv 4) pe_int) (fun _ _ => rfl)) (pa_cons (pv 5) (pa_cons (pv 6) pa_nil)))) (pe_tup (pa_cons (pe_ix ix_list (pe_lst (pa_cons pe_str (pa_cons pe_str pa_nil))) (pe_op op_sub (pv 4) pe_int) (fun _ _ => rfl)) (pa_cons (pv 6) (pa_cons (pv 5) pa_nil))))))))))), ?_⟩
  refine ⟨_, rfl, rfl, _, rfl, ?_⟩
  have s0 := sq (Same.refl _)
  refine ite2 (fun hd => ?_) (fun hd => ?_)
  · -- a leaf
    have hd' : d = 1 := by
      have := V.int.inj (of_decide_eq_true hd)
      omega
    subst hd'
    refine ⟨_, rfl, _, rfl, q, _, _, _, rfl, rfl, s0, rfl, _, rfl, q, _, _, _, rfl, rfl, s0, rfl, _, rfl, q, _, _, _, rfl, rfl, s0, rfl, ?_⟩
    refine ⟨_, _, rfl, rfl, ?_, ?_⟩
    · show (S w2).length + 1 ≤ sizeLine
      rw [SX.S_len]
      exact small (by omega)
    refine ⟨_, rfl, q, _, _, _, rfl, rfl, s0, rfl, ?_⟩
    have ed : S w2 ++ ("." : Str) = S (w2 ++ [46]) := by
      rw [show ("." : Str) = S [46] by decide +kernel, SX.S_cat]
    refine ⟨_, _, rfl, rfl, ?_, ?_⟩
    · rw [ed, SX.S_len, SX.S_len, List.length_append]
      show w2.length + 1 + w0.length ≤ sizeLine
      exact small (by omega)
    rw [ed, SX.S_cat]
    have ew : w2 ++ [46] ++ w0 = w2 ++ 46 :: w0 := by rw [List.append_assoc]; rfl
    rw [ew]
    refine ⟨(by show 3 ≤ sizeLine; decide), fun c hc => ?_⟩
    have B1 := B.new hc (.lst [nameV w0, nameV w1, nameV (w2 ++ 46 :: w0)])
    have e1 : But p H _ := But.of (same_new hc (.lst [nameV w0, nameV w1, nameV (w2 ++ 46 :: w0)]))
    refine ⟨p, l, .ref c, rfl, B1, .inl ⟨c, _, rfl, .inl (SqL.of (hid_same (B.ne hc))), (by show 0 < 3; decide), (by show 3 < 1000000; decide), fun i x H1 hx B2 e2 => ?_⟩⟩
    obtain ⟨cl, hcl, rfl⟩ : ∃ cl, cl ∈ [w0, w1, w2 ++ 46 :: w0] ∧ x = nameV cl := by
      match i, hx with
      | 0, h => exact ⟨w0, List.mem_cons_self, (Option.some.inj h).symm⟩
      | 1, h => exact ⟨w1, List.mem_cons_of_mem _ List.mem_cons_self, (Option.some.inj h).symm⟩
      | 2, h => exact ⟨w2 ++ 46 :: w0, List.mem_cons_of_mem _ (List.mem_cons_of_mem _ List.mem_cons_self), (Option.some.inj h).symm⟩
      | i + 3, h => cases h
    refine ⟨_, rfl, p, l, 3, rfl, B2, by decide, by decide, fun g H2 _ _ B3 e3 => ?_⟩
    refine ⟨_, _, rfl, rfl, _, rfl, ?_⟩
    have e03 := Same.trans e1 (Same.trans e2 e3)
    have s3 := sq e03
    refine ite2 (fun _ => ?_) (fun _ => ?_)
    · refine ⟨_, rfl, _, rfl, q, _, _, _, rfl, rfl, s3, rfl, (by show 3 ≤ sizeLine; decide), fun t ht => ?_⟩
      refine k _ (.is cl w3) _ rfl ⟨hcl, rfl⟩ (.tup (SqT.of (hid_same (B3.ne ht))) (.cons (.str _) (.cons (.str _) (.cons (.str _) .nil)))) (B3.new ht _) (Same.trans e03 (But.of (same_new ht _)))
    · refine ⟨_, rfl, q, _, _, _, rfl, rfl, s3, rfl, (by show 2 ≤ sizeLine; decide), fun t ht => ?_⟩
      refine k _ (.has w4) _ rfl rfl (.tup (SqT.of (hid_same (B3.ne ht))) (.cons (.str _) (.cons (.str _) .nil))) (B3.new ht _) (Same.trans e03 (But.of (same_new ht _)))
  · -- a node
    have hd' : 2 ≤ d := by
      have h1 : d ≠ 1 := by
        rintro rfl
        exact hd rfl
      omega
    refine ⟨_, rfl, p, l, 3, rfl, B, by decide, by decide, fun way H1 hw0 hw3 B1 e1 => ?_⟩
    refine ⟨_, rfl, _, rfl, _, rfl, _, _, rfl, rfl, p, l, q, w0, w1, w2, w3, w4, d - 1, ?_, B1, e1 _ _ hq, hl0, hl2, by omega, by omega, fun v t H2 hdt hov hv B2 e2 => ?_⟩
    · show [V.ref p, V.ref q, V.int ((d : Int) - 1)] = _
      rw [show ((d : Int) - 1) = ((d - 1 : Nat) : Int) by omega]
    have e12 := Same.trans e1 e2
    refine ⟨_, _, rfl, ?_⟩
    refine ⟨_, rfl, rfl, _, rfl, ?_⟩
    refine ite2 (fun _ => ?_) (fun hw => ?_)
    · refine ⟨_, rfl, (by show 2 ≤ sizeLine; decide), fun b hb => ?_⟩
      refine k _ (.neg t) _ (by show t.deep + 1 = d; omega) hov (.tup (SqT.of (hid_same (B2.ne hb))) (.cons (.str _) (.cons (Dp.mono (hide_mono (same_new hb _)) _ _ hv) .nil))) (B2.new hb _) (Same.trans e12 (But.of (same_new hb _)))
    have hw' : way = 1 ∨ way = 2 := by
      have h1 : way ≠ 0 := by
        rintro rfl
        exact hw rfl
      omega
    refine ⟨_, rfl, _, rfl, _, rfl, _, rfl, _, _, rfl, rfl, _, _, rfl, ?_⟩
    have hm : (if (2 : Int) < (d : Int) - 1 then (2 : Int) else (d : Int) - 1) = ((min (d - 1) 2 : Nat) : Int) := by
      by_cases h : (2 : Int) < (d : Int) - 1
      · rw [if_pos h]
        omega
      · rw [if_neg h]
        omega
    rw [hm]
    refine ⟨p, l, _, rfl, B2, by omega, by omega, fun m H3 hm0 hm1 B3 e3 => ?_⟩
    obtain ⟨m, rfl⟩ := Int.eq_ofNat_of_zero_le hm0
    have e13 := Same.trans e12 e3
    refine ⟨_, _, rfl, rfl, p, l, q, w0, w1, w2, w3, w4, 1 + m, ?_, B3, e13 _ _ hq, hl0, hl2, by omega, by omega, fun v2 t2 H4 hdt2 hov2 hv2 B4 e4 => ?_⟩
    · show [V.ref p, V.ref q, V.int (1 + (m : Int))] = _
      rw [show (1 + (m : Int)) = ((1 + m : Nat) : Int) by omega]
    have e14 := Same.trans e13 e4
    have hv4 := Dp.mono (Same.trans e3 e4) _ _ hv
    refine ⟨_, rfl, p, l, 2, rfl, B4, by decide, by decide, fun g H5 _ _ B5 e5 => ?_⟩
    have e15 := Same.trans e14 e5
    have hv5 := Dp.mono e5 _ _ hv4
    have hv25 := Dp.mono e5 _ _ hv2
    refine ⟨rfl, _, rfl, ?_⟩
    have hat : ∃ o : Bool, atI ([.str "and", .str "or"] : List V) (way - 1) = some (.str (twoS o)) := by
      rcases hw' with rfl | rfl
      · exact ⟨true, rfl⟩
      · exact ⟨false, rfl⟩
    obtain ⟨o, hat⟩ := hat
    refine ite2 (fun _ => ?_) (fun _ => ?_)
    · refine ⟨(by show 2 ≤ sizeLine; decide), fun c hc => ⟨_, rfl, _, _, rfl, rfl, c, _, _, _, rfl, rfl, SqL.of upd_same, hat, _, rfl, _, rfl, (by show 3 ≤ sizeLine; decide), fun b hb => ?_⟩⟩
      have s6 := (same_new hc (.lst [.str "and", .str "or"])).trans (same_new hb (.tup [.str (twoS o), v, v2]))
      have B6 := B5.new hc (.lst [.str "and", .str "or"])
      refine k _ (.two o t t2) _ (by show max t.deep t2.deep + 1 = d; omega) ⟨hov, hov2⟩ (.tup (SqT.of (hid_same (B6.ne hb))) (.cons (.str _) (.cons (Dp.mono (hide_mono s6) _ _ hv5) (.cons (Dp.mono (hide_mono s6) _ _ hv25) .nil)))) (B6.new hb _) (Same.trans e15 (But.of s6))
    · refine ⟨(by show 2 ≤ sizeLine; decide), fun c hc => ⟨_, rfl, _, _, rfl, rfl, c, _, _, _, rfl, rfl, SqL.of upd_same, hat, _, rfl, _, rfl, (by show 3 ≤ sizeLine; decide), fun b hb => ?_⟩⟩
      have s6 := (same_new hc (.lst [.str "and", .str "or"])).trans (same_new hb (.tup [.str (twoS o), v2, v]))
      have B6 := B5.new hc (.lst [.str "and", .str "or"])
      refine k _ (.two o t2 t) _ (by show max t2.deep t.deep + 1 = d; omega) ⟨hov2, hov⟩ (.tup (SqT.of (hid_same (B6.ne hb))) (.cons (.str _) (.cons (Dp.mono (hide_mono s6) _ _ hv25) (.cons (Dp.mono (hide_mono s6) _ _ hv5) .nil)))) (B6.new hb _) (Same.trans e15 (But.of s6))
theorem ok_free (T : Top K w mg) : ∀ n : Nat, FnOk P w K mg base CX0 (n + 2) T.a_free_test T.d_free_test ["_law_box_here", "_law_words", "_law_deep_here"] (spFree K n)
  | 0 => ok_free0 T
  | n + 1 => ok_free1 T (ok_free T n)
end
end Bl

namespace Bl
open PySem L2
open SX (S)
/-! short words: array_get_dec closes a side condition; array_mem_dec goes one step into a reading; sizeOf_list_dec goes on while it can -/
local macro_rules | `(tactic| array_get_dec) => `(tactic| first
  | rfl
  | assumption
  | exact upd_same
  | exact SqL.of upd_same
  | exact SqT.of upd_same
  | ((with_reducible apply SqL.of); assumption)
  | ((with_reducible apply SqT.of); assumption)
  | exact Same.refl _
  | exact .ty _
  | exact .str _
  | exact .int _
  | exact ⟨_, rfl⟩
  | ((with_reducible apply Dp.ty); assumption)
  | (with_reducible exact kit_d some_str)
  | (with_reducible exact kit_d some_int)
  | (with_reducible exact kit_d some_bool)
  | (with_reducible exact kit_d some_list)
  | (with_reducible exact kit_d some_tuple)
  | ((with_reducible apply Bl.get_new); assumption; array_get_dec)
  | ((with_reducible apply Bl.seq_new); assumption; array_get_dec)
  | ((with_reducible apply Bl.tup_new); assumption; array_get_dec)
  | ((with_reducible apply Bl.dp_new); assumption; array_get_dec)
  | ((with_reducible apply Bl.dpa_new); assumption; array_get_dec)
  | ((with_reducible apply Bl.same_nw); assumption; array_get_dec)
  | ((with_reducible apply Bl.get_tr); assumption; array_get_dec)
  | ((with_reducible apply Bl.seq_tr); assumption; array_get_dec)
  | ((with_reducible apply Bl.tup_tr); assumption; array_get_dec)
  | ((with_reducible apply Bl.dp_tr); assumption; array_get_dec)
  | ((with_reducible apply Bl.dpa_tr); assumption; array_get_dec)
  | ((with_reducible apply Bl.same_tr); assumption; array_get_dec)
  | ((with_reducible apply Dp.ty); assumption)
  | ((with_reducible apply Dp.ty); array_get_dec)
  | exact small (Nat.le_of_ble_eq_true rfl)
  | exact small' (Nat.le_of_ble_eq_true rfl)
  | ((with_reducible refine Or.inl ?_); array_get_dec)
  | ((with_reducible refine Or.inr ?_); array_get_dec)
  | ((with_reducible apply Bl.gEx); array_get_dec)
  | omega
  | exact small (by omega)
  | exact small' (by omega))
local macro_rules | `(tactic| array_mem_dec) => `(tactic| first
  | ((with_reducible apply Bl.gIte); first
    | (refine Bl.gT (by rfl) ?_)
    | (refine Bl.gF (by rfl) ?_))
  | ((fail_if_success (with_reducible apply Bl.gIte)); (fail_if_success (with_reducible apply Bl.gLoop)); (fail_if_success (with_reducible apply Bl.gComp)); (fail_if_success (with_reducible apply Bl.gWhile)); first
    | (with_reducible intro _ _)
    | (with_reducible intro _)
    | (refine And.intro (by array_get_dec) ?_)
    | (apply Bl.gEx)
    | (refine Or.inl (And.intro (by array_get_dec) ?_))
    | (refine Or.inr (And.intro (by array_get_dec) ?_))
    | (refine Or.inl ⟨_, by array_get_dec, ?_⟩)
    | (refine Or.inr ⟨_, by array_get_dec, ?_⟩)
    ))
local macro_rules | `(tactic| sizeOf_list_dec) => `(tactic| repeat array_mem_dec)

abbrev n_read_test : List Str := ["text", "words", "found"]
theorem sc_read_test : FnScope n_read_test ["text"] (defScope s_read_test) := ⟨rfl, rfl, rfl, by decide +kernel, rfl, by decide +kernel, by decide +kernel⟩
def parseD : PyData → Option Tst
  | .str z => parseW (TL.spl [32] 0 [] z.cps.toList)
  | _ => none
def spRTest {K : PySem.W.Frag} {w : World} {mg : Str → Option Value} (T : Top K w mg) : Sp := fun vs H Q E => ∃ (v : V) (d : PyData), vs = [v] ∧ Dp K H v d ∧ (∀ z, d = .str z → z.length ≤ 90000) ∧ match parseD d with
  | some t => ∀ H' x, Same H H' → Dp K H' x t.toD → Q x H'
  | none => ∀ cls e H', Rsd K T.C_LotsError T.C_Missing T.C_NothingLeft H' cls e ("InvalidTest", ["given"]) [v] → Same H H' → E cls e H'
section
variable {P : Program} {w : World} {K : PySem.W.Frag} {mg : Str → Option Value} {base : Heap}
theorem ok_read_test (T : Top K w mg) : FnOk P w K mg base (L2.CX P w) 20 T.a_read_test T.d_read_test ["text"] (spRTest T) := by
  refine T.F_read_test.okX sc_read_test (fun vs H Q E h => ?_) (fun cdv A outer s H vs Q E hr h => ?_)
  · obtain ⟨v, d, rfl, _⟩ := h
    rfl
  obtain ⟨v, d, rfl, hd, hz, k⟩ := h
  refine ⟨_, (pss_cons (ps_if (pt_not (pt_val (pe_callB call_isi (by rfl) T.z_isinstance (by decide +kernel) (pa_cons (pv 0) (pa_cons (pe_bltn (v := .ty "str") (by rfl) T.z_str (by decide +kernel) rfl) pa_nil))))) (pss_one (ps_raise rfl takes_ok (pmk_xc T.x_InvalidTest T.iC_InvalidTest T.tI_InvalidTest (oki_InvalidTest T) (hr.mono (by decide)) T.bi_InvalidTest pass0 rfl T.mc_InvalidTest (pa_cons (pv 0) pa_nil)))) pss_nil)
    (pss_cons (ps_set (i := 1) sc_read_test.nd rfl (Or.inl rfl) (pe_split (pv 0) pe_str))
    (pss_cons (ps_set (i := 2) sc_read_test.nd rfl (Or.inl rfl) (pe_call (ok_from T 7) (hr.mono (by decide)) rfl T.m_read_from T.F_read_from.kp T.b_read_from .nil pass0 (pa_cons (pv 1) (pa_cons pe_int (pa_cons (pe_glob rfl T.c_DEEPEST T.r_DEEPEST) pa_nil)))))
    (pss_cons (ps_if (PW.pt (pw_or (pt_cmpR op_isN (pv 2) pe_non (nomark _)) (pw_or1 (pt_cmpR op_ne (pe_ix ix_tup (pv 2) pe_int (fun _ _ => rfl)) (pe_callB call_len_seq (by rfl) T.z_len (by decide +kernel) (pa_cons (pv 1) pa_nil)) (nomark _))))) (pss_one (ps_raise rfl takes_ok (pmk_xc T.x_InvalidTest T.iC_InvalidTest T.tI_InvalidTest (oki_InvalidTest T) (hr.mono (by decide)) T.bi_InvalidTest pass0 rfl T.mc_InvalidTest (pa_cons (pv 0) pa_nil)))) pss_nil)
    (pss_one (ps_ret (pe_ix ix_tup (pv 2) pe_int (fun _ _ => rfl)))))))), ?_⟩
  have bad : parseD d = none → ∀ G, Same H G → _ := fun hp G e => by
    rw [hp] at k
    exact raise_full (G := G) (ys := [v]) T.x_InvalidTest T.xq_InvalidTest (by decide +kernel) rfl fun cls e' H'' r s => k cls e' H'' r (e.trans s)
  sizeOf_list_dec
  rw [isStr_eq]
  cases d with
  | str z =>
    obtain rfl : v = .str z := by cases hd; rfl
    have hz1 := hz z rfl
    refine iteF ?_
    sizeOf_list_dec
    obtain ⟨zl, rfl⟩ : ∃ zl, z = S zl := ⟨z.cps.toList, by unfold S; cases z; simp⟩
    rw [SX.S_len] at hz1
    have es : (Txt.split (S zl) " ").map V.str = (TL.spl [32] 0 [] zl).map wV := by
      rw [sp_eq, SX.split_S (by decide) (by decide), List.map_map]
      rfl
    have ep : parseD (.str (S zl)) = parseW (TL.spl [32] 0 [] zl) := by
      show parseW (TL.spl [32] 0 [] (S zl).cps.toList) = _
      rw [show (S zl).cps.toList = zl by simp [S]]
    have hw : ∀ x ∈ TL.spl [32] 0 [] zl, x.length ≤ 100000 := fun x hx => by
      have := spl_len zl 0 [] x hx
      simp only [List.length_nil] at this
      omega
    have hn : (TL.spl [32] 0 [] zl).length ≤ 100000 := by
      have := spl_many 32 zl []
      omega
    rw [ep] at bad k
    generalize TL.spl [32] 0 [] zl = ws at *
    intro p hp
    rw [es]
    sizeOf_list_dec
    refine ⟨show _ = [V.ref p, V.int ((([] : List Wd).length : Nat) : Int), V.int ((6 : Nat) : Int)] from rfl, by decide, SqL.of upd_same, ?_, hw, ?_⟩
    · rw [List.length_nil]
      omega
    have e1 := same_new hp (.lst (ws.map wV))
    have hS : SqL K (upd H p (.lst (ws.map wV))) p (ws.map wV) := SqL.of upd_same
    generalize upd H p (.lst (ws.map wV)) = H1 at *
    cases er : rdS 6 ws with
    | none =>
      intro H2 e2
      sizeOf_list_dec
      exact bad (by unfold parseW; rw [er]) H2 (e1.trans e2)
    | some q =>
      obtain ⟨t, rest⟩ := q
      intro H2 p2 v2 e2 hp2 hv2
      sizeOf_list_dec
      have h1 : atI [v2, V.int ((([] ++ ws : List Wd).length : Int) - (rest.length : Int))] 1 = some (V.int ((([] ++ ws : List Wd).length : Int) - (rest.length : Int))) := at1
      have h0 : atI [v2, V.int ((([] ++ ws : List Wd).length : Int) - (rest.length : Int))] 0 = some v2 := at0
      sizeOf_list_dec
      cases rest with
      | nil =>
        have ee : parseW ws = some t := by unfold parseW; rw [er]
        rw [ee] at k
        refine iteFk ?_ ?_
        · simp
        sizeOf_list_dec
        exact k H2 v2 (e1.trans e2) hv2
      | cons y ys =>
        refine iteTk ?_ ?_
        · simp
          omega
        sizeOf_list_dec
        exact bad (by unfold parseW; rw [er]) H2 (e1.trans e2)
  | _ =>
    sizeOf_list_dec
    exact bad rfl H (Same.refl _)
end
end Bl

namespace Bl
open PySem L2
open SX (S)
/-! short words: array_get_dec closes a side condition; array_mem_dec goes one step into a reading; sizeOf_list_dec goes on while it can -/
local macro_rules | `(tactic| array_get_dec) => `(tactic| first
  | rfl
  | assumption
  | exact upd_same
  | exact SqL.of upd_same
  | exact SqT.of upd_same
  | ((with_reducible apply SqL.of); assumption)
  | ((with_reducible apply SqT.of); assumption)
  | exact Same.refl _
  | exact .ty _
  | exact .str _
  | exact .int _
  | exact ⟨_, rfl⟩
  | ((with_reducible apply Dp.ty); assumption)
  | (with_reducible exact kit_d some_str)
  | (with_reducible exact kit_d some_int)
  | (with_reducible exact kit_d some_bool)
  | (with_reducible exact kit_d some_list)
  | (with_reducible exact kit_d some_tuple)
  | ((with_reducible apply Bl.get_new); assumption; array_get_dec)
  | ((with_reducible apply Bl.seq_new); assumption; array_get_dec)
  | ((with_reducible apply Bl.tup_new); assumption; array_get_dec)
  | ((with_reducible apply Bl.dp_new); assumption; array_get_dec)
  | ((with_reducible apply Bl.dpa_new); assumption; array_get_dec)
  | ((with_reducible apply Bl.same_nw); assumption; array_get_dec)
  | ((with_reducible apply Bl.get_tr); assumption; array_get_dec)
  | ((with_reducible apply Bl.seq_tr); assumption; array_get_dec)
  | ((with_reducible apply Bl.tup_tr); assumption; array_get_dec)
  | ((with_reducible apply Bl.dp_tr); assumption; array_get_dec)
  | ((with_reducible apply Bl.dpa_tr); assumption; array_get_dec)
  | ((with_reducible apply Bl.same_tr); assumption; array_get_dec)
  | ((with_reducible apply Dp.ty); assumption)
  | ((with_reducible apply Dp.ty); array_get_dec)
  | exact small (Nat.le_of_ble_eq_true rfl)
  | exact small' (Nat.le_of_ble_eq_true rfl)
  | ((with_reducible refine Or.inl ?_); array_get_dec)
  | ((with_reducible refine Or.inr ?_); array_get_dec)
  | ((with_reducible apply Bl.gEx); array_get_dec)
  | omega
  | exact small (by omega)
  | exact small' (by omega))
local macro_rules | `(tactic| array_mem_dec) => `(tactic| first
  | ((with_reducible apply Bl.gIte); first
    | (refine Bl.gT (by rfl) ?_)
    | (refine Bl.gF (by rfl) ?_))
  | ((fail_if_success (with_reducible apply Bl.gIte)); (fail_if_success (with_reducible apply Bl.gLoop)); (fail_if_success (with_reducible apply Bl.gComp)); (fail_if_success (with_reducible apply Bl.gWhile)); first
    | (with_reducible intro _ _)
    | (with_reducible intro _)
    | (refine And.intro (by array_get_dec) ?_)
    | (apply Bl.gEx)
    | (refine Or.inl (And.intro (by array_get_dec) ?_))
    | (refine Or.inr (And.intro (by array_get_dec) ?_))
    | (refine Or.inl ⟨_, by array_get_dec, ?_⟩)
    | (refine Or.inr ⟨_, by array_get_dec, ?_⟩)
    ))
local macro_rules | `(tactic| sizeOf_list_dec) => `(tactic| repeat array_mem_dec)

abbrev n_test_words : List Str := ["_law_test", "_law_found", "_law_part"]
theorem sc_test_words : FnScope n_test_words ["_law_test"] (defScope s_test_words) := ⟨rfl, rfl, rfl, by decide +kernel, rfl, by decide +kernel, by decide +kernel⟩
abbrev n_deep : List Str := ["_law_test", "_law_part"]
theorem sc_deep : FnScope n_deep ["_law_test"] (defScope s_deep) := ⟨rfl, rfl, rfl, by decide +kernel, rfl, by decide +kernel, by decide +kernel⟩
def spTWords (K : PySem.W.Frag) (n : Nat) : Sp := fun vs H Q _ => ∃ (v : V) (t : Tst), vs = [v] ∧ Dp K H v t.toD ∧ t.deep ≤ n ∧ t.wd.length ≤ 100000 ∧ ∀ H' p, Same H H' → H' p = some (.lst (t.wd.map wV)) → H p = none → Q (.ref p) H'
def spTDeep (K : PySem.W.Frag) (n : Nat) : Sp := fun vs H Q _ => ∃ (v : V) (t : Tst), vs = [v] ∧ Dp K H v t.toD ∧ t.deep ≤ n ∧ ∀ H', Same H H' → Q (.int t.deep) H'
section
variable {P : Program} {w : World} {K : PySem.W.Frag} {mg : Str → Option Value} {base : Heap}
theorem ok_twords0 (T : Top K w mg) : FnOk P w K mg base CX0 1 T.a_test_words T.d_test_words ["_law_test"] (spTWords K 0) := by
  have no : ∀ vs H Q E, ¬ spTWords K 0 vs H Q E := fun vs H Q E h => by
    obtain ⟨v, t, _, _, h1, _⟩ := h
    have := t.deep_pos
    omega
  exact ⟨fun vs H Q E h => absurd h (no vs H Q E), fun A outer s H args us vs Q E _ _ _ _ h => absurd h (no vs H Q E)⟩
theorem ok_twords1 (T : Top K w mg) {n : Nat} (G : FnOk P w K mg base CX0 (n + 1) T.a_test_words T.d_test_words ["_law_test"] (spTWords K n)) : FnOk P w K mg base CX0 (n + 2) T.a_test_words T.d_test_words ["_law_test"] (spTWords K (n + 1)) := by
  refine T.F_test_words.ok sc_test_words (fun vs H Q E h => ?_) (fun cdv A outer s H vs Q E hr h => ?_)
  · obtain ⟨v, t, rfl, _⟩ := h
    rfl
  obtain ⟨v, t, rfl, hv, hn, hz, k⟩ := h
  refine ⟨_, (pss_cons (ps_if (pt_cmpR op_in_seq (pe_ix ix_tup (pv 0) pe_int (fun _ _ => rfl)) (pe_tup (pa_cons pe_str (pa_cons pe_str pa_nil))) rfl) (pss_one (ps_ret (pe_callTy call_list_of (by rfl) T.z_list (by decide +kernel) (pa_cons (pv 0) pa_nil)))) pss_nil)
    (pss_cons (ps_set (i := 1) sc_test_words.nd rfl (Or.inl rfl) (pe_lst (pa_cons (pe_ix ix_tup (pv 0) pe_int (fun _ _ => rfl)) pa_nil)))
    (pss_cons (ps_for PassesOwn.never rfl (pi_tup (pe_slice sl_tupA (pv 0) (po_some pe_int) po_none)) (pg_name (i := 2) sc_test_words.nd rfl (Or.inl rfl))
    (pss_one (ps_set (i := 1) sc_test_words.nd rfl (Or.inl rfl) (pe_op op_cat (pv 1) (pe_call G hr rfl T.m_test_words T.F_test_words.kp T.b_test_words .nil pass0 (pa_cons (pv 2) pa_nil))))))
    (pss_one (ps_ret (pv 1)))))), ?_⟩
  rcases inner_of t with ⟨c, g, rfl⟩ | ⟨g, rfl⟩ | ⟨h, us, e1, e2, n1, n2, hu, _, _, _⟩
  · obtain ⟨a, x, y, z, rfl, hs, hx, hy, hz⟩ := Dp.tup3 hv
    obtain rfl := Dp.str1 hx
    obtain rfl := Dp.str1 hy
    obtain rfl := Dp.str1 hz
    have h0 : atI [V.str "is", .str (S c), .str (S g)] 0 = some (.str "is") := at0
    sizeOf_list_dec
    rename_i t1 f1 l1 f2
    refine k _ l1 ((same_new f1 _).trans (same_new f2 _)) ?_ ((same_new f1 _).free f2)
    rw [upd_same, is_eq']
    rfl
  · obtain ⟨a, x, y, rfl, hs, hx, hy⟩ := Dp.tup2 hv
    obtain rfl := Dp.str1 hx
    obtain rfl := Dp.str1 hy
    have h0 : atI [V.str "has", .str (S g)] 0 = some (.str "has") := at0
    sizeOf_list_dec
    rename_i t1 f1 l1 f2
    refine k _ l1 ((same_new f1 _).trans (same_new f2 _)) ?_ ((same_new f1 _).free f2)
    rw [upd_same, has_eq']
    rfl
  · rw [e1] at hv
    rw [e2] at hz k
    obtain ⟨a, x, ys, rfl, hs, hx, hy⟩ := Dp.tupC hv
    obtain rfl := Dp.str1 hx
    have h0 : atI (V.str (S h) :: ys) 0 = some (.str (S h)) := at0
    have hno : inV (V.str (S h)) [V.str "is", .str "has"] = false := inV_leafs n1 n2
    sizeOf_list_dec
    refine gF hno ?_
    sizeOf_list_dec
    rename_i t1 f1 l1 f2
    refine ⟨fun q => absurd q.1 six_one, fun _ b fb => ?_⟩
    rw [cut_one]
    have e3 := (same_new f1 (.tup [V.str "is", .str "has"])).trans ((same_new f2 (.lst [V.str (S h)])).trans (same_new fb (.tup ys)))
    have hb : upd (upd (upd H t1 (.tup [V.str "is", .str "has"])) l1 (.lst [V.str (S h)])) b (.tup ys) b = some (.tup ys) := upd_same
    have hl1 : upd (upd (upd H t1 (.tup [V.str "is", .str "has"])) l1 (.lst [V.str (S h)])) b (.tup ys) l1 = some (.lst [V.str (S h)]) := by array_get_dec
    have fl : H l1 = none := (same_new f1 _).free f2
    generalize upd (upd (upd H t1 (.tup [V.str "is", .str "has"])) l1 (.lst [V.str (S h)])) b (.tup ys) = H1 at *
    sizeOf_list_dec
    refine for_tup (K := K) (a := b) (xs := ys) (fun j σ H2 => Hold (∃ (q : Addr) (o : Option V), σ = [some (.ref a), some (.ref q), o] ∧ Same H1 H2 ∧ H q = none ∧ H2 q = some (.lst ((h :: ((us.take j).map Tst.wd).flatten).map wV)))) ?_ ?_ ?_ ?_
    · exact ⟨l1, none, rfl, Same.refl _, fl, hl1⟩
    · rintro j σ H2 _ ⟨q, o, _, e4, _, _⟩
      exact Same.tup e4 (SqT.of hb)
    · rintro j x σ H2 hj ⟨q, o, rfl, e4, hq, hq2⟩
      obtain ⟨d, hd, hxd⟩ := DpAll.get hy hj
      rw [List.getElem?_map] at hd
      cases eu : us[j]? with
      | none =>
        rw [eu] at hd
        cases hd
      | some u =>
      rw [eu] at hd
      obtain rfl := (Option.some.inj hd).symm
      have hmu := List.mem_of_getElem? eu
      have hdu := hu u hmu
      have hfl : (((us.take j).map Tst.wd).flatten).length + u.wd.length ≤ 100000 := by
        have h1 : (us.take (j + 1)).map Tst.wd = (us.take j).map Tst.wd ++ [u.wd] := by
          rw [List.take_add_one, eu, List.map_append]
          rfl
        have h2 : (((us.take (j + 1)).map Tst.wd).flatten).length ≤ ((us.map Tst.wd).flatten).length := by
          have : us.map Tst.wd = (us.take (j + 1)).map Tst.wd ++ (us.drop (j + 1)).map Tst.wd := by rw [← List.map_append, List.take_append_drop]
          rw [this, List.flatten_append, List.length_append]
          omega
        rw [h1, List.flatten_append, List.length_append] at h2
        simp only [List.flatten_cons, List.flatten_nil, List.append_nil, List.length_cons] at h2 hz
        omega
      have hsz : (List.map wV (h :: (List.map Tst.wd (List.take j us)).flatten)).length + (List.map wV u.wd).length ≤ sizeLine := small (by simp only [List.length_map, List.length_cons]; omega)
      sizeOf_list_dec
      rename_i H3 p3 e5 h3 f3 r fr
      refine ⟨r, _, rfl, e4.trans (e5.trans (same_new fr _)), (e3.trans (e4.trans e5)).free fr, ?_⟩
      rw [upd_same, List.take_add_one, eu, List.map_append, List.flatten_append]
      simp
    · rintro σ H2 ⟨q, o, rfl, e4, hq, hq2⟩
      sizeOf_list_dec
      refine k H2 q (e3.trans e4) ?_ hq
      rw [hq2, DpAll.len hy, List.length_map, List.take_of_length_le (Nat.le_refl _)]
theorem ok_twords (T : Top K w mg) : ∀ n : Nat, FnOk P w K mg base CX0 (n + 1) T.a_test_words T.d_test_words ["_law_test"] (spTWords K n)
  | 0 => ok_twords0 T
  | n + 1 => ok_twords1 T (ok_twords T n)
theorem max_fold : ∀ (ns : List Int) (m : Int), m ∈ ns → (∀ y, y ∈ ns → y ≤ m) → ∀ ms : List Nat, ns = ms.map Int.ofNat → m = ((ms.foldl max 0 : Nat) : Int) := by
  intro ns m hm hall ms e
  subst e
  obtain ⟨k, hk, rfl⟩ := List.mem_map.mp hm
  have h1 : ∀ (l : List Nat) (a : Nat), a ≤ l.foldl max a ∧ ∀ x ∈ l, x ≤ l.foldl max a := by
    intro l
    induction l with
    | nil => intro a; exact ⟨Nat.le_refl _, fun x hx => nomatch hx⟩
    | cons y l ih =>
      intro a
      obtain ⟨i1, i2⟩ := ih (max a y)
      refine ⟨Nat.le_trans (Nat.le_max_left a y) i1, fun x hx => ?_⟩
      rcases List.mem_cons.mp hx with rfl | hx
      · exact Nat.le_trans (Nat.le_max_right a x) i1
      · exact i2 x hx
  have h2 : ∀ (l : List Nat) (a b : Nat), a ≤ b → (∀ x ∈ l, x ≤ b) → l.foldl max a ≤ b := by
    intro l
    induction l with
    | nil => intro a b h _; exact h
    | cons y l ih =>
      intro a b h hx
      exact ih _ _ (Nat.max_le.mpr ⟨h, hx y List.mem_cons_self⟩) fun x hm => hx x (List.mem_cons_of_mem _ hm)
  have a1 := (h1 ms 0).2 k hk
  have a2 := h2 ms 0 k (Nat.zero_le _) fun x hx => by
    have := hall (Int.ofNat x) (List.mem_map.mpr ⟨x, hx, rfl⟩)
    exact Int.ofNat_le.mp this
  rw [show ms.foldl max 0 = k from Nat.le_antisymm a2 a1]
  rfl
theorem ok_deep0 (T : Top K w mg) : FnOk P w K mg base CX0 1 T.a_deep T.d_deep ["_law_test"] (spTDeep K 0) := by
  have no : ∀ vs H Q E, ¬ spTDeep K 0 vs H Q E := fun vs H Q E h => by
    obtain ⟨v, t, _, _, h1, _⟩ := h
    have := t.deep_pos
    omega
  exact ⟨fun vs H Q E h => absurd h (no vs H Q E), fun A outer s H args us vs Q E _ _ _ _ h => absurd h (no vs H Q E)⟩
theorem ok_deep1 (T : Top K w mg) {n : Nat} (G : FnOk P w K mg base CX0 (n + 1) T.a_deep T.d_deep ["_law_test"] (spTDeep K n)) : FnOk P w K mg base CX0 (n + 2) T.a_deep T.d_deep ["_law_test"] (spTDeep K (n + 1)) := by
  refine T.F_deep.ok sc_deep (fun vs H Q E h => ?_) (fun cdv A outer s H vs Q E hr h => ?_)
  · obtain ⟨v, t, rfl, _⟩ := h
    rfl
  obtain ⟨v, t, rfl, hv, hn, k⟩ := h
  refine ⟨_, (pss_one (ps_ret (pe_ifExp (pt_cmpR op_in_seq (pe_ix ix_tup (pv 0) pe_int (fun _ _ => rfl)) (pe_tup (pa_cons pe_str (pa_cons pe_str pa_nil))) rfl) pe_int (pe_op op_add pe_int (pe_callB (cr_max rfl) (by rfl) T.z_max (by decide +kernel) (pa_cons (pe_lc (own := [("_law_part", 1)]) (g := gName 1) (tt := tYes) rfl sc_deep.nd (pi_tup (pe_slice sl_tupA (pv 0) (po_some pe_int) po_none)) (blkOk_by (own := [("_law_part", 1)]) (N := n_deep) (sc := defScope s_deep) (by decide +kernel)) (fun _ _ _ _ _ => (pg_name (i := 1) sc_deep.nd rfl (Or.inl rfl))) (fun _ _ _ _ _ => pts_nil) (fun _ _ _ _ _ => (pe_call G hr rfl T.m_deep T.F_deep.kp T.b_deep .nil pass0 (pa_cons (pv 1) pa_nil)))) pa_nil)))))), ?_⟩
  rcases inner_of t with ⟨c, g, rfl⟩ | ⟨g, rfl⟩ | ⟨h, us, e1, e2, n1, n2, hu, hne, h2, hdp⟩
  · obtain ⟨a, x, y, z, rfl, hs, hx, hy, hz⟩ := Dp.tup3 hv
    obtain rfl := Dp.str1 hx
    have h0 : atI [V.str "is", y, z] 0 = some (.str "is") := at0
    sizeOf_list_dec
    exact k _ (same_new (by assumption) _)
  · obtain ⟨a, x, y, rfl, hs, hx, hy⟩ := Dp.tup2 hv
    obtain rfl := Dp.str1 hx
    have h0 : atI [V.str "has", y] 0 = some (.str "has") := at0
    sizeOf_list_dec
    exact k _ (same_new (by assumption) _)
  · rw [e1] at hv
    obtain ⟨a, x, ys, rfl, hs, hx, hy⟩ := Dp.tupC hv
    obtain rfl := Dp.str1 hx
    have h0 : atI (V.str (S h) :: ys) 0 = some (.str (S h)) := at0
    have hno := inV_leafs n1 n2
    sizeOf_list_dec
    refine gF hno ?_
    sizeOf_list_dec
    rename_i t1 f1
    refine ⟨fun q => absurd q.1 six_one, fun _ b fb => ?_⟩
    rw [cut_one]
    have e3 := (same_new f1 (.tup [V.str "is", .str "has"])).trans (same_new fb (.tup ys))
    have hb : upd (upd H t1 (.tup [V.str "is", .str "has"])) b (.tup ys) b = some (.tup ys) := upd_same
    generalize upd (upd H t1 (.tup [V.str "is", .str "has"])) b (.tup ys) = H1 at *
    sizeOf_list_dec
    rename_i D fD
    refine lc_tup (K := K) (a := b) (xs := ys) (fun j H2 => Hold (Same H1 H2 ∧ H2 D = some (.lst (((us.take j).map fun u => Int.ofNat u.deep).map V.int)))) ?_ ?_ ?_ ?_
    · exact ⟨same_new fD _, upd_same⟩
    · rintro j H2 _ ⟨e4, _⟩
      exact Same.tup e4 (SqT.of hb)
    · rintro j x H2 hj ⟨e4, hD⟩
      obtain ⟨d, hd, hxd⟩ := DpAll.get hy hj
      rw [List.getElem?_map] at hd
      cases eu : us[j]? with
      | none =>
        rw [eu] at hd
        cases hd
      | some u =>
      rw [eu] at hd
      obtain rfl := (Option.some.inj hd).symm
      have hmu := List.mem_of_getElem? eu
      have hdu := hu u hmu
      have hln : (((us.take j).map fun u => Int.ofNat u.deep).map V.int).length < sizeLine := small' (by simp only [List.length_map, List.length_take]; omega)
      sizeOf_list_dec
      refine ⟨(Same.mut (e4.trans (by assumption)) fD _), ?_⟩
      rw [upd_same, List.take_add_one, eu, List.map_append, List.map_append]
      rfl
    · rintro H2 ⟨e4, hD⟩
      have hlen : 0 < (us.map fun u => Int.ofNat u.deep).length := by
        rw [List.length_map]
        exact List.length_pos_iff.mpr hne
      rw [DpAll.len hy, List.length_map, List.take_of_length_le (Nat.le_refl _)] at hD
      refine ⟨D, _, rfl, SqL.of hD, hlen, fun m hm hall => ?_⟩
      have em := max_fold _ m hm hall (us.map Tst.deep) (by rw [List.map_map]; rfl)
      sizeOf_list_dec
      have := k H2 (e3.trans e4)
      rw [hdp] at this
      rw [em]
      exact this
theorem ok_deep (T : Top K w mg) : ∀ n : Nat, FnOk P w K mg base CX0 (n + 1) T.a_deep T.d_deep ["_law_test"] (spTDeep K n)
  | 0 => ok_deep0 T
  | n + 1 => ok_deep1 T (ok_deep T n)
end
end Bl

namespace Bl
open PySem L2
abbrev n_field : List Str := ["_law_e"]
theorem sc_field : FnScope n_field ["_law_e"] (defScope s_field) := ⟨rfl, rfl, rfl, by decide +kernel, rfl, by decide +kernel, by decide +kernel⟩
section
variable {P : Program} {w : World} {K : PySem.W.Frag} {mg : Str → Option Value} {base : Heap}
theorem okh_field (T : Top K w mg) : FnP P w K mg base 1 T.a_field T.d_field ["_law_e"] (spFieldH K) := by
  refine okP T.F_field sc_field (fun a cls d vs H Q E h => ?_) (fun cdv A outer s H vs Q p cls d hz hf hr h => ?_)
  · obtain ⟨r, ys, ds, rfl, _⟩ := h
    rfl
  obtain ⟨r, ys, ds, rfl, h, hd, k⟩ := h
  obtain ⟨C, dd, rfl, rfl, X, N, hrow, h5, h4⟩ := h.ex
  have tb := List.all_eq_true.mp fieldR_all r hrow
  unfold fieldR oneR twoR at tb
  clear h
  refine ⟨_, (pss_cons (ps_if (pt_cmpR op_in_seq (pe_xp (p := p) (List.mem_singleton.mpr rfl) hz hf (pv 0)) (pe_lst (pa_cons pe_str (pa_cons pe_str (pa_cons pe_str (pa_cons pe_str (pa_cons pe_str (pa_cons pe_str (pa_cons pe_str pa_nil)))))))) rfl) (pss_one (ps_ret (pe_xp (p := p) (List.mem_singleton.mpr rfl) hz hf (pv 0)))) pss_nil)
    (pss_cons (ps_if (pt_cmpR op_in_seq (pe_xp (p := p) (List.mem_singleton.mpr rfl) hz hf (pv 0)) (pe_lst (pa_cons pe_str (pa_cons pe_str (pa_cons pe_str (pa_cons pe_str pa_nil))))) rfl) (pss_one (ps_ret (pe_xp (p := p) (List.mem_singleton.mpr rfl) hz hf (pv 0)))) pss_nil)
    (pss_cons (ps_if (pt_cmpR op_eq (pe_xp (p := p) (List.mem_singleton.mpr rfl) hz hf (pv 0)) pe_str (nomark _)) (pss_one (ps_ret (pe_tup (pa_cons (pe_xp (p := p) (List.mem_singleton.mpr rfl) hz hf (pv 0)) (pa_cons (pe_xp (p := p) (List.mem_singleton.mpr rfl) hz hf (pv 0)) pa_nil))))) pss_nil)
    (pss_cons (ps_if (pt_cmpR op_eq (pe_xp (p := p) (List.mem_singleton.mpr rfl) hz hf (pv 0)) pe_str (nomark _)) (pss_one (ps_ret (pe_tup (pa_cons (pe_xp (p := p) (List.mem_singleton.mpr rfl) hz hf (pv 0)) (pa_cons (pe_xp (p := p) (List.mem_singleton.mpr rfl) hz hf (pv 0)) pa_nil))))) pss_nil)
    (pss_cons (ps_if (pt_cmpR op_in_seq (pe_xp (p := p) (List.mem_singleton.mpr rfl) hz hf (pv 0)) (pe_lst (pa_cons pe_str (pa_cons pe_str (pa_cons pe_str pa_nil)))) rfl) (pss_one (ps_ret (pe_xp (p := p) (List.mem_singleton.mpr rfl) hz hf (pv 0)))) pss_nil)
    (pss_cons (ps_if (pt_cmpR op_in_seq (pe_xp (p := p) (List.mem_singleton.mpr rfl) hz hf (pv 0)) (pe_lst (pa_cons pe_str (pa_cons pe_str pa_nil))) rfl) (pss_one (ps_ret (pe_xp (p := p) (List.mem_singleton.mpr rfl) hz hf (pv 0)))) pss_nil)
    (pss_cons (ps_if (pt_cmpR op_eq (pe_xp (p := p) (List.mem_singleton.mpr rfl) hz hf (pv 0)) pe_str (nomark _)) (pss_one (ps_ret (pe_xp (p := p) (List.mem_singleton.mpr rfl) hz hf (pv 0)))) pss_nil)
    (pss_cons (ps_if (pt_cmpR op_eq (pe_xp (p := p) (List.mem_singleton.mpr rfl) hz hf (pv 0)) pe_str (nomark _)) (pss_one (ps_ret (pe_xp (p := p) (List.mem_singleton.mpr rfl) hz hf (pv 0)))) pss_nil)
    (pss_one (ps_ret (pe_ifExp (pt_cmpR op_eq (pe_xp (p := p) (List.mem_singleton.mpr rfl) hz hf (pv 0)) pe_str (nomark _)) (pe_xp (p := p) (List.mem_singleton.mpr rfl) hz hf (pv 0)) pe_non))))))))))), ?_⟩
  refine ⟨_, rfl, C, dd, _, _, rfl, rfl, rfl, X, N.code, h4, rfl, (by show 7 ≤ sizeLine; decide), fun p1 q1 => ?_⟩
  have e1 := same_new q1 (.lst [.str "InvalidName", .str "InvalidKey", .str "InvalidTest", .str "InvalidThing", .str "InvalidSetting", .str "InvalidWord", .str "InvalidNumber"])
  replace h4 := e1 _ _ h4
  replace hd := DpAll.mono (e1) _ _ hd
  replace k := fun v H' (e : Same _ H') => k v H' (e1.trans e)
  refine ⟨p1, [.str "InvalidName", .str "InvalidKey", .str "InvalidTest", .str "InvalidThing", .str "InvalidSetting", .str "InvalidWord", .str "InvalidNumber"], rfl, .inl (SqL.of upd_same), rfl, rfl, _, rfl, ?_⟩
  refine ite2 (fun c => ?_) (fun c => ?_)
  · rw [if_pos (show inV (.str r.1) l1 = true from c)] at tb
    have tb := of_decide_eq_true tb
    obtain ⟨y, rfl⟩ := one_of h5 tb
    exact ⟨_, rfl, C, dd, _, y, rfl, rfl, rfl, X, nof_one N tb, h4, lk_one tb (by decide +kernel), k _ _ (Same.refl _) (dp_one hd)⟩
  rw [if_neg (show ¬ inV (.str r.1) l1 = true from c)] at tb
  clear c
  refine ⟨_, rfl, C, dd, _, _, rfl, rfl, rfl, X, N.code, h4, rfl, (by show 4 ≤ sizeLine; decide), fun p1 q1 => ?_⟩
  have e1 := same_new q1 (.lst [.str "InvalidColumn", .str "InvalidSide", .str "InvalidStep", .str "InvalidCommand"])
  replace h4 := e1 _ _ h4
  replace hd := DpAll.mono (e1) _ _ hd
  replace k := fun v H' (e : Same _ H') => k v H' (e1.trans e)
  refine ⟨p1, [.str "InvalidColumn", .str "InvalidSide", .str "InvalidStep", .str "InvalidCommand"], rfl, .inl (SqL.of upd_same), rfl, rfl, _, rfl, ?_⟩
  refine ite2 (fun c => ?_) (fun c => ?_)
  · rw [if_pos (show inV (.str r.1) l2 = true from c)] at tb
    have tb := of_decide_eq_true tb
    obtain ⟨y, rfl⟩ := one_of h5 tb
    exact ⟨_, rfl, C, dd, _, y, rfl, rfl, rfl, X, nof_one N tb, h4, lk_one tb (by decide +kernel), k _ _ (Same.refl _) (dp_one hd)⟩
  rw [if_neg (show ¬ inV (.str r.1) l2 = true from c)] at tb
  clear c
  refine ⟨_, rfl, C, dd, _, _, rfl, rfl, rfl, X, N.code, h4, rfl, rfl, _, rfl, ?_⟩
  refine ite2 (fun c => ?_) (fun c => ?_)
  · rw [if_pos c] at tb
    have tb := of_decide_eq_true tb
    obtain ⟨y, z, rfl⟩ := two_of h5 tb
    refine ⟨_, rfl, C, dd, _, y, rfl, rfl, rfl, X, nof_fst N tb, h4, lk_fst tb (by decide +kernel) (by decide +kernel), ?_⟩
    refine ⟨_, rfl, C, dd, _, z, rfl, rfl, rfl, X, nof_snd N tb, h4, lk_snd tb (by decide +kernel), (by show 2 ≤ sizeLine; decide), fun p hp => ?_⟩
    have e := same_new hp (.tup [y, z])
    exact k _ _ e (dp_two (DpAll.mono e _ _ hd) (SqT.of upd_same))
  rw [if_neg c] at tb
  clear c
  refine ⟨_, rfl, C, dd, _, _, rfl, rfl, rfl, X, N.code, h4, rfl, rfl, _, rfl, ?_⟩
  refine ite2 (fun c => ?_) (fun c => ?_)
  · rw [if_pos c] at tb
    have tb := of_decide_eq_true tb
    obtain ⟨y, z, rfl⟩ := two_of h5 tb
    refine ⟨_, rfl, C, dd, _, y, rfl, rfl, rfl, X, nof_fst N tb, h4, lk_fst tb (by decide +kernel) (by decide +kernel), ?_⟩
    refine ⟨_, rfl, C, dd, _, z, rfl, rfl, rfl, X, nof_snd N tb, h4, lk_snd tb (by decide +kernel), (by show 2 ≤ sizeLine; decide), fun p hp => ?_⟩
    have e := same_new hp (.tup [y, z])
    exact k _ _ e (dp_two (DpAll.mono e _ _ hd) (SqT.of upd_same))
  rw [if_neg c] at tb
  clear c
  refine ⟨_, rfl, C, dd, _, _, rfl, rfl, rfl, X, N.code, h4, rfl, (by show 3 ≤ sizeLine; decide), fun p1 q1 => ?_⟩
  have e1 := same_new q1 (.lst [.str "DuplicateName", .str "UnknownName", .str "UnknownColumn"])
  replace h4 := e1 _ _ h4
  replace hd := DpAll.mono (e1) _ _ hd
  replace k := fun v H' (e : Same _ H') => k v H' (e1.trans e)
  refine ⟨p1, [.str "DuplicateName", .str "UnknownName", .str "UnknownColumn"], rfl, .inl (SqL.of upd_same), rfl, rfl, _, rfl, ?_⟩
  refine ite2 (fun c => ?_) (fun c => ?_)
  · rw [if_pos (show inV (.str r.1) l5 = true from c)] at tb
    have tb := of_decide_eq_true tb
    obtain ⟨y, rfl⟩ := one_of h5 tb
    exact ⟨_, rfl, C, dd, _, y, rfl, rfl, rfl, X, nof_one N tb, h4, lk_one tb (by decide +kernel), k _ _ (Same.refl _) (dp_one hd)⟩
  rw [if_neg (show ¬ inV (.str r.1) l5 = true from c)] at tb
  clear c
  refine ⟨_, rfl, C, dd, _, _, rfl, rfl, rfl, X, N.code, h4, rfl, (by show 2 ≤ sizeLine; decide), fun p1 q1 => ?_⟩
  have e1 := same_new q1 (.lst [.str "TooMany", .str "Full"])
  replace h4 := e1 _ _ h4
  replace hd := DpAll.mono (e1) _ _ hd
  replace k := fun v H' (e : Same _ H') => k v H' (e1.trans e)
  refine ⟨p1, [.str "TooMany", .str "Full"], rfl, .inl (SqL.of upd_same), rfl, rfl, _, rfl, ?_⟩
  refine ite2 (fun c => ?_) (fun c => ?_)
  · rw [if_pos (show inV (.str r.1) l6 = true from c)] at tb
    have tb := of_decide_eq_true tb
    obtain ⟨y, rfl⟩ := one_of h5 tb
    exact ⟨_, rfl, C, dd, _, y, rfl, rfl, rfl, X, nof_one N tb, h4, lk_one tb (by decide +kernel), k _ _ (Same.refl _) (dp_one hd)⟩
  rw [if_neg (show ¬ inV (.str r.1) l6 = true from c)] at tb
  clear c
  refine ⟨_, rfl, C, dd, _, _, rfl, rfl, rfl, X, N.code, h4, rfl, rfl, _, rfl, ?_⟩
  refine ite2 (fun c => ?_) (fun c => ?_)
  · rw [if_pos c] at tb
    have tb := of_decide_eq_true tb
    obtain ⟨y, rfl⟩ := one_of h5 tb
    exact ⟨_, rfl, C, dd, _, y, rfl, rfl, rfl, X, nof_one N tb, h4, lk_one tb (by decide +kernel), k _ _ (Same.refl _) (dp_one hd)⟩
  rw [if_neg c] at tb
  clear c
  refine ⟨_, rfl, C, dd, _, _, rfl, rfl, rfl, X, N.code, h4, rfl, rfl, _, rfl, ?_⟩
  refine ite2 (fun c => ?_) (fun c => ?_)
  · rw [if_pos c] at tb
    have tb := of_decide_eq_true tb
    obtain ⟨y, rfl⟩ := one_of h5 tb
    exact ⟨_, rfl, C, dd, _, y, rfl, rfl, rfl, X, nof_one N tb, h4, lk_one tb (by decide +kernel), k _ _ (Same.refl _) (dp_one hd)⟩
  rw [if_neg c] at tb
  clear c
  refine ⟨_, rfl, C, dd, _, _, rfl, rfl, rfl, X, N.code, h4, rfl, rfl, _, rfl, ?_⟩
  refine ite2 (fun c => ?_) (fun c => ?_)
  · rw [if_pos c] at tb
    have tb := of_decide_eq_true tb
    obtain ⟨y, rfl⟩ := one_of h5 tb
    exact ⟨_, rfl, C, dd, _, y, rfl, rfl, rfl, X, nof_one N tb, h4, lk_one tb (by decide +kernel), k _ _ (Same.refl _) (dp_one hd)⟩
  rw [if_neg c] at tb
  have tb := of_decide_eq_true tb
  obtain rfl := nix_of h5 tb
  cases hd
  exact k _ _ (Same.refl _) .non
end
end Bl

namespace Bl
open PySem L2
abbrev n_got : List Str := ["_law_ask", "_law_e"]
theorem sc_got : FnScope n_got ["_law_ask"] (defScope s_got) := ⟨rfl, rfl, rfl, by decide +kernel, rfl, by decide +kernel, by decide +kernel⟩
/-- what the law's asker makes of a question: ("", answer), or the error's code and field -/
def Ecatch {K : PySem.W.Frag} {mg : Str → Option Value} (T : Top K w mg) (Q : VK) : XK := fun cls d H => ∃ (r : Str × List Str) (ys : List V) (ds : List PyData), InHand K H cls d r ys ∧ DpAll K H ys ds ∧
  PySem.W.exmAny K cls [.ref T.C_LotsError, .ref T.C_Missing, .ref T.C_NothingLeft] = some true ∧ ∀ (v : V) (H' : Hp), Same H H' → Dp K H' v (.tuple [.str r.1, datOf ds]) → Q v H'
def TGot {K : PySem.W.Frag} {mg : Str → Option Value} (T : Top K w mg) : (XK → Hp → VK → Prop) → Hp → VK → Prop := fun tl H Q =>
  tl (Ecatch T Q) H fun v G => ([.str "", v] : List V).length ≤ sizeLine ∧ ∀ t, G t = none → Q (.ref t) (upd G t (.tup [.str "", v]))
section
variable {X : Cx}
theorem got_gives (T : Top X.K X.w X.mg) {cdg : Value} {q : Str} (hr : Room 3 X.A) : LamX.GivesTo X n_got "_law_got" (defScope s_got) T.a_got cdg (defBody s_got) "_law_ask" q (TGot T) := by
  intro f c' s H Q tl act hc h
  have hr2 := hr.deeper (PyProof.Rows.envOfC "_law_got" (defScope s_got) s.heap.objs.size T.a_got cdg)
  refine ⟨_, pss_one (ps_try_as3 (X := (cxOf C8.CX0 X.prog X.w X.K X.mg X.base n_got "_law_got" (defScope s_got) T.a_got cdg X.A X.stack s H C8.E0).nox) (i := 1) (c1 := .ref T.C_LotsError) (c2 := .ref T.C_Missing) (c3 := .ref T.C_NothingLeft)
    (ts := fun a cls d => tRet (tTup (tCons (tXp X.K a cls d "code" (tVar 1)) (tCons (tCallP (spFieldH X.K) a cls d (tCons (tVar 1) tNil)) tNil))))
    (tb := fun W D σ G => ∃ Ech : XK, (∀ cls d σ' G', Ech cls d G' → W cls d σ' G') ∧
      tRet (tTup (tCons (tC (.str "")) (tCons (fun σZ HZ Q => σZ[0]? = some (some (.ref f)) ∧ HZ c' = some (LamX.CodeO c' q) ∧ tl Ech HZ Q) tNil))) D σ G)
    rfl rfl sc_got.nd rfl rfl ⟨rfl, by decide, .inl T.mc_LotsError⟩ ⟨rfl, by decide, .inl T.mc_Missing⟩ ⟨rfl, by decide, .inl T.mc_NothingLeft⟩ (fun W pn xe tk => ?_) (fun a oe cls d pn hz hf => ?_)), ?_⟩
  · refine ⟨fun pins s' σ G D I h' => ?_⟩
    obtain ⟨Ech, hW, h1⟩ := h'
    exact (pss_one (ps_ret (pe_tup (pa_cons pe_str (pa_cons (act W pn xe Ech _ _ tk hW) pa_nil))))).run pins s' σ G D I h1
  · exact pss_one (ps_ret (pe_tup (pa_cons (pe_xp (p := (a, oe)) List.mem_cons_self hz hf (pv 1)) (pa_cons (pe_callP (p := (a, oe)) (okh_field T) ⟨(hr2.mono (j := 1) (by decide)).dp, (hr2.mono (j := 1) (by decide)).un⟩ List.mem_cons_self hz hf rfl T.m_field T.F_field.kp T.b_field (pa_cons (pv 1) pa_nil)) pa_nil))))
  refine ⟨Ecatch T Q, fun cls d σ' G hE => ?_, ?_⟩
  · obtain ⟨r, ys, ds, hh, hd, hany, k⟩ := hE
    refine ⟨hany, fun a ha hl => ?_⟩
    obtain ⟨x, y, rfl⟩ : ∃ x y, σ' = [x, y] := by
      match σ', hl with
      | [x, y], _ => exact ⟨x, y, rfl⟩
    obtain ⟨C, dd, rfl, rfl, XC1, N, hrow, h5, h4⟩ := id hh.ex
    refine ⟨_, rfl, C, dd, _, _, rfl, rfl, rfl, XC1, N.code, h4, rfl, _, rfl, r, ys, ds, rfl, hh, hd, fun v G' e hv => ⟨(by show 2 ≤ sizeLine; decide), fun t ht => ?_⟩⟩
    have e2 := same_new ht (.tup [.str r.1, v])
    exact k _ _ (e.trans e2) (.tup (SqT.of upd_same) (.cons (.str _) (.cons (Dp.mono e2 _ _ hv) .nil)))
  · exact ⟨rfl, hc, h⟩
theorem pe_got (T : Top X.K X.w X.mg) {Tb : List (Addr × Str)} {c P : Addr} {k : Nat} {params : Arguments} {body : Expr} {scope : Scope} {t : XK → TE} {p lpos pos : Pos} (hg : Gl X "_law_got") (TB : LamX.TabB X.base X.mg c P) (hcode : X.env.code = .ref c)
    (hmT : (P, X.env.qual ++ "<lambda>") ∈ Tb) (hu : ∀ p ∈ Tb, p.1 = P → p.2 = X.env.qual ++ "<lambda>") (hr : Room (k + 2) X.A) (hr3 : Room 3 X.A) (L : LamX.LamS X.env.scope scope) (hdef : defaultsOf params X.env = ([], []))
    (hbind : ∀ (q : Str) (cl : List (Str × Addr)) (pm cv ctv : Value), bindArgs (PySem.W.kla_fn "<lambda>" q params body scope cl pm cv ctv) ⟨[], []⟩ = pure [])
    (hbody : ∀ (A : Around) (outer : List Env) (s : Shared) (H : Hp) (E : XK) (f c' : Addr), Room k (A.deeper (LamX.lamEnv X scope s.heap.objs.size f c')) →
      PE (LamX.lamCx X A outer s H E scope f c') body (t E)) :
    PE X (.Call (.Name "_law_got" p) [.Lambda params body scope lpos] [] pos) (LamX.tLam Tb (TGot T) t) := by
  obtain ⟨oc, od, kV, doc, pm, an, cdv, ct, osl, e, lk, hcg⟩ := T.F_got.ex
  rw [e] at lk
  exact LamX.pe_lamcall hg T.m_got T.F_got.kp lk hcg (by rw [← e]; exact T.b_got) sc_got rfl (.inl rfl) (got_gives T hr3) TB hcode hmT hu hr L hdef hbind hbody
/-- the same, not opened by the short words -/
@[irreducible] def tGL {K : PySem.W.Frag} {w : World} {mg : Str → Option Value} (T : Top K w mg) (Tb : List (Addr × Str)) (t : XK → TE) : TE := LamX.tLam Tb (TGot T) t
theorem pe_gl (T : Top X.K X.w X.mg) {Tb : List (Addr × Str)} {c P : Addr} {k : Nat} {params : Arguments} {body : Expr} {scope : Scope} {t : XK → TE} {p lpos pos : Pos} (hg : Gl X "_law_got") (TB : LamX.TabB X.base X.mg c P) (hcode : X.env.code = .ref c)
    (hmT : (P, X.env.qual ++ "<lambda>") ∈ Tb) (hu : ∀ p ∈ Tb, p.1 = P → p.2 = X.env.qual ++ "<lambda>") (hr : Room (k + 2) X.A) (hr3 : Room 3 X.A) (L : LamX.LamS X.env.scope scope) (hdef : defaultsOf params X.env = ([], []))
    (hbind : ∀ (q : Str) (cl : List (Str × Addr)) (pm cv ctv : Value), bindArgs (PySem.W.kla_fn "<lambda>" q params body scope cl pm cv ctv) ⟨[], []⟩ = pure [])
    (hbody : ∀ (A : Around) (outer : List Env) (s : Shared) (H : Hp) (E : XK) (f c' : Addr), Room k (A.deeper (LamX.lamEnv X scope s.heap.objs.size f c')) →
      PE (LamX.lamCx X A outer s H E scope f c') body (t E)) :
    PE X (.Call (.Name "_law_got" p) [.Lambda params body scope lpos] [] pos) (tGL T Tb t) := by
  unfold tGL
  exact pe_got T hg TB hcode hmT hu hr hr3 L hdef hbind hbody
end
end Bl

namespace Bl
open PySem L2
open SX (S)
/-! short words: array_get_dec closes a side condition; array_mem_dec goes one step into a reading; sizeOf_list_dec goes on while it can -/
local macro_rules | `(tactic| decreasing_trivial_pre_omega) => `(tactic| first
  | (with_reducible assumption)
  | ((with_reducible apply Bl.hn_nw); assumption; decreasing_trivial_pre_omega)
  | ((with_reducible apply Bl.hn_but); assumption; decreasing_trivial_pre_omega)
  | ((with_reducible apply Bl.hn_tr); assumption; decreasing_trivial_pre_omega)
  | ((with_reducible apply Bl.dhn_nw); assumption; decreasing_trivial_pre_omega)
  | ((with_reducible apply Bl.dhn_but); assumption; decreasing_trivial_pre_omega)
  | ((with_reducible apply Bl.dhn_tr); assumption; decreasing_trivial_pre_omega))
local macro_rules | `(tactic| array_get_dec) => `(tactic| first
  | (with_reducible assumption)
  | ((with_reducible apply Bl.gEq); first
    | rfl
    | assumption
    | exact upd_same
    | (with_reducible exact kit_d some_str)
    | (with_reducible exact kit_d some_int)
    | (with_reducible exact kit_d some_bool)
    | (with_reducible exact kit_d some_list)
    | (with_reducible exact kit_d some_tuple)
    | ((with_reducible apply Bl.get_new); assumption; array_get_dec)
    | ((with_reducible apply Bl.get_tr); assumption; array_get_dec)
    | ((with_reducible apply Bl.hn_get); decreasing_trivial_pre_omega)
    )
  | ((with_reducible apply Bl.gLe); first
    | omega
    | exact small (by omega)
    | exact small (by simp only [List.length_cons, List.length_nil]; decide)
    | exact small (by simp only [List.length_append, List.length_cons, List.length_nil]; omega)
    | decide)
  | ((with_reducible apply Bl.gLt); first
    | omega
    | exact small' (by omega)
    | exact small' (by simp only [List.length_cons, List.length_nil]; decide)
    | decide)
  | ((fail_if_success (with_reducible apply Bl.gEq)); (fail_if_success (with_reducible apply Bl.gLe)); (fail_if_success (with_reducible apply Bl.gLt)); first
    | assumption
    | exact SqL.of upd_same
    | exact SqT.of upd_same
    | ((with_reducible apply SqL.of); assumption)
    | ((with_reducible apply SqT.of); assumption)
    | exact Same.refl _
    | exact .ty _
    | exact .str _
    | exact .int _
    | exact ⟨_, rfl⟩
    | ((with_reducible apply Dp.ty); assumption)
    | ((with_reducible apply Bl.seq_new); assumption; array_get_dec)
    | ((with_reducible apply Bl.tup_new); assumption; array_get_dec)
    | ((with_reducible apply Bl.dp_new); assumption; array_get_dec)
    | ((with_reducible apply Bl.dpa_new); assumption; array_get_dec)
    | ((with_reducible apply Bl.same_nw); assumption; array_get_dec)
    | ((with_reducible apply Bl.seq_tr); assumption; array_get_dec)
    | ((with_reducible apply Bl.tup_tr); assumption; array_get_dec)
    | ((with_reducible apply Bl.dp_tr); assumption; array_get_dec)
    | ((with_reducible apply Bl.dpa_tr); assumption; array_get_dec)
    | ((with_reducible apply Bl.same_tr); assumption; array_get_dec)
    | ((with_reducible apply Dp.ty); assumption)
    | ((with_reducible apply Dp.ty); array_get_dec)
    | ((with_reducible refine Or.inl ?_); array_get_dec)
    | ((with_reducible refine Or.inr ?_); array_get_dec)
    | ((with_reducible apply Bl.seq_hn); decreasing_trivial_pre_omega)
    | ((with_reducible apply Bl.tup_hn); decreasing_trivial_pre_omega)
    | ((with_reducible apply Bl.dp_hn); decreasing_trivial_pre_omega)
    | ((with_reducible apply Bl.box_nw); assumption; array_get_dec)
    | ((with_reducible apply Bl.box_tr); assumption; array_get_dec)
    | ((with_reducible apply Bl.tabs_nw); assumption; array_get_dec)
    | ((with_reducible apply Bl.gEx); array_get_dec)))
local macro_rules | `(tactic| array_mem_dec) => `(tactic| first
  | ((with_reducible apply Bl.gIte); first
    | (refine Bl.gT (by rfl) ?_)
    | (refine Bl.gF (by rfl) ?_))
  | ((fail_if_success (with_reducible apply Bl.gIte)); (fail_if_success (with_reducible apply Bl.gLoop)); (fail_if_success (with_reducible apply Bl.gComp)); (fail_if_success (with_reducible apply Bl.gWhile)); (fail_if_success (with_reducible apply Bl.gLam)); first
    | (with_reducible intro _ _)
    | (with_reducible intro _)
    | (refine And.intro (by array_get_dec) ?_)
    | (apply Bl.gEx)
    | (refine Or.inl (And.intro (by array_get_dec) ?_))
    | (refine Or.inr (And.intro (by array_get_dec) ?_))
    | (refine Or.inl ⟨_, by array_get_dec, ?_⟩)
    | (refine Or.inr ⟨_, by array_get_dec, ?_⟩)
    ))
local macro_rules | `(tactic| sizeOf_list_dec) => `(tactic| repeat array_mem_dec)

abbrev n_law : List Str := ["_law_script", "_law_box_here", "_law_turn", "_law_words", "_law_test", "_law_due", "_law_row", "_law_at", "_law_way", "_law_bent", "_law_spoilt", "_law_again", "_law_odd_here", "_law_word"]
theorem sc_law : FnScope n_law ["_law_script"] (defScope s_law) := ⟨rfl, rfl, rfl, by decide +kernel, rfl, by decide +kernel, by decide +kernel⟩
def spLaw (K : PySem.W.Frag) (P : Addr) : Sp := fun vs H Q _ => ∃ (a : Addr) (ns : List Int), vs = [.ref a] ∧ SqL K H a (ns.map V.int) ∧ ns.length ≤ 63 ∧ H P = some (.tbl #[]) ∧ ∀ H', Q (.bl true) H'
section
variable {P : Program} {w : World} {K : PySem.W.Frag} {mg : Str → Option Value} {base : Heap}
def g1 {α : Type} (us ws : List α) : List α := match us, ws with | [], [a] => [a] | _, _ => []
theorem g1_rel {us : List Value} {vs : List V} {ws : List Value} {zs : List V} (r : Vals vs us) (r2 : Vals zs ws) : Vals (g1 vs zs) (g1 us ws) := by
  cases r with
  | nil =>
    cases r2 with
    | nil => exact .nil
    | cons a k =>
      cases k with
      | nil => exact .cons a .nil
      | cons _ _ => exact .nil
  | cons _ _ =>
    exact .nil
theorem g1_one {α : Type} : ∀ {us ws : List α}, (g1 us ws).length = 1 → ∃ a, us = [] ∧ ws = [a]
  | [], [a], _ => ⟨a, rfl, rfl⟩
theorem kb_read_test_text (T : Top K w mg) : KBinds K T.d_read_test ["text"] ["text"] g1 g1 := ⟨fun s us ws _ hl => by
  obtain ⟨a, rfl, rfl⟩ := g1_one hl
  obtain ⟨oc, od, kV, doc, pm, an, cdv, ct, osl, e, _⟩ := T.F_read_test.ex
  rw [e]
  exact .of_eq rfl, g1_rel⟩
def rtD (d : PyData) : PyData := match parseD d with
  | some t => .tuple [.str "", t.toD]
  | none => .tuple [.str "InvalidTest", d]
def OddOk (d : PyData) : Prop := parseD d = none ∧ Fits 3 d ∧ ∀ z, d = .str z → z.length ≤ 90000
theorem odds_ok : ∀ d ∈ odds, OddOk d := by
  intro d h
  rcases List.mem_cons.mp h with rfl | h
  · exact ⟨rfl, True.intro, fun z e => nomatch e⟩
  rcases List.mem_cons.mp h with rfl | h
  · exact ⟨rfl, True.intro, fun z e => nomatch e⟩
  rcases List.mem_cons.mp h with rfl | h
  · exact ⟨rfl, True.intro, fun z e => nomatch e⟩
  rcases List.mem_cons.mp h with rfl | h
  · exact ⟨by decide +kernel, True.intro, fun z e => by cases e; decide +kernel⟩
  rcases List.mem_cons.mp h with rfl | h
  · exact ⟨by decide +kernel, True.intro, fun z e => by cases e; decide +kernel⟩
  rcases List.mem_cons.mp h with rfl | h
  · exact ⟨by decide +kernel, True.intro, fun z e => by cases e; decide +kernel⟩
  rcases List.mem_cons.mp h with rfl | h
  · exact ⟨by decide +kernel, True.intro, fun z e => by cases e; decide +kernel⟩
  rcases List.mem_cons.mp h with rfl | h
  · exact ⟨rfl, True.intro, fun z e => nomatch e⟩
  rcases List.mem_cons.mp h with rfl | h
  · exact ⟨rfl, True.intro, fun z e => nomatch e⟩
  rcases List.mem_cons.mp h with rfl | h
  · refine ⟨rfl, ⟨by show 2 < 1000000; decide, fun d hd => ?_⟩, fun z e => nomatch e⟩
    rcases List.mem_cons.mp hd with rfl | hd
    · exact True.intro
    obtain rfl := List.mem_singleton.mp hd
    exact True.intro
  rcases List.mem_cons.mp h with rfl | h
  · refine ⟨rfl, ⟨by show 1 < 1000000; decide, fun d hd => ?_⟩, fun z e => nomatch e⟩
    obtain rfl := List.mem_singleton.mp hd
    exact True.intro
  rcases List.mem_cons.mp h with rfl | h
  · exact ⟨rfl, ⟨by show 0 < 1000000; decide, fun d hd => nomatch hd⟩, fun z e => nomatch e⟩
  obtain rfl := List.mem_singleton.mp h
  exact ⟨rfl, True.intro, fun z e => nomatch e⟩
theorem oddStr {l : List Nat} (h : parseW (TL.spl [32] 0 [] l) = none) (h2 : l.length ≤ 90000) : OddOk (.str (S l)) := by
  refine ⟨?_, True.intro, fun z e => ?_⟩
  · show parseW (TL.spl [32] 0 [] (S l).cps.toList) = none
    rw [show (S l).cps.toList = l by simp [S]]
    exact h
  · cases e
    rw [SX.S_len]
    exact h2
theorem repl_S (l : List Nat) : Txt.replace (S l) " " "  " = S (l.flatMap dbl) := by
  apply TL.ext_tl
  have h := PySem.StrLaws.replace_list (x := S l) (y := (" " : Str)) (z := ("  " : Str)) (by decide +kernel)
  have e1 : ((" " : Str)).cps.toList = [32] := by decide +kernel
  have e2 : (("  " : Str)).cps.toList = [32, 32] := by decide +kernel
  rw [e1, e2, show (S l).cps.toList = l by simp [S], repl_dbl] at h
  show (Txt.replace (S l) " " "  ").cps.toList = (S (l.flatMap dbl)).cps.toList
  rw [h]
theorem dbl_len (l : List Nat) : (l.flatMap dbl).length ≤ 2 * l.length := by
  induction l with
  | nil => exact Nat.le_refl 0
  | cons c l ih =>
    rw [List.flatMap_cons, List.length_append, List.length_cons]
    have : (dbl c).length ≤ 2 := by unfold dbl; split <;> simp
    omega
def oddDs (t : Tst) : List PyData := [.str ((" " : Str) ++ S t.txt), .str (S t.txt ++ (" " : Str)), .str (S t.txt ++ (" " : Str) ++ S t.txt), .str (S t.txt ++ ("\n" : Str)), .str (Txt.replace (S t.txt) " " "  "), .list [.str (S t.txt)]]
theorem oddDs_ok {t : Tst} (hg : t.good = true) (hd : t.deep ≤ 6) (hl : t.txt.length ≤ 2000) : ∀ d ∈ oddDs t, OddOk d := by
  obtain ⟨b1, b2, b3, b4, b5⟩ := odd_bad hg hd
  have en : ("\n" : Str) = S [10] := by decide +kernel
  intro d h
  rcases List.mem_cons.mp h with rfl | h
  · rw [sp_eq', SX.S_cat]
    exact oddStr b1 (by rw [List.length_append]; show 1 + _ ≤ _; omega)
  rcases List.mem_cons.mp h with rfl | h
  · rw [sp_eq', SX.S_cat]
    exact oddStr b2 (by rw [List.length_append]; show _ + 1 ≤ _; omega)
  rcases List.mem_cons.mp h with rfl | h
  · rw [sp_eq', SX.S_cat, SX.S_cat]
    exact oddStr b3 (by rw [List.length_append, List.length_append]; show (_ + 1) + _ ≤ _; omega)
  rcases List.mem_cons.mp h with rfl | h
  · rw [en, SX.S_cat]
    exact oddStr b4 (by rw [List.length_append]; show _ + 1 ≤ _; omega)
  rcases List.mem_cons.mp h with rfl | h
  · rw [repl_S]
    exact oddStr b5 (by have := dbl_len t.txt; omega)
  obtain rfl := List.mem_singleton.mp h
  refine ⟨rfl, ⟨by show 1 < 1000000; decide, fun d hd => ?_⟩, fun z e => nomatch e⟩
  obtain rfl := List.mem_singleton.mp hd
  exact True.intro
theorem got_test (T : Top K w mg) {Tb : List (Addr × Str)} {te : TE} {σ : L2.St} {H : Hp} {Q : VK} {x : V} {d : PyData} (t0 : LamX.Tabs Tb H) (hte : ∀ (H' : Hp) (Q' : VK), Q' x H' → te σ H' Q') (hd : Dp K (noT H) x d) (hz : ∀ z, d = .str z → z.length ≤ 90000)
    (k : ∀ (v : V) (H1 H2 : Hp), LamX.ExtN H H1 → Same H1 H2 → LamX.Tabs Tb H2 → Dp K H2 v (rtD d) → Q v H2) :
    tGL T Tb (fun E => tCall (spRTest T) [] E (tCons te tNil)) σ H Q := by
  unfold tGL
  refine ⟨t0, fun H1 e1 t1 => ?_⟩
  have hd1 : Dp K H1 x d := Dp.mono noT_le _ _ (Dp.mono (noT_ext e1) _ _ hd)
  refine hte _ _ ?_
  refine ⟨x, d, rfl, hd1, hz, ?_⟩
  unfold rtD at k
  cases e : parseD d with
  | some t =>
    rw [e] at k
    intro H2 y s2 hy
    refine ⟨by show 2 ≤ sizeLine; decide, fun q fq => ?_⟩
    have s3 := same_new fq (.tup [.str "", y])
    exact k _ H1 _ e1 (s2.trans s3) (tabs_of t1 (s2.trans s3)) (.tup (SqT.of upd_same) (.cons (.str _) (.cons (Dp.mono s3 _ _ hy) .nil)))
  | none =>
    rw [e] at k
    intro cls ee H2 r s2
    refine ⟨_, _, [d], r.hand, .cons (Dp.mono s2 _ _ hd1) .nil, r.any, fun v H3 s3 hv => ?_⟩
    exact k v H1 H3 e1 (s2.trans s3) (tabs_of t1 (s2.trans s3)) hv
theorem ok_law (T : Top K w mg) (TB : LamX.TabB base mg T.c_law T.P_law) : FnOk P w K mg base CX0 24 T.a_law T.d_law ["_law_script"] (spLaw K T.P_law) := by
  refine okC T.F_law sc_law (fun vs H Q E h => ?_) (fun cdv A outer s H vs Q E hc hr h => ?_)
  · obtain ⟨a, ns, rfl, _⟩ := h
    rfl
  obtain rfl : cdv = .ref T.c_law := hc.symm.trans T.k_law
  obtain ⟨a, ns, rfl, hS, h63, hP, k⟩ := h
  refine ⟨_, (pss_cons (ps_set (i := 1) sc_law.nd rfl (Or.inl rfl) (pe_call (ok_box T) (hr.mono (by decide)) rfl T.m_box T.F_box.kp T.b_box .nil pass0 (pa_cons (pv 0) pa_nil)))
    (pss_cons (ps_for PassesOwn.never rfl (pi_range1 (by rfl) T.z_range (pa_cons pe_int pa_nil)) (pg_name (i := 2) sc_law.nd rfl (Or.inl rfl))
    (pss_cons (ps_setLc (i := 3) (own := [("_law_word", 13)]) (g := gName 13) (tt := tYes) rfl sc_law.nd rfl rfl (sw_true rfl rfl rfl (by decide +kernel)) (pi_list (pe_call (ok_names T) (hr.mono (by decide)) rfl T.m_names T.F_names.kp T.b_names .nil pass0 (pa_cons (pv 1) (pa_cons pe_int pa_nil)))) (blkOk_by (own := [("_law_word", 13)]) (N := n_law) (sc := defScope s_law) (by decide +kernel)) (fun _ _ _ _ _ => (pg_name (i := 13) sc_law.nd rfl (Or.inl rfl))) (fun _ _ _ _ _ => pts_nil) (fun _ _ _ _ _ => (pe_op op_add_str pe_str (pe_slice sl_str (pv 13) po_none (po_some pe_int)))))
    (pss_cons (ps_set (i := 4) sc_law.nd rfl (Or.inl rfl) (pe_call (ok_free T 6) (hr.mono (by decide)) rfl T.m_free_test T.F_free_test.kp T.b_free_test .nil pass0 (pa_cons (pv 1) (pa_cons (pv 3) (pa_cons (pe_op op_add pe_int (pe_call (ok_pull T) (hr.mono (by decide)) rfl T.m_pull T.F_pull.kp T.b_pull .nil pass0 (pa_cons (pv 1) (pa_cons pe_int pa_nil)))) pa_nil)))))
    (pss_cons (ps_set (i := 5) sc_law.nd rfl (Or.inr rfl) (pe_join pe_str (pe_call (ok_twords T 10) (hr.mono (by decide)) rfl T.m_test_words T.F_test_words.kp T.b_test_words .nil pass0 (pa_cons (pv 4) pa_nil))))
    (pss_cons (ps_if (pt_not (pt_val (pe_call (ok_same T 8) (hr.mono (by decide)) rfl T.m_same T.F_same.kp T.b_same .nil pass0 (pa_cons (pe_lst (pa_cons (pe_call (ok_text T 10) (hr.mono (by decide)) rfl T.m_test_text T.F_test_text.kp T.b_test_text .nil pass0 (pa_cons (pv 4) pa_nil)) (pa_cons (pe_call (ok_read_test T) (hr.mono (by decide)) rfl T.m_read_test T.F_read_test.kp T.b_read_test .nil passL (pa_cons (pv 5) pa_nil)) (pa_cons (pe_callK0 (ok_read_test T) (hr.mono (by decide)) rfl T.m_read_test T.F_read_test.kp (kb_read_test_text T) passL (pk_cons (pe_call (ok_text T 10) (hr.mono (by decide)) rfl T.m_test_text T.F_test_text.kp T.b_test_text .nil pass0 (pa_cons (pv 4) pa_nil)) pk_nil)) pa_nil)))) (pa_cons (pe_lst (pa_cons (pv 5) (pa_cons (pv 4) (pa_cons (pv 4) pa_nil)))) pa_nil))))) (pss_one (ps_ret pe_bl)) pss_nil)
    (pss_cons (ps_set (i := 6) sc_law.nd rfl (Or.inl rfl) (pe_split (pv 5) pe_str))
    (pss_cons (ps_par (i := 7) (j := 8) (by rfl) sc_law.nd rfl rfl (by decide) rfl rfl (pa_cons (pe_call (ok_pull T) (hr.mono (by decide)) rfl T.m_pull T.F_pull.kp T.b_pull .nil pass0 (pa_cons (pv 1) (pa_cons (pe_callB call_len_seq (by rfl) T.z_len (by decide +kernel) (pa_cons (pv 6) pa_nil)) pa_nil))) (pa_cons (pe_call (ok_pull T) (hr.mono (by decide)) rfl T.m_pull T.F_pull.kp T.b_pull .nil pass0 (pa_cons (pv 1) (pa_cons pe_int pa_nil))) pa_nil)) (by rfl))
    (pss_cons (ps_set (i := 9) sc_law.nd rfl (Or.inl rfl) (pe_ix ix_list (pe_lst (pa_cons (pe_op op_cat (pe_slice sl_list (pv 6) po_none (po_some (pv 7))) (pe_slice sl_list (pv 6) (po_some (pe_op op_add (pv 7) pe_int)) po_none)) (pa_cons (pe_op op_cat (pe_op op_cat (pe_slice sl_list (pv 6) po_none (po_some (pv 7))) (pe_lst (pa_cons pe_str pa_nil))) (pe_slice sl_list (pv 6) (po_some (pv 7)) po_none)) (pa_cons (pe_op op_cat (pe_op op_cat (pe_slice sl_list (pv 6) po_none (po_some (pv 7))) (pe_lst (pa_cons pe_str pa_nil))) (pe_slice sl_list (pv 6) (po_some (pe_op op_add (pv 7) pe_int)) po_none)) (pa_cons (pe_op op_cat (pe_op op_cat (pe_slice sl_list (pv 6) po_none (po_some (pv 7))) (pe_lst (pa_cons pe_str pa_nil))) (pe_slice sl_list (pv 6) (po_some (pv 7)) po_none)) (pa_cons (pe_op op_cat (pv 6) (pe_lst (pa_cons pe_str pa_nil))) pa_nil)))))) (pv 8) (fun _ _ => rfl)))
    (pss_cons (ps_set (i := 10) sc_law.nd rfl (Or.inr rfl) (pe_join pe_str (pv 9)))
    (pss_cutI (ps_if (PW.pt (pw_and (pt_cmpR (op_neD hr.units) (pe_gl (k := 20) (Tb := [(T.P_law, lamQ)]) T (by rfl) TB rfl (lam_mem (by show (("law" : Str) ++ ".<locals>." ++ "<lambda>") = lamQ; decide +kernel)) (lam_only (by show lamQ = (("law" : Str) ++ ".<locals>." ++ "<lambda>"); decide +kernel)) (hr.mono (by omega)) (hr.mono (by omega)) (LamX.lamS_by (by show LamX.lamSB (defScope s_law) _ = true; decide +kernel)) rfl (fun _ _ _ _ _ => rfl) (fun _ _ _ _ _ _ _ hrl => (pe_call (ok_read_test T) (hrl.mono (by decide)) rfl T.m_read_test T.F_read_test.kp T.b_read_test .nil (passes_lamE rfl rfl) (pa_cons (pv 10) pa_nil)))) (pe_tup (pa_cons pe_str (pa_cons (pv 10) pa_nil))) (nomark _)) (pw_and1 (pt_cmpR op_gt (pv 8) pe_int (nomark _))))) (pss_one (ps_ret pe_bl)) pss_nil)
    (pss_cons (ps_set (i := 11) sc_law.nd rfl (Or.inl rfl) (pe_gl (k := 20) (Tb := [(T.P_law, lamQ)]) T (by rfl) TB rfl (lam_mem (by show (("law" : Str) ++ ".<locals>." ++ "<lambda>") = lamQ; decide +kernel)) (lam_only (by show lamQ = (("law" : Str) ++ ".<locals>." ++ "<lambda>"); decide +kernel)) (hr.mono (by omega)) (hr.mono (by omega)) (LamX.lamS_by (by show LamX.lamSB (defScope s_law) _ = true; decide +kernel)) rfl (fun _ _ _ _ _ => rfl) (fun _ _ _ _ _ _ _ hrl => (pe_call (ok_read_test T) (hrl.mono (by decide)) rfl T.m_read_test T.F_read_test.kp T.b_read_test .nil (passes_lamE rfl rfl) (pa_cons (pv 10) pa_nil)))))
    (pss_cutI (ps_if (PW.pt (pw_and (pt_cmpR op_eq (pe_ix ix_tup (pv 11) pe_int (fun _ _ => rfl)) pe_str (nomark _)) (pw_and1 (pt_cmpR op_ne (pe_call (ok_text T 10) (hr.mono (by decide)) rfl T.m_test_text T.F_test_text.kp T.b_test_text .nil pass0 (pa_cons (pe_ix ix_tup (pv 11) pe_int (fun _ _ => rfl)) pa_nil)) (pv 10) (nomark _))))) (pss_one (ps_ret pe_bl)) pss_nil)
    (pss_cons (ps_set (i := 12) sc_law.nd rfl (Or.inr rfl) (pe_call (ok_odd T) (hr.mono (by decide)) rfl T.m_odd T.F_odd.kp T.b_odd .nil pass0 (pa_cons (pv 1) (pa_cons (pe_lst (pa_strT op_add_str (pv 5) (pat_cons (CwR.PET.of (pe_op op_add_str (pv 5) pe_str)) (pat_cons (CwR.PET.of (pe_op op_add_str (pe_op op_add_str (pv 5) pe_str) (pv 5))) (pat_cons (CwR.PET.of (pe_op op_add_str (pv 5) pe_str)) (pat_cons (CwR.pet_replC (pv 5)) (pat_cons (CwR.PET.of (pe_lst (pa_cons (pv 5) pa_nil))) pat_nil))))))) pa_nil))))
    (pss_cons (ps_if (pt_not (pt_val (pe_call (ok_same T 8) (hr.mono (by decide)) rfl T.m_same T.F_same.kp T.b_same .nil pass0 (pa_cons (pe_gl (k := 20) (Tb := [(T.P_law, lamQ)]) T (by rfl) TB rfl (lam_mem (by show (("law" : Str) ++ ".<locals>." ++ "<lambda>") = lamQ; decide +kernel)) (lam_only (by show lamQ = (("law" : Str) ++ ".<locals>." ++ "<lambda>"); decide +kernel)) (hr.mono (by omega)) (hr.mono (by omega)) (LamX.lamS_by (by show LamX.lamSB (defScope s_law) _ = true; decide +kernel)) rfl (fun _ _ _ _ _ => rfl) (fun _ _ _ _ _ _ _ hrl => (pe_call (ok_read_test T) (hrl.mono (by decide)) rfl T.m_read_test T.F_read_test.kp T.b_read_test .nil (passes_lamE rfl rfl) (pa_cons (pv 12) pa_nil)))) (pa_cons (pe_tup (pa_cons pe_str (pa_cons (pv 12) pa_nil))) pa_nil))))) (pss_one (ps_ret pe_bl)) pss_nil)
    (pss_one (ps_if (pt_not (pt_val (pe_call (ok_same T 8) (hr.mono (by decide)) rfl T.m_same T.F_same.kp T.b_same .nil pass0 (pa_cons (pe_gl (k := 20) (Tb := [(T.P_law, lamQ)]) T (by rfl) TB rfl (lam_mem (by show (("law" : Str) ++ ".<locals>." ++ "<lambda>") = lamQ; decide +kernel)) (lam_only (by show lamQ = (("law" : Str) ++ ".<locals>." ++ "<lambda>"); decide +kernel)) (hr.mono (by omega)) (hr.mono (by omega)) (LamX.lamS_by (by show LamX.lamSB (defScope s_law) _ = true; decide +kernel)) rfl (fun _ _ _ _ _ => rfl) (fun _ _ _ _ _ _ _ hrl => (pe_call (ok_read_test T) (hrl.mono (by decide)) rfl T.m_read_test T.F_read_test.kp T.b_read_test .nil (passes_lamE rfl rfl) (pa_cons (pe_op op_add_str pe_str (pv 5)) pa_nil)))) (pa_cons (pe_ifExp (pt_cmpR op_lt (pe_call (ok_deep T 10) (hr.mono (by decide)) rfl T.m_deep T.F_deep.kp T.b_deep .nil pass0 (pa_cons (pv 4) pa_nil)) pe_int (nomark _)) (pe_tup (pa_cons pe_str (pa_cons (pe_tup (pa_cons pe_str (pa_cons (pv 4) pa_nil))) pa_nil))) (pe_tup (pa_cons pe_str (pa_cons (pe_op op_add_str pe_str (pv 5)) pa_nil)))) pa_nil))))) (pss_one (ps_ret pe_bl)) pss_nil))))))))))))))))
    (pss_one (ps_ret pe_bl)))), ?_⟩
  refine ⟨_, rfl, a, ns, rfl, hS, h63, fun p b H0 hp B0 e0 => ?_⟩
  refine ⟨6, rfl, by decide, by decide, for_range (lo := 0) (n := 6) (fun i σ H2 => Hold (∃ o : List (Option V), o.length = n_law.length - 2 ∧ σ = some (.ref a) :: some (.ref p) :: o ∧ BoxAt H2 p b ∧ LamX.Tabs [(T.P_law, lamQ)] H2)) ?_ ?_ ?_⟩
  · have eP := e0 _ _ hP
    refine ⟨⟨[none, none, none, none, none, none, none, none, none, none, none, none], rfl, rfl, B0, fun q hq => ?_⟩⟩
    obtain rfl := List.mem_singleton.mp hq
    exact LamX.TabS.nil eP
  · rintro i σ H1 hi ⟨o, ho, rfl, B1, t1⟩
    obtain ⟨o2, o3, o4, o5, o6, o7, o8, o9, o10, o11, o12, o13, rfl⟩ : ∃ o2 o3 o4 o5 o6 o7 o8 o9 o10 o11 o12 o13, o = [o2, o3, o4, o5, o6, o7, o8, o9, o10, o11, o12, o13] := by
      match o, ho with
      | [o2, o3, o4, o5, o6, o7, o8, o9, o10, o11, o12, o13], _ => exact ⟨o2, o3, o4, o5, o6, o7, o8, o9, o10, o11, o12, o13, rfl⟩
    clear ho
    sizeOf_list_dec
    rename_i q zs H2 hlen hnames hnd hm hfree hqp hq B2 e2 D fD
    replace hlen : zs.length = (5 : Nat) := hlen
    have t2 := tabs_but t1 B1 e2
    refine lc_list (K := K) (a := q) (xs := zs.map nameV) (fun j Hx => Hold (Same H2 Hx ∧ Hx D = some (.lst ((zs.take j).map fun z => nameV (98 :: z.take 5))))) ?_ ?_ ?_ ?_
    · exact ⟨same_new fD _, upd_same⟩
    · rintro j Hx _ ⟨e, _⟩
      exact e.seq (SqL.of hq)
    · rintro j x Hx hj ⟨e, hD⟩
      rw [List.getElem?_map] at hj
      cases ez : zs[j]? with
      | none =>
        rw [ez] at hj
        cases hj
      | some z =>
      rw [ez] at hj
      obtain rfl := (Option.some.inj hj).symm
      have hz6 := (hnames z (List.mem_of_getElem? ez)).six
      have eb : (("b" : Str) ++ cutS (S z) none (some 5)) = S (98 :: z.take 5) := by
        rw [show (("b" : Str)) = S [98] by decide +kernel, show ((some 5 : Option Int)) = some ((5 : Nat) : Int) from rfl, cut_pre', SX.S_cat]
        rfl
      have hz1 : (S z).length ≤ sizeLine := by
        rw [SX.S_len]
        exact small (by omega)
      have hz2 : (("b" : Str)).length + (cutS (S z) none (some 5)).length ≤ sizeLine := by
        have h5 : (S (z.take 5)).length ≤ 5 := by
          rw [SX.S_len, List.length_take]
          omega
        rw [show ((some 5 : Option Int)) = some ((5 : Nat) : Int) from rfl, cut_pre']
        exact small (by show 1 + (S (z.take 5)).length ≤ 1000000; omega)
      have hac : ((zs.take j).map fun z => nameV (98 :: z.take 5)).length < sizeLine := small' (by rw [List.length_map, List.length_take, hlen]; omega)
      have hez : nameV z = .str (S z) := rfl
      sizeOf_list_dec
      refine ⟨Same.mut e fD _, ?_⟩
      rw [upd_same, List.take_add_one, ez, List.map_append, eb]
      rfl
    · rintro Hx ⟨e, hD⟩
      obtain ⟨z0, z1, z2, z3, z4, rfl⟩ : ∃ w0 w1 w2 w3 w4, zs = [w0, w1, w2, w3, w4] := by
        match zs, hlen with
        | [a, b, c, d, e], _ => exact ⟨a, b, c, d, e, rfl⟩
      have W : Words (98 :: z0.take 5) (98 :: z1.take 5) (98 :: z2.take 5) (98 :: z3.take 5) (98 :: z4.take 5) :=
        ⟨b_name (hnames z0 (by simp)), b_name (hnames z1 (by simp)), b_name (hnames z2 (by simp)), b_name (hnames z3 (by simp)), b_name (hnames z4 (by simp))⟩
      have hD' : Hx D = some (.lst [nameV (98 :: z0.take 5), nameV (98 :: z1.take 5), nameV (98 :: z2.take 5), nameV (98 :: z3.take 5), nameV (98 :: z4.take 5)]) := hD
      have hDp : D ≠ p := B2.ne fD
      have B3 := B2.mono e
      have t3 := tabs_of t2 e
      generalize 98 :: z0.take 5 = w0 at *
      generalize 98 :: z1.take 5 = w1 at *
      generalize 98 :: z2.take 5 = w2 at *
      generalize 98 :: z3.take 5 = w3 at *
      generalize 98 :: z4.take 5 = w4 at *
      have l0 := W.a.six
      have l2 := W.c.six
      clear hD hnames hnd hm hq
      sizeOf_list_dec
      rename_i m H4 m0 m6 B4 e4
      have t4 := tabs_but t3 B3 e4
      have hD4 : hide p H4 D = some (.lst [nameV w0, nameV w1, nameV w2, nameV w3, nameV w4]) := e4 _ _ (by rw [hide_ne hDp]; exact hD')
      refine ⟨show [V.ref p, V.ref D, V.int (1 + m)] = [V.ref p, V.ref D, V.int ((1 + m.toNat : Nat) : Int)] by rw [show (1 + m) = ((1 + m.toNat : Nat) : Int) by omega], B4, hD4, by omega, by omega, by omega, by omega, fun v t H5 hdt hov hv B5 e5 => ?_⟩
      have t5 := tabs_but t4 B4 e5
      have vG : Dp K (hn p H5) v t.toD := Dp.hn _ _ hv
      have hv5 : Dp K H5 v t.toD := Dp.mono hn_le _ _ vG
      have gd := over_good W t hov
      have hd10 : t.deep ≤ 10 := by omega
      have hp6 : 2 ^ t.deep ≤ 2 ^ 6 := Nat.pow_le_pow_right (by decide) (by omega)
      have hwl : t.wd.length ≤ 300 := by
        have := tst_wl t
        omega
      have htl : t.txt.length ≤ 2000 := by
        have := txt_len gd
        omega
      clear hv e e2 t2 t1 B1 B2 e4 t4 B3 t3 e0 B0 hD4 hfree hqp l0 l2 hDp fD hD' hS h63 hP hp
      sizeOf_list_dec
      rename_i H6 p6 e6 h6 f6
      rw [map_wV] at h6
      refine ⟨.inl (SqL.of h6), join_bound htl (by omega) (by decide), ?_⟩
      rw [join_S', show TL.joinL [32] t.wd = t.txt from rfl]
      have B6 := B5.mono e6
      have t6 := tabs_of t5 e6
      have v6 := Dp.mono (Kp.of (p := p) e6) _ _ vG
      have hv6 : Dp K H6 v t.toD := Dp.mono hn_le _ _ v6
      have hz6 : (S t.txt).length ≤ 90000 := by rw [SX.S_len]; omega
      have hz6' : ∀ z, PyData.str (S t.txt) = .str z → z.length ≤ 90000 := fun z e => by cases e; exact hz6
      have ep6 : parseD (.str (S t.txt)) = some t := by
        show parseW (TL.spl [32] 0 [] (S t.txt).cps.toList) = _
        rw [show (S t.txt).cps.toList = t.txt by simp [S], split_txt gd]
        exact parse_wd (by omega) gd
      clear e5 B5 t5 vG hv5 B4 h6 f6
      sizeOf_list_dec
      rw [ep6]
      intro H7 x7 e7 hx7
      sizeOf_list_dec
      rw [ep6]
      intro H8 x8 e8 hx8
      sizeOf_list_dec
      rename_i G1 g1 G2 g2 P1 fP1 P2 fP2
      have s1 := same_new fP1 (.lst [.str (S t.txt), x7, x8])
      have s2 := same_new fP2 (.lst [.str (S t.txt), v, v])
      have s6 := g1.trans (e7.trans (g2.trans (e8.trans (s1.trans s2))))
      have ft := fits_le (n := 7) (by omega) (fits_tst t)
      have hP1 := s2 _ _ (upd_same (H := H8) (a := P1) (o := .lst [.str (S t.txt), x7, x8]))
      have hP2 := upd_same (H := upd H8 P1 (.lst [.str (S t.txt), x7, x8])) (a := P2) (o := .lst [.str (S t.txt), v, v])
      have hx7' := Dp.mono (g2.trans (e8.trans (s1.trans s2))) _ _ hx7
      have hx8' := Dp.mono (s1.trans s2) _ _ hx8
      have hv' := Dp.mono s6 _ _ hv6
      generalize upd (upd H8 P1 (.lst [.str (S t.txt), x7, x8])) P2 (.lst [.str (S t.txt), v, v]) = H9 at *
      clear s1 s2
      refine ⟨.lst (ds := [.str (S t.txt), t.toD, t.toD]) (SqL.of hP1) (.cons (.str _) (.cons hx7' (.cons hx8' .nil))), .lst (SqL.of hP2) (.cons (.str _) (.cons hv' (.cons hv' .nil))), ⟨by show 3 < 1000000; decide, fun d hd => ?_⟩, fun H10 e10 => ?_⟩
      · rcases List.mem_cons.mp hd with rfl | hd
        · exact True.intro
        rcases List.mem_cons.mp hd with rfl | hd
        · exact ft
        obtain rfl := List.mem_singleton.mp hd
        exact ft
      have B10 := B6.mono (s6.trans e10)
      have t10 := tabs_of t6 (s6.trans e10)
      have v10 := Dp.mono (Kp.of (p := p) (s6.trans e10)) _ _ v6
      clear hP1 hP2 hx7' hx8' hv' fP1 fP2 hx8 hx7 e8 g2 e7 g1 s6 e10 hv6 B6 t6 v6 e6
      have hzs : (S t.txt).length + 2 ≤ sizeLine := small (by omega)
      sizeOf_list_dec
      intro R fR
      have erow : (Txt.split (S t.txt) " ").map V.str = t.wd.map wV := by
        rw [sp_eq', SX.split_S (by decide) (by decide), split_txt gd, map_wV]
      rw [erow]
      have B11 := B10.new fR (.lst (t.wd.map wV))
      have s11 := same_new fR (.lst (t.wd.map wV))
      have t11 := tabs_of t10 s11
      have v11 := Dp.mono (Kp.of (p := p) s11) _ _ v10
      have hRp := B10.ne fR
      have hR : hn p (upd H10 R (.lst (t.wd.map wV))) R = some (.lst (t.wd.map wV)) := hn_new hRp (fun _ h => nomatch h)
      have hR' := hn_le _ _ hR
      generalize upd H10 R (.lst (t.wd.map wV)) = H11 at *
      have hlr : (t.wd.map wV).length = t.wd.length := List.length_map ..
      have hw1 : 1 ≤ t.wd.length := List.length_pos_iff.mpr t.wd_ne
      have hl0 : (0 : Int) < ((t.wd.map wV).length : Int) := by omega
      have hl1 : ((t.wd.map wV).length : Int) < 1073741824 := by omega
      clear s11 fR v10 t10 B10
      sizeOf_list_dec
      rename_i nt H12 n0 n1 B12 e12 wy H13 w0' w1' B13 e13 X1 fX1 X2 fX2
      have hc : ∀ lo hi, (cutV (t.wd.map wV) lo hi).length ≤ 300 := fun lo hi => Nat.le_trans (cutV_length _ _ _) (by omega)
      have c1 := hc none (some nt)
      have c2 := hc (some (nt + 1)) none
      have c3 := hc (some nt) none
      have t13 := tabs_but (tabs_but t11 B11 e12) B12 e13
      sizeOf_list_dec
      rename_i Y0 fY0 Z1 fZ1 Z2 fZ2 Z3 fZ3 Z4 fZ4 Y1 fY1 Z5 fZ5 Z6 fZ6 Z7 fZ7 Z8 fZ8 Y2 fY2 Z9 fZ9 Za fZa Zb fZb Zc fZc Y3 fY3 Zd fZd Y4 fY4 Ls fLs
      have f0 : (upd (upd (upd (upd (upd (upd (upd (upd (upd (upd (upd (upd (upd (upd (upd (upd (upd (upd (upd (upd (upd H13 X1 (.lst (cutV (t.wd.map wV) none (some nt)))) X2 (.lst (cutV (t.wd.map wV) (some (nt + 1)) none))) Y0 (.lst (cutV (t.wd.map wV) none (some nt) ++ cutV (t.wd.map wV) (some (nt + 1)) none))) Z1 (.lst (cutV (t.wd.map wV) none (some nt)))) Z2 (.lst ([V.str "has"]))) Z3 (.lst (cutV (t.wd.map wV) none (some nt) ++ [V.str "has"]))) Z4 (.lst (cutV (t.wd.map wV) (some nt) none))) Y1 (.lst (cutV (t.wd.map wV) none (some nt) ++ [V.str "has"] ++ cutV (t.wd.map wV) (some nt) none))) Z5 (.lst (cutV (t.wd.map wV) none (some nt)))) Z6 (.lst ([V.str "IS"]))) Z7 (.lst (cutV (t.wd.map wV) none (some nt) ++ [V.str "IS"]))) Z8 (.lst (cutV (t.wd.map wV) (some (nt + 1)) none))) Y2 (.lst (cutV (t.wd.map wV) none (some nt) ++ [V.str "IS"] ++ cutV (t.wd.map wV) (some (nt + 1)) none))) Z9 (.lst (cutV (t.wd.map wV) none (some nt)))) Za (.lst ([V.str ""]))) Zb (.lst (cutV (t.wd.map wV) none (some nt) ++ [V.str ""]))) Zc (.lst (cutV (t.wd.map wV) (some nt) none))) Y3 (.lst (cutV (t.wd.map wV) none (some nt) ++ [V.str ""] ++ cutV (t.wd.map wV) (some nt) none))) Zd (.lst ([V.str "not"]))) Y4 (.lst (t.wd.map wV ++ [V.str "not"]))) Ls (.lst ([V.ref Y0, V.ref Y1, V.ref Y2, V.ref Y3, V.ref Y4]))) Y0 = some (.lst (cutV (t.wd.map wV) none (some nt) ++ cutV (t.wd.map wV) (some (nt + 1)) none)) := by array_get_dec
      have f1 : (upd (upd (upd (upd (upd (upd (upd (upd (upd (upd (upd (upd (upd (upd (upd (upd (upd (upd (upd (upd (upd H13 X1 (.lst (cutV (t.wd.map wV) none (some nt)))) X2 (.lst (cutV (t.wd.map wV) (some (nt + 1)) none))) Y0 (.lst (cutV (t.wd.map wV) none (some nt) ++ cutV (t.wd.map wV) (some (nt + 1)) none))) Z1 (.lst (cutV (t.wd.map wV) none (some nt)))) Z2 (.lst ([V.str "has"]))) Z3 (.lst (cutV (t.wd.map wV) none (some nt) ++ [V.str "has"]))) Z4 (.lst (cutV (t.wd.map wV) (some nt) none))) Y1 (.lst (cutV (t.wd.map wV) none (some nt) ++ [V.str "has"] ++ cutV (t.wd.map wV) (some nt) none))) Z5 (.lst (cutV (t.wd.map wV) none (some nt)))) Z6 (.lst ([V.str "IS"]))) Z7 (.lst (cutV (t.wd.map wV) none (some nt) ++ [V.str "IS"]))) Z8 (.lst (cutV (t.wd.map wV) (some (nt + 1)) none))) Y2 (.lst (cutV (t.wd.map wV) none (some nt) ++ [V.str "IS"] ++ cutV (t.wd.map wV) (some (nt + 1)) none))) Z9 (.lst (cutV (t.wd.map wV) none (some nt)))) Za (.lst ([V.str ""]))) Zb (.lst (cutV (t.wd.map wV) none (some nt) ++ [V.str ""]))) Zc (.lst (cutV (t.wd.map wV) (some nt) none))) Y3 (.lst (cutV (t.wd.map wV) none (some nt) ++ [V.str ""] ++ cutV (t.wd.map wV) (some nt) none))) Zd (.lst ([V.str "not"]))) Y4 (.lst (t.wd.map wV ++ [V.str "not"]))) Ls (.lst ([V.ref Y0, V.ref Y1, V.ref Y2, V.ref Y3, V.ref Y4]))) Y1 = some (.lst (cutV (t.wd.map wV) none (some nt) ++ [V.str "has"] ++ cutV (t.wd.map wV) (some nt) none)) := by array_get_dec
      have f2 : (upd (upd (upd (upd (upd (upd (upd (upd (upd (upd (upd (upd (upd (upd (upd (upd (upd (upd (upd (upd (upd H13 X1 (.lst (cutV (t.wd.map wV) none (some nt)))) X2 (.lst (cutV (t.wd.map wV) (some (nt + 1)) none))) Y0 (.lst (cutV (t.wd.map wV) none (some nt) ++ cutV (t.wd.map wV) (some (nt + 1)) none))) Z1 (.lst (cutV (t.wd.map wV) none (some nt)))) Z2 (.lst ([V.str "has"]))) Z3 (.lst (cutV (t.wd.map wV) none (some nt) ++ [V.str "has"]))) Z4 (.lst (cutV (t.wd.map wV) (some nt) none))) Y1 (.lst (cutV (t.wd.map wV) none (some nt) ++ [V.str "has"] ++ cutV (t.wd.map wV) (some nt) none))) Z5 (.lst (cutV (t.wd.map wV) none (some nt)))) Z6 (.lst ([V.str "IS"]))) Z7 (.lst (cutV (t.wd.map wV) none (some nt) ++ [V.str "IS"]))) Z8 (.lst (cutV (t.wd.map wV) (some (nt + 1)) none))) Y2 (.lst (cutV (t.wd.map wV) none (some nt) ++ [V.str "IS"] ++ cutV (t.wd.map wV) (some (nt + 1)) none))) Z9 (.lst (cutV (t.wd.map wV) none (some nt)))) Za (.lst ([V.str ""]))) Zb (.lst (cutV (t.wd.map wV) none (some nt) ++ [V.str ""]))) Zc (.lst (cutV (t.wd.map wV) (some nt) none))) Y3 (.lst (cutV (t.wd.map wV) none (some nt) ++ [V.str ""] ++ cutV (t.wd.map wV) (some nt) none))) Zd (.lst ([V.str "not"]))) Y4 (.lst (t.wd.map wV ++ [V.str "not"]))) Ls (.lst ([V.ref Y0, V.ref Y1, V.ref Y2, V.ref Y3, V.ref Y4]))) Y2 = some (.lst (cutV (t.wd.map wV) none (some nt) ++ [V.str "IS"] ++ cutV (t.wd.map wV) (some (nt + 1)) none)) := by array_get_dec
      have f3 : (upd (upd (upd (upd (upd (upd (upd (upd (upd (upd (upd (upd (upd (upd (upd (upd (upd (upd (upd (upd (upd H13 X1 (.lst (cutV (t.wd.map wV) none (some nt)))) X2 (.lst (cutV (t.wd.map wV) (some (nt + 1)) none))) Y0 (.lst (cutV (t.wd.map wV) none (some nt) ++ cutV (t.wd.map wV) (some (nt + 1)) none))) Z1 (.lst (cutV (t.wd.map wV) none (some nt)))) Z2 (.lst ([V.str "has"]))) Z3 (.lst (cutV (t.wd.map wV) none (some nt) ++ [V.str "has"]))) Z4 (.lst (cutV (t.wd.map wV) (some nt) none))) Y1 (.lst (cutV (t.wd.map wV) none (some nt) ++ [V.str "has"] ++ cutV (t.wd.map wV) (some nt) none))) Z5 (.lst (cutV (t.wd.map wV) none (some nt)))) Z6 (.lst ([V.str "IS"]))) Z7 (.lst (cutV (t.wd.map wV) none (some nt) ++ [V.str "IS"]))) Z8 (.lst (cutV (t.wd.map wV) (some (nt + 1)) none))) Y2 (.lst (cutV (t.wd.map wV) none (some nt) ++ [V.str "IS"] ++ cutV (t.wd.map wV) (some (nt + 1)) none))) Z9 (.lst (cutV (t.wd.map wV) none (some nt)))) Za (.lst ([V.str ""]))) Zb (.lst (cutV (t.wd.map wV) none (some nt) ++ [V.str ""]))) Zc (.lst (cutV (t.wd.map wV) (some nt) none))) Y3 (.lst (cutV (t.wd.map wV) none (some nt) ++ [V.str ""] ++ cutV (t.wd.map wV) (some nt) none))) Zd (.lst ([V.str "not"]))) Y4 (.lst (t.wd.map wV ++ [V.str "not"]))) Ls (.lst ([V.ref Y0, V.ref Y1, V.ref Y2, V.ref Y3, V.ref Y4]))) Y3 = some (.lst (cutV (t.wd.map wV) none (some nt) ++ [V.str ""] ++ cutV (t.wd.map wV) (some nt) none)) := by array_get_dec
      have f4 : (upd (upd (upd (upd (upd (upd (upd (upd (upd (upd (upd (upd (upd (upd (upd (upd (upd (upd (upd (upd (upd H13 X1 (.lst (cutV (t.wd.map wV) none (some nt)))) X2 (.lst (cutV (t.wd.map wV) (some (nt + 1)) none))) Y0 (.lst (cutV (t.wd.map wV) none (some nt) ++ cutV (t.wd.map wV) (some (nt + 1)) none))) Z1 (.lst (cutV (t.wd.map wV) none (some nt)))) Z2 (.lst ([V.str "has"]))) Z3 (.lst (cutV (t.wd.map wV) none (some nt) ++ [V.str "has"]))) Z4 (.lst (cutV (t.wd.map wV) (some nt) none))) Y1 (.lst (cutV (t.wd.map wV) none (some nt) ++ [V.str "has"] ++ cutV (t.wd.map wV) (some nt) none))) Z5 (.lst (cutV (t.wd.map wV) none (some nt)))) Z6 (.lst ([V.str "IS"]))) Z7 (.lst (cutV (t.wd.map wV) none (some nt) ++ [V.str "IS"]))) Z8 (.lst (cutV (t.wd.map wV) (some (nt + 1)) none))) Y2 (.lst (cutV (t.wd.map wV) none (some nt) ++ [V.str "IS"] ++ cutV (t.wd.map wV) (some (nt + 1)) none))) Z9 (.lst (cutV (t.wd.map wV) none (some nt)))) Za (.lst ([V.str ""]))) Zb (.lst (cutV (t.wd.map wV) none (some nt) ++ [V.str ""]))) Zc (.lst (cutV (t.wd.map wV) (some nt) none))) Y3 (.lst (cutV (t.wd.map wV) none (some nt) ++ [V.str ""] ++ cutV (t.wd.map wV) (some nt) none))) Zd (.lst ([V.str "not"]))) Y4 (.lst (t.wd.map wV ++ [V.str "not"]))) Ls (.lst ([V.ref Y0, V.ref Y1, V.ref Y2, V.ref Y3, V.ref Y4]))) Y4 = some (.lst (t.wd.map wV ++ [V.str "not"])) := by array_get_dec
      have B14 : BoxAt (upd (upd (upd (upd (upd (upd (upd (upd (upd (upd (upd (upd (upd (upd (upd (upd (upd (upd (upd (upd (upd H13 X1 (.lst (cutV (t.wd.map wV) none (some nt)))) X2 (.lst (cutV (t.wd.map wV) (some (nt + 1)) none))) Y0 (.lst (cutV (t.wd.map wV) none (some nt) ++ cutV (t.wd.map wV) (some (nt + 1)) none))) Z1 (.lst (cutV (t.wd.map wV) none (some nt)))) Z2 (.lst ([V.str "has"]))) Z3 (.lst (cutV (t.wd.map wV) none (some nt) ++ [V.str "has"]))) Z4 (.lst (cutV (t.wd.map wV) (some nt) none))) Y1 (.lst (cutV (t.wd.map wV) none (some nt) ++ [V.str "has"] ++ cutV (t.wd.map wV) (some nt) none))) Z5 (.lst (cutV (t.wd.map wV) none (some nt)))) Z6 (.lst ([V.str "IS"]))) Z7 (.lst (cutV (t.wd.map wV) none (some nt) ++ [V.str "IS"]))) Z8 (.lst (cutV (t.wd.map wV) (some (nt + 1)) none))) Y2 (.lst (cutV (t.wd.map wV) none (some nt) ++ [V.str "IS"] ++ cutV (t.wd.map wV) (some (nt + 1)) none))) Z9 (.lst (cutV (t.wd.map wV) none (some nt)))) Za (.lst ([V.str ""]))) Zb (.lst (cutV (t.wd.map wV) none (some nt) ++ [V.str ""]))) Zc (.lst (cutV (t.wd.map wV) (some nt) none))) Y3 (.lst (cutV (t.wd.map wV) none (some nt) ++ [V.str ""] ++ cutV (t.wd.map wV) (some nt) none))) Zd (.lst ([V.str "not"]))) Y4 (.lst (t.wd.map wV ++ [V.str "not"]))) Ls (.lst ([V.ref Y0, V.ref Y1, V.ref Y2, V.ref Y3, V.ref Y4]))) p b := by array_get_dec
      have t14 : LamX.Tabs [(T.P_law, lamQ)] (upd (upd (upd (upd (upd (upd (upd (upd (upd (upd (upd (upd (upd (upd (upd (upd (upd (upd (upd (upd (upd H13 X1 (.lst (cutV (t.wd.map wV) none (some nt)))) X2 (.lst (cutV (t.wd.map wV) (some (nt + 1)) none))) Y0 (.lst (cutV (t.wd.map wV) none (some nt) ++ cutV (t.wd.map wV) (some (nt + 1)) none))) Z1 (.lst (cutV (t.wd.map wV) none (some nt)))) Z2 (.lst ([V.str "has"]))) Z3 (.lst (cutV (t.wd.map wV) none (some nt) ++ [V.str "has"]))) Z4 (.lst (cutV (t.wd.map wV) (some nt) none))) Y1 (.lst (cutV (t.wd.map wV) none (some nt) ++ [V.str "has"] ++ cutV (t.wd.map wV) (some nt) none))) Z5 (.lst (cutV (t.wd.map wV) none (some nt)))) Z6 (.lst ([V.str "IS"]))) Z7 (.lst (cutV (t.wd.map wV) none (some nt) ++ [V.str "IS"]))) Z8 (.lst (cutV (t.wd.map wV) (some (nt + 1)) none))) Y2 (.lst (cutV (t.wd.map wV) none (some nt) ++ [V.str "IS"] ++ cutV (t.wd.map wV) (some (nt + 1)) none))) Z9 (.lst (cutV (t.wd.map wV) none (some nt)))) Za (.lst ([V.str ""]))) Zb (.lst (cutV (t.wd.map wV) none (some nt) ++ [V.str ""]))) Zc (.lst (cutV (t.wd.map wV) (some nt) none))) Y3 (.lst (cutV (t.wd.map wV) none (some nt) ++ [V.str ""] ++ cutV (t.wd.map wV) (some nt) none))) Zd (.lst ([V.str "not"]))) Y4 (.lst (t.wd.map wV ++ [V.str "not"]))) Ls (.lst ([V.ref Y0, V.ref Y1, V.ref Y2, V.ref Y3, V.ref Y4]))) := by array_get_dec
      have v14 : Dp K (hn p (upd (upd (upd (upd (upd (upd (upd (upd (upd (upd (upd (upd (upd (upd (upd (upd (upd (upd (upd (upd (upd H13 X1 (.lst (cutV (t.wd.map wV) none (some nt)))) X2 (.lst (cutV (t.wd.map wV) (some (nt + 1)) none))) Y0 (.lst (cutV (t.wd.map wV) none (some nt) ++ cutV (t.wd.map wV) (some (nt + 1)) none))) Z1 (.lst (cutV (t.wd.map wV) none (some nt)))) Z2 (.lst ([V.str "has"]))) Z3 (.lst (cutV (t.wd.map wV) none (some nt) ++ [V.str "has"]))) Z4 (.lst (cutV (t.wd.map wV) (some nt) none))) Y1 (.lst (cutV (t.wd.map wV) none (some nt) ++ [V.str "has"] ++ cutV (t.wd.map wV) (some nt) none))) Z5 (.lst (cutV (t.wd.map wV) none (some nt)))) Z6 (.lst ([V.str "IS"]))) Z7 (.lst (cutV (t.wd.map wV) none (some nt) ++ [V.str "IS"]))) Z8 (.lst (cutV (t.wd.map wV) (some (nt + 1)) none))) Y2 (.lst (cutV (t.wd.map wV) none (some nt) ++ [V.str "IS"] ++ cutV (t.wd.map wV) (some (nt + 1)) none))) Z9 (.lst (cutV (t.wd.map wV) none (some nt)))) Za (.lst ([V.str ""]))) Zb (.lst (cutV (t.wd.map wV) none (some nt) ++ [V.str ""]))) Zc (.lst (cutV (t.wd.map wV) (some nt) none))) Y3 (.lst (cutV (t.wd.map wV) none (some nt) ++ [V.str ""] ++ cutV (t.wd.map wV) (some nt) none))) Zd (.lst ([V.str "not"]))) Y4 (.lst (t.wd.map wV ++ [V.str "not"]))) Ls (.lst ([V.ref Y0, V.ref Y1, V.ref Y2, V.ref Y3, V.ref Y4])))) v t.toD := by decreasing_trivial_pre_omega
      generalize (upd (upd (upd (upd (upd (upd (upd (upd (upd (upd (upd (upd (upd (upd (upd (upd (upd (upd (upd (upd (upd H13 X1 (.lst (cutV (t.wd.map wV) none (some nt)))) X2 (.lst (cutV (t.wd.map wV) (some (nt + 1)) none))) Y0 (.lst (cutV (t.wd.map wV) none (some nt) ++ cutV (t.wd.map wV) (some (nt + 1)) none))) Z1 (.lst (cutV (t.wd.map wV) none (some nt)))) Z2 (.lst ([V.str "has"]))) Z3 (.lst (cutV (t.wd.map wV) none (some nt) ++ [V.str "has"]))) Z4 (.lst (cutV (t.wd.map wV) (some nt) none))) Y1 (.lst (cutV (t.wd.map wV) none (some nt) ++ [V.str "has"] ++ cutV (t.wd.map wV) (some nt) none))) Z5 (.lst (cutV (t.wd.map wV) none (some nt)))) Z6 (.lst ([V.str "IS"]))) Z7 (.lst (cutV (t.wd.map wV) none (some nt) ++ [V.str "IS"]))) Z8 (.lst (cutV (t.wd.map wV) (some (nt + 1)) none))) Y2 (.lst (cutV (t.wd.map wV) none (some nt) ++ [V.str "IS"] ++ cutV (t.wd.map wV) (some (nt + 1)) none))) Z9 (.lst (cutV (t.wd.map wV) none (some nt)))) Za (.lst ([V.str ""]))) Zb (.lst (cutV (t.wd.map wV) none (some nt) ++ [V.str ""]))) Zc (.lst (cutV (t.wd.map wV) (some nt) none))) Y3 (.lst (cutV (t.wd.map wV) none (some nt) ++ [V.str ""] ++ cutV (t.wd.map wV) (some nt) none))) Zd (.lst ([V.str "not"]))) Y4 (.lst (t.wd.map wV ++ [V.str "not"]))) Ls (.lst ([V.ref Y0, V.ref Y1, V.ref Y2, V.ref Y3, V.ref Y4]))) = GH at f0 f1 f2 f3 f4 B14 t14 v14 ⊢
      have a1 : cutV (t.wd.map wV) none (some nt) = (t.wd.take nt.toNat).map wV := by rw [cutV_to n0, List.map_take]
      have a2 : cutV (t.wd.map wV) (some (nt + 1)) none = (t.wd.drop (nt.toNat + 1)).map wV := by rw [cutV_from (by omega), List.map_drop, show (nt + 1).toNat = nt.toNat + 1 by omega]
      have a3 : cutV (t.wd.map wV) (some nt) none = (t.wd.drop nt.toNat).map wV := by rw [cutV_from n0, List.map_drop]
      rw [a1, a2] at f0 f2
      rw [a1, a3] at f1 f3
      have hboth : atI [V.ref Y0, V.ref Y1, V.ref Y2, V.ref Y3, V.ref Y4] wy = some (.ref (if wy = 0 then Y0 else if wy = 1 then Y1 else if wy = 2 then Y2 else if wy = 3 then Y3 else Y4)) ∧ GH (if wy = 0 then Y0 else if wy = 1 then Y1 else if wy = 2 then Y2 else if wy = 3 then Y3 else Y4) = some (.lst (((bentW t.wd nt.toNat wy.toNat).map S).map V.str)) := by
        have h5 : wy = 0 ∨ wy = 1 ∨ wy = 2 ∨ wy = 3 ∨ wy = 4 := by omega
        rcases h5 with rfl | rfl | rfl | rfl | rfl
        · refine ⟨rfl, ?_⟩
          show GH Y0 = _
          rw [f0, ← List.map_append, ← map_wV]
          rfl
        · refine ⟨rfl, ?_⟩
          show GH Y1 = _
          rw [f1, ← map_wV, has_eq', show [V.str (S kHas)] = [kHas].map wV from rfl, ← List.map_append, ← List.map_append, List.append_assoc]
          rfl
        · refine ⟨rfl, ?_⟩
          show GH Y2 = _
          rw [f2, ← map_wV, show (("IS" : Str)) = S [73, 83] by decide +kernel, show [V.str (S [73, 83])] = [[73, 83]].map wV from rfl, ← List.map_append, ← List.map_append, List.append_assoc]
          rfl
        · refine ⟨rfl, ?_⟩
          show GH Y3 = _
          rw [f3, ← map_wV, show (("" : Str)) = S [] by decide +kernel, show [V.str (S [])] = [[]].map wV from rfl, ← List.map_append, ← List.map_append, List.append_assoc]
          rfl
        · refine ⟨rfl, ?_⟩
          show GH Y4 = _
          rw [f4, ← map_wV, not_eq', show [V.str (S kNot)] = [kNot].map wV from rfl, ← List.map_append]
          rfl
      obtain ⟨hat, hLw⟩ := hboth
      have bl := bent_len (n := nt.toNat) (w := wy.toNat) (show (TL.joinL [32] t.wd).length ≤ 2000 from htl) hwl
      have ba := bent_asc gd nt.toNat wy.toNat
      have bb := fun h => bent_bad gd (by omega) (n := nt.toNat) (w := wy.toNat) h
      generalize bentW t.wd nt.toNat wy.toNat = bw at *
      refine ⟨hat, ?_⟩
      sizeOf_list_dec
      refine ⟨join_bound bl.2 (by omega) (by decide), ?_⟩
      rw [join_S']
      have bl2 := bl.2
      have hwy : wy ≤ 1 ∨ parseW (TL.spl [32] 0 [] (TL.joinL [32] bw)) = none := by
        by_cases h : wy ≤ 1
        · exact .inl h
        · exact .inr (bb (by omega))
      clear bl bb
      generalize TL.joinL [32] bw = sp at *
      have zsp : ∀ z, PyData.str (S sp) = .str z → z.length ≤ 90000 := fun z e => by
        cases e
        rw [SX.S_len]
        omega
      have lsp := ok_str ba (by omega)
      have shp : SeqAt.shaped (.tuple [.str "InvalidTest", .str (S sp)]) = true := by
        have e : PyData.canLay0 (.str "InvalidTest") = true := by decide +kernel
        show ((PyData.canLay0 (.str "InvalidTest") && (PyData.canLay0 (.str (S sp)) && true)) && true) = true
        rw [e, lsp]
        rfl
      have shr : SeqAt.shaped (rtD (.str (S sp))) = true := by
        unfold rtD
        cases e : parseD (.str (S sp)) with
        | none => exact shp
        | some u =>
          obtain ⟨_, gu, du⟩ := parse_txt e
          obtain ⟨c1, c2⟩ := can_tst u gu
          have e0 : PyData.canLay0 (.str "") = true := by decide +kernel
          refine Bool.and_eq_true_iff.mpr ⟨?_, decide_eq_true ?_⟩
          · show (PyData.canLay0 (.str "") && (PyData.canLay0 u.toD && true)) = true
            rw [e0, c1]
            rfl
          · show max 0 (max (PyData.depth u.toD) 0) + 1 ≤ 64
            omega
      have hcm : PyData.eqv (rtD (.str (S sp))) (.tuple [.str "InvalidTest", .str (S sp)]) = true ∨ wy ≤ 1 := by
        rcases hwy with h | h
        · exact .inr h
        · left
          have e1 : parseD (.str (S sp)) = none := by
            show parseW (TL.spl [32] 0 [] (S sp).cps.toList) = none
            rw [show (S sp).cps.toList = sp by simp [S]]
            exact h
          unfold rtD
          rw [e1]
          exact SeqAt.eqv_refl _ (SeqAt.canLay_of_shaped shp)
      sizeOf_list_dec
      refine cut_mk (fun σ G => Hold (∃ o9 : Option V, σ = [some (.ref a), some (.ref p), some (.int (0 + (i : Int))), some (.ref D), some v, some (.str (S t.txt)), some (.ref R), some (.int nt), some (.int wy), o9, some (.str (S sp)), o11, o12, o13] ∧ BoxAt G p b ∧ LamX.Tabs [(T.P_law, lamQ)] G ∧ Dp K (hn p G) v t.toD)) ?_ ?_
      · refine got_test T (x := .str (S sp)) (d := .str (S sp)) t14 (fun H' Q' q => ⟨_, rfl, q⟩) (.str _) zsp fun ga H15 H16 x15 s16 t16 hga => ?_
        have B16 := (B14.ext x15).mono s16
        have v16 := Dp.mono ((Kp.ext (p := p) x15).trans (Kp.of s16)) _ _ v14
        sizeOf_list_dec
        rename_i q0 fq0
        refine ⟨.tup (SqT.of upd_same) (.cons (.str _) (.cons (.str _) .nil)), shr, shp, ?_⟩
        have B17 := B16.new fq0 (.tup [.str "InvalidTest", .str (S sp)])
        have t17 := tabs_of t16 (same_new fq0 (.tup [.str "InvalidTest", .str (S sp)]))
        have v17 := Dp.mono (Kp.new (p := p) fq0 (.tup [.str "InvalidTest", .str (S sp)])) _ _ v16
        generalize upd H16 q0 (.tup [.str "InvalidTest", .str (S sp)]) = H17 at *
        refine ⟨_, rfl, ?_⟩
        rcases hcm with h | h
        · rw [h]
          sizeOf_list_dec
          exact ⟨⟨_, rfl, B17, t17, v17⟩⟩
        · cases PyData.eqv (rtD (.str (S sp))) (.tuple [.str "InvalidTest", .str (S sp)])
          · sizeOf_list_dec
            refine gF (decide_eq_false (by omega)) ?_
            sizeOf_list_dec
            exact ⟨⟨_, rfl, B17, t17, v17⟩⟩
          · sizeOf_list_dec
            exact ⟨⟨_, rfl, B17, t17, v17⟩⟩
      · rintro σ' G ⟨o9, rfl, BG, tG, vG⟩
        refine got_test T (x := .str (S sp)) (d := .str (S sp)) tG (fun H' Q' q => ⟨_, rfl, q⟩) (.str _) zsp fun ga H15 H16 x15 s16 t16 hga => ?_
        have B16 := (BG.ext x15).mono s16
        have v16 := Dp.mono ((Kp.ext (p := p) x15).trans (Kp.of s16)) _ _ vG
        refine cut_mk (fun σ G => Hold (∃ o9 o11 : Option V, σ = [some (.ref a), some (.ref p), some (.int (0 + (i : Int))), some (.ref D), some v, some (.str (S t.txt)), some (.ref R), some (.int nt), some (.int wy), o9, some (.str (S sp)), o11, o12, o13] ∧ BoxAt G p b ∧ LamX.Tabs [(T.P_law, lamQ)] G ∧ Dp K (hn p G) v t.toD)) ?_ ?_
        · unfold rtD at hga
          cases e : parseD (.str (S sp)) with
          | none =>
            rw [e] at hga
            obtain ⟨ra, y0, y1, rfl, hs, h0, h1⟩ := Dp.tup2 hga
            obtain rfl := Dp.str1 h0
            have h0' : atI [V.str "InvalidTest", y1] 0 = some (.str "InvalidTest") := at0
            sizeOf_list_dec
            exact ⟨⟨_, _, rfl, B16, t16, v16⟩⟩
          | some u =>
            rw [e] at hga
            obtain ⟨ra, y0, y1, rfl, hs, h0, h1⟩ := Dp.tup2 hga
            obtain rfl := Dp.str1 h0
            have e' : parseW (TL.spl [32] 0 [] sp) = some u := by
              have : parseW (TL.spl [32] 0 [] (S sp).cps.toList) = some u := e
              rwa [show (S sp).cps.toList = sp by simp [S]] at this
            obtain ⟨eu, gu, du⟩ := parse_txt e'
            have h0' : atI [V.str "", y1] 0 = some (.str "") := at0
            have h1' : atI [V.str "", y1] 1 = some y1 := at1
            have du10 : u.deep ≤ 10 := by omega
            sizeOf_list_dec
            rename_i H17 e17
            refine gF (by rw [← eu]; simp) ?_
            sizeOf_list_dec
            exact ⟨⟨_, _, rfl, B16.mono e17, tabs_of t16 e17, Dp.mono (Kp.of (p := p) e17) _ _ v16⟩⟩
        · rintro σ' G2 ⟨o9, o11, rfl, BG2, tG2, vG2⟩
          clear B16 v16 t16 hga x15 s16 vG tG BG v14 t14 B14 hLw f0 f1 f2 f3 f4
          have hv2 : Dp K G2 v t.toD := dp_hn vG2
          have ltx := ok_str (txt_asc gd) (by omega)
          have lz1 : ((" " : Str)).length + (S t.txt).length ≤ sizeLine := small (by rw [SX.S_len]; show 1 + _ ≤ _; omega)
          have lz2 : (S t.txt).length + ((" " : Str)).length ≤ sizeLine := small (by rw [SX.S_len]; show _ + 1 ≤ _; omega)
          have lz3 : (S t.txt ++ (" " : Str)).length + (S t.txt).length ≤ sizeLine := small (by rw [sp_eq', SX.S_cat, SX.S_len, SX.S_len, List.length_append]; show (_ + 1) + _ ≤ _; omega)
          have lz4 : (S t.txt).length + (("\n" : Str)).length ≤ sizeLine := small (by rw [SX.S_len]; show _ + 1 ≤ _; omega)
          have lz5 : (S t.txt).length + ((S t.txt).length + 1) * (("  " : Str)).length ≤ 16777216 := by rw [SX.S_len]; show _ + (_ + 1) * 2 ≤ _; omega
          sizeOf_list_dec
          rename_i M1 fM1 M2 fM2
          refine ⟨(BG2.new fM1 _).ne fM2, .cons (.str _) (.cons (.str _) (.cons (.str _) (.cons (.str _) (.cons (.str _) (.cons (.lst (SqL.of (hide_mono (same_new fM2 _) _ _ (hid_same (BG2.ne fM1)))) (.cons (.str _) .nil)) .nil))))), (show (oddDs t).length ≤ 100 by show 6 ≤ 100; decide), fun ov od H18 hod hov B18 e18 => ?_⟩
          have e18' : Kp p G2 H18 := (Kp.new fM1 _).trans ((Kp.new fM2 _).trans (Kp.but e18))
          have t18 := tabs_but (tabs_of (tabs_of tG2 (same_new fM1 _)) (same_new fM2 _)) ((BG2.new fM1 _).new fM2 _) e18
          have v18 := Dp.mono e18' _ _ vG2
          have ok : OddOk od := (List.mem_append.mp hod).elim (odds_ok od) (oddDs_ok gd (by omega) htl od)
          obtain ⟨ok1, ok2, ok3⟩ := ok
          have o18 := Dp.hn _ _ hov
          have ert : rtD od = .tuple [.str "InvalidTest", od] := by
            unfold rtD
            rw [ok1]
          sizeOf_list_dec
          refine got_test T (x := ov) (d := od) t18 (fun H' Q' q => ⟨_, rfl, q⟩) (Dp.mono hn_noT _ _ o18) ok3 fun gb H19 H20 x19 s20 t20 hgb => ?_
          rw [ert] at hgb
          have k20 : Kp p H18 H20 := (Kp.ext x19).trans (Kp.of s20)
          have B20 := (B18.ext x19).mono s20
          have v20 := Dp.mono k20 _ _ v18
          have o20 : Dp K H20 ov od := dp_hn (Dp.mono k20 _ _ o18)
          sizeOf_list_dec
          rename_i q2 fq2
          have sq2 := same_new fq2 (.tup [.str "InvalidTest", ov])
          refine ⟨.tup (SqT.of upd_same) (.cons (.str _) (.cons (Dp.mono sq2 _ _ o20) .nil)), fits_le (m := 4) (by decide) ⟨by show 2 < 1000000; decide, fun d hd => ?_⟩, fun H21 e21 => ?_⟩
          · rcases List.mem_cons.mp hd with rfl | hd
            · exact True.intro
            obtain rfl := List.mem_singleton.mp hd
            exact ok2
          have B21 := B20.mono (sq2.trans e21)
          have t21 := tabs_of t20 (sq2.trans e21)
          have v21 := Dp.mono (Kp.of (p := p) (sq2.trans e21)) _ _ v20
          clear B20 v20 o20 k20 hgb t20 s20 x19 o18 v18 t18 e18' hov B18 e18
          sizeOf_list_dec
          have lz6 : (("not " : Str)).length + (S t.txt).length ≤ sizeLine := small (by rw [SX.S_len]; show 4 + _ ≤ _; omega)
          have ezn : ∀ z, PyData.str (("not " : Str) ++ S t.txt) = .str z → z.length ≤ 90000 := fun z e => by
            cases e
            rw [neg_txt, SX.S_len, List.length_append]
            show 4 + _ ≤ _
            omega
          have epn : parseD (.str (("not " : Str) ++ S t.txt)) = if t.deep < 6 then some (.neg t) else none := by
            show parseW (TL.spl [32] 0 [] (("not " : Str) ++ S t.txt).cps.toList) = _
            rw [neg_txt, show (S ((kNot ++ [32]) ++ t.txt)).cps.toList = (kNot ++ [32]) ++ t.txt by simp [S], neg_spl gd]
            by_cases h : t.deep < 6
            · rw [if_pos h]
              exact parse_wd (t := .neg t) h gd
            · rw [if_neg h]
              exact parse_not (by omega) gd
          refine got_test T (x := .str (("not " : Str) ++ S t.txt)) (d := .str (("not " : Str) ++ S t.txt)) t21 (fun H' Q' q => ⟨_, rfl, _, _, rfl, rfl, lz6, q⟩) (.str _) ezn fun gc H22 H23 x22 s23 t23 hgc => ?_
          have k23 : Kp p H21 H23 := (Kp.ext x22).trans (Kp.of s23)
          have B23 := (B21.ext x22).mono s23
          have v23 := Dp.mono k23 _ _ v21
          have hv23 : Dp K H23 v t.toD := dp_hn v23
          unfold rtD at hgc
          rw [epn] at hgc
          sizeOf_list_dec
          rename_i H24 e24
          have hgc4 := Dp.mono e24 _ _ hgc
          have hv24 := Dp.mono e24 _ _ hv23
          have B24 := B23.mono e24
          have t24 := tabs_of t23 e24
          have ft := fits_le (n := 7) (by omega) (fits_tst t)
          by_cases hd6 : t.deep < 6
          · refine gT (decide_eq_true (by omega)) ?_
            rw [if_pos hd6] at hgc4
            sizeOf_list_dec
            rename_i q3 fq3 q4 fq4
            have hq3 := same_new fq4 (.tup [.str "", .ref q3]) _ _ (upd_same (H := H24) (a := q3) (o := .tup [.str "not", v]))
            have s5 := (same_new fq3 (.tup [.str "not", v])).trans (same_new fq4 (.tup [.str "", .ref q3]))
            refine ⟨.tup (SqT.of upd_same) (.cons (.str _) (.cons (.tup (SqT.of hq3) (.cons (.str _) (.cons (Dp.mono s5 _ _ hv24) .nil))) .nil)), ⟨by show 2 < 1000000; decide, fun d hd => ?_⟩, fun H25 e25 => ?_⟩
            · rcases List.mem_cons.mp hd with rfl | hd
              · exact True.intro
              obtain rfl := List.mem_singleton.mp hd
              exact fits_le (n := 7) (m := t.deep + 2) (by omega) (fits_tst (.neg t))
            sizeOf_list_dec
            exact ⟨⟨_, rfl, rfl, B24.mono (s5.trans e25), tabs_of t24 (s5.trans e25)⟩⟩
          · refine gF (decide_eq_false (by omega)) ?_
            rw [if_neg hd6] at hgc4
            sizeOf_list_dec
            rename_i q3 fq3
            have s5 := same_new fq3 (.tup [.str "InvalidTest", .str (("not " : Str) ++ S t.txt)])
            refine ⟨.tup (SqT.of upd_same) (.cons (.str _) (.cons (.str _) .nil)), ⟨by show 2 < 1000000; decide, fun d hd => ?_⟩, fun H25 e25 => ?_⟩
            · rcases List.mem_cons.mp hd with rfl | hd
              · exact True.intro
              obtain rfl := List.mem_singleton.mp hd
              exact True.intro
            sizeOf_list_dec
            exact ⟨⟨_, rfl, rfl, B24.mono (s5.trans e25), tabs_of t24 (s5.trans e25)⟩⟩
  · rintro σ H2 ⟨o, ho, rfl, B2, t2⟩
    sizeOf_list_dec
    exact k _
end
end Bl

namespace Bl
open PySem L2
theorem top_mk {K : PySem.W.Frag} {w : World} {h : Heap} {mg : Str → Option Value} {fa : Addr} (X : K.In h) (G : h.Ns mainGlobals mg) (hfa : mg "law" = some (.ref fa))
    {a0 : Addr} {od0 an0 : Option Addr} {sl0 : Array (Option Value)} {oc0 kV0 dc0 pm0 cd0 ct0 : Value}
    {a1 : Addr} {od1 an1 : Option Addr} {sl1 : Array (Option Value)} {oc1 kV1 dc1 pm1 cd1 ct1 : Value}
    {a2 : Addr} {od2 an2 : Option Addr} {sl2 : Array (Option Value)} {oc2 kV2 dc2 pm2 cd2 ct2 : Value}
    {a3 : Addr} {od3 an3 : Option Addr} {sl3 : Array (Option Value)} {oc3 kV3 dc3 pm3 cd3 ct3 : Value}
    {a4 : Addr} {od4 an4 : Option Addr} {sl4 : Array (Option Value)} {oc4 kV4 dc4 pm4 cd4 ct4 : Value}
    {a5 : Addr} {od5 an5 : Option Addr} {sl5 : Array (Option Value)} {oc5 kV5 dc5 pm5 cd5 ct5 : Value}
    {a6 : Addr} {od6 an6 : Option Addr} {sl6 : Array (Option Value)} {oc6 kV6 dc6 pm6 cd6 ct6 : Value}
    {a7 : Addr} {od7 an7 : Option Addr} {sl7 : Array (Option Value)} {oc7 kV7 dc7 pm7 cd7 ct7 : Value}
    {a8 : Addr} {od8 an8 : Option Addr} {sl8 : Array (Option Value)} {oc8 kV8 dc8 pm8 cd8 ct8 : Value}
    {a9 : Addr} {od9 an9 : Option Addr} {sl9 : Array (Option Value)} {oc9 kV9 dc9 pm9 cd9 ct9 : Value}
    {a10 : Addr} {od10 an10 : Option Addr} {sl10 : Array (Option Value)} {oc10 kV10 dc10 pm10 cd10 ct10 : Value}
    {a11 : Addr} {od11 an11 : Option Addr} {sl11 : Array (Option Value)} {oc11 kV11 dc11 pm11 cd11 ct11 : Value}
    {a12 : Addr} {od12 an12 : Option Addr} {sl12 : Array (Option Value)} {oc12 kV12 dc12 pm12 cd12 ct12 : Value}
    {a13 : Addr} {od13 an13 : Option Addr} {sl13 : Array (Option Value)} {oc13 kV13 dc13 pm13 cd13 ct13 : Value}
    {a14 : Addr} {od14 an14 : Option Addr} {sl14 : Array (Option Value)} {oc14 kV14 dc14 pm14 cd14 ct14 : Value}
    {a15 : Addr} {od15 an15 : Option Addr} {sl15 : Array (Option Value)} {oc15 kV15 dc15 pm15 cd15 ct15 : Value}
    {a16 : Addr} {od16 an16 : Option Addr} {sl16 : Array (Option Value)} {oc16 kV16 dc16 pm16 cd16 ct16 : Value}
    {a17 : Addr} {od17 an17 : Option Addr} {sl17 : Array (Option Value)} {oc17 kV17 dc17 pm17 cd17 ct17 : Value}
    {a18 : Addr} {od18 an18 : Option Addr} {sl18 : Array (Option Value)} {oc18 kV18 dc18 pm18 cd18 ct18 : Value}
    {a19 : Addr} {od19 an19 : Option Addr} {sl19 : Array (Option Value)} {oc19 kV19 dc19 pm19 cd19 ct19 : Value}
    {C_LotsError : Addr}
    {C_Missing : Addr}
    {C_InvalidTest : Addr}
    {f_InvalidTest : Addr} {od_InvalidTest an_InvalidTest : Option Addr} {sl_InvalidTest : Array (Option Value)} {oc_InvalidTest kV_InvalidTest dc_InvalidTest pm_InvalidTest cd_InvalidTest ct_InvalidTest : Value}
    {C_NothingLeft : Addr}
    {f_NothingLeft : Addr} {od_NothingLeft an_NothingLeft : Option Addr} {sl_NothingLeft : Array (Option Value)} {oc_NothingLeft kV_NothingLeft dc_NothingLeft pm_NothingLeft cd_NothingLeft ct_NothingLeft : Value}
    {c_law P_law : Addr} {ec_law : Value} {dc_law : Option Addr} {vc_law : Array Value} {sc0_law : Array (Option Value)}
    {t_LETTERS : Tok}
    {t_LONGEST_NAME : Tok}
    {t_DEEPEST : Tok}
    {p_PARTS : Addr} {n_PARTS : Nat} {h0 h1 h2 : Int} {tp0 tp1 tp2 up0 up1 up2 : Tok}
    (A0 : PySem.W.nsIn K mainGlobals "is_name" = some (some (.ref a0))) (L0 : K.lookup a0 = some ⟨oc0, od0, .func (PySem.W.fnOf "is_name" "is_name" (defArgs s_is_name) (defBody s_is_name) (defScope s_is_name) .none kV0 dc0 pm0 an0 cd0 ct0), sl0⟩) (C0 : PySem.W.codeIn K cd0 "is_name" = true) (K0 : PySem.W.keepIn K (.ref a0) = true)
    (A1 : PySem.W.nsIn K mainGlobals "is_column" = some (some (.ref a1))) (L1 : K.lookup a1 = some ⟨oc1, od1, .func (PySem.W.fnOf "is_column" "is_column" (defArgs s_is_column) (defBody s_is_column) (defScope s_is_column) .none kV1 dc1 pm1 an1 cd1 ct1), sl1⟩) (C1 : PySem.W.codeIn K cd1 "is_column" = true) (K1 : PySem.W.keepIn K (.ref a1) = true)
    (A2 : PySem.W.nsIn K mainGlobals "is_test" = some (some (.ref a2))) (L2 : K.lookup a2 = some ⟨oc2, od2, .func (PySem.W.fnOf "is_test" "is_test" (defArgs s_is_test) (defBody s_is_test) (defScope s_is_test) .none kV2 dc2 pm2 an2 cd2 ct2), sl2⟩) (C2 : PySem.W.codeIn K cd2 "is_test" = true) (K2 : PySem.W.keepIn K (.ref a2) = true)
    (A3 : PySem.W.nsIn K mainGlobals "_is_test_within" = some (some (.ref a3))) (L3 : K.lookup a3 = some ⟨oc3, od3, .func (PySem.W.fnOf "_is_test_within" "_is_test_within" (defArgs s_is_test_within) (defBody s_is_test_within) (defScope s_is_test_within) .none kV3 dc3 pm3 an3 cd3 ct3), sl3⟩) (C3 : PySem.W.codeIn K cd3 "_is_test_within" = true) (K3 : PySem.W.keepIn K (.ref a3) = true)
    (A4 : PySem.W.nsIn K mainGlobals "test_text" = some (some (.ref a4))) (L4 : K.lookup a4 = some ⟨oc4, od4, .func (PySem.W.fnOf "test_text" "test_text" (defArgs s_test_text) (defBody s_test_text) (defScope s_test_text) .none kV4 dc4 pm4 an4 cd4 ct4), sl4⟩) (C4 : PySem.W.codeIn K cd4 "test_text" = true) (K4 : PySem.W.keepIn K (.ref a4) = true)
    (A5 : PySem.W.nsIn K mainGlobals "read_test" = some (some (.ref a5))) (L5 : K.lookup a5 = some ⟨oc5, od5, .func (PySem.W.fnOf "read_test" "read_test" (defArgs s_read_test) (defBody s_read_test) (defScope s_read_test) .none kV5 dc5 pm5 an5 cd5 ct5), sl5⟩) (C5 : PySem.W.codeIn K cd5 "read_test" = true) (K5 : PySem.W.keepIn K (.ref a5) = true)
    (A6 : PySem.W.nsIn K mainGlobals "_read_from" = some (some (.ref a6))) (L6 : K.lookup a6 = some ⟨oc6, od6, .func (PySem.W.fnOf "_read_from" "_read_from" (defArgs s_read_from) (defBody s_read_from) (defScope s_read_from) .none kV6 dc6 pm6 an6 cd6 ct6), sl6⟩) (C6 : PySem.W.codeIn K cd6 "_read_from" = true) (K6 : PySem.W.keepIn K (.ref a6) = true)
    (A7 : PySem.W.nsIn K mainGlobals "_read_leaf" = some (some (.ref a7))) (L7 : K.lookup a7 = some ⟨oc7, od7, .func (PySem.W.fnOf "_read_leaf" "_read_leaf" (defArgs s_read_leaf) (defBody s_read_leaf) (defScope s_read_leaf) .none kV7 dc7 pm7 an7 cd7 ct7), sl7⟩) (C7 : PySem.W.codeIn K cd7 "_read_leaf" = true) (K7 : PySem.W.keepIn K (.ref a7) = true)
    (A8 : PySem.W.nsIn K mainGlobals "_law_box" = some (some (.ref a8))) (L8 : K.lookup a8 = some ⟨oc8, od8, .func (PySem.W.fnOf "_law_box" "_law_box" (defArgs s_box) (defBody s_box) (defScope s_box) .none kV8 dc8 pm8 an8 cd8 ct8), sl8⟩) (C8 : PySem.W.codeIn K cd8 "_law_box" = true) (K8 : PySem.W.keepIn K (.ref a8) = true)
    (A9 : PySem.W.nsIn K mainGlobals "_law_pull" = some (some (.ref a9))) (L9 : K.lookup a9 = some ⟨oc9, od9, .func (PySem.W.fnOf "_law_pull" "_law_pull" (defArgs s_pull) (defBody s_pull) (defScope s_pull) .none kV9 dc9 pm9 an9 cd9 ct9), sl9⟩) (C9 : PySem.W.codeIn K cd9 "_law_pull" = true) (K9 : PySem.W.keepIn K (.ref a9) = true)
    (A10 : PySem.W.nsIn K mainGlobals "_law_of" = some (some (.ref a10))) (L10 : K.lookup a10 = some ⟨oc10, od10, .func (PySem.W.fnOf "_law_of" "_law_of" (defArgs s_of) (defBody s_of) (defScope s_of) .none kV10 dc10 pm10 an10 cd10 ct10), sl10⟩) (C10 : PySem.W.codeIn K cd10 "_law_of" = true) (K10 : PySem.W.keepIn K (.ref a10) = true)
    (A11 : PySem.W.nsIn K mainGlobals "_law_names" = some (some (.ref a11))) (L11 : K.lookup a11 = some ⟨oc11, od11, .func (PySem.W.fnOf "_law_names" "_law_names" (defArgs s_names) (defBody s_names) (defScope s_names) .none kV11 dc11 pm11 an11 cd11 ct11), sl11⟩) (C11 : PySem.W.codeIn K cd11 "_law_names" = true) (K11 : PySem.W.keepIn K (.ref a11) = true)
    (A12 : PySem.W.nsIn K mainGlobals "_law_same" = some (some (.ref a12))) (L12 : K.lookup a12 = some ⟨oc12, od12, .func (PySem.W.fnOf "_law_same" "_law_same" (defArgs s_same) (defBody s_same) (defScope s_same) .none kV12 dc12 pm12 an12 cd12 ct12), sl12⟩) (C12 : PySem.W.codeIn K cd12 "_law_same" = true) (K12 : PySem.W.keepIn K (.ref a12) = true)
    (A13 : PySem.W.nsIn K mainGlobals "_law_field" = some (some (.ref a13))) (L13 : K.lookup a13 = some ⟨oc13, od13, .func (PySem.W.fnOf "_law_field" "_law_field" (defArgs s_field) (defBody s_field) (defScope s_field) .none kV13 dc13 pm13 an13 cd13 ct13), sl13⟩) (C13 : PySem.W.codeIn K cd13 "_law_field" = true) (K13 : PySem.W.keepIn K (.ref a13) = true)
    (A14 : PySem.W.nsIn K mainGlobals "_law_got" = some (some (.ref a14))) (L14 : K.lookup a14 = some ⟨oc14, od14, .func (PySem.W.fnOf "_law_got" "_law_got" (defArgs s_got) (defBody s_got) (defScope s_got) .none kV14 dc14 pm14 an14 cd14 ct14), sl14⟩) (C14 : PySem.W.codeIn K cd14 "_law_got" = true) (K14 : PySem.W.keepIn K (.ref a14) = true)
    (A15 : PySem.W.nsIn K mainGlobals "_law_odd" = some (some (.ref a15))) (L15 : K.lookup a15 = some ⟨oc15, od15, .func (PySem.W.fnOf "_law_odd" "_law_odd" (defArgs s_odd) (defBody s_odd) (defScope s_odd) .none kV15 dc15 pm15 an15 cd15 ct15), sl15⟩) (C15 : PySem.W.codeIn K cd15 "_law_odd" = true) (K15 : PySem.W.keepIn K (.ref a15) = true)
    (A16 : PySem.W.nsIn K mainGlobals "_law_free_test" = some (some (.ref a16))) (L16 : K.lookup a16 = some ⟨oc16, od16, .func (PySem.W.fnOf "_law_free_test" "_law_free_test" (defArgs s_free_test) (defBody s_free_test) (defScope s_free_test) .none kV16 dc16 pm16 an16 cd16 ct16), sl16⟩) (C16 : PySem.W.codeIn K cd16 "_law_free_test" = true) (K16 : PySem.W.keepIn K (.ref a16) = true)
    (A17 : PySem.W.nsIn K mainGlobals "_law_test_words" = some (some (.ref a17))) (L17 : K.lookup a17 = some ⟨oc17, od17, .func (PySem.W.fnOf "_law_test_words" "_law_test_words" (defArgs s_test_words) (defBody s_test_words) (defScope s_test_words) .none kV17 dc17 pm17 an17 cd17 ct17), sl17⟩) (C17 : PySem.W.codeIn K cd17 "_law_test_words" = true) (K17 : PySem.W.keepIn K (.ref a17) = true)
    (A18 : PySem.W.nsIn K mainGlobals "_law_deep" = some (some (.ref a18))) (L18 : K.lookup a18 = some ⟨oc18, od18, .func (PySem.W.fnOf "_law_deep" "_law_deep" (defArgs s_deep) (defBody s_deep) (defScope s_deep) .none kV18 dc18 pm18 an18 cd18 ct18), sl18⟩) (C18 : PySem.W.codeIn K cd18 "_law_deep" = true) (K18 : PySem.W.keepIn K (.ref a18) = true)
    (A19 : PySem.W.nsIn K mainGlobals "law" = some (some (.ref a19))) (L19 : K.lookup a19 = some ⟨oc19, od19, .func (PySem.W.fnOf "law" "law" (defArgs s_law) (defBody s_law) (defScope s_law) .none kV19 dc19 pm19 an19 cd19 ct19), sl19⟩) (C19 : PySem.W.codeIn K cd19 "law" = true) (K19 : PySem.W.keepIn K (.ref a19) = true)
    (AC_LotsError : PySem.W.nsIn K mainGlobals "LotsError" = some (some (.ref C_LotsError)))
    (AC_Missing : PySem.W.nsIn K mainGlobals "Missing" = some (some (.ref C_Missing)))
    (AC_InvalidTest : PySem.W.nsIn K mainGlobals "InvalidTest" = some (some (.ref C_InvalidTest)))
    (XB_InvalidTest : xcB K veM "ValueError.__new__" C_InvalidTest = true) (IC_InvalidTest : PySem.W.findIn K (.ref C_InvalidTest) "__init__" = some (some (.ref f_InvalidTest))) (TI_InvalidTest : PySem.W.typeIn K (.ref f_InvalidTest) = some (.type "function")) (LI_InvalidTest : K.lookup f_InvalidTest = some ⟨oc_InvalidTest, od_InvalidTest, .func (PySem.W.fnOf "__init__" "InvalidTest.__init__" (defArgs si_InvalidTest) (defBody si_InvalidTest) (defScope si_InvalidTest) .none kV_InvalidTest dc_InvalidTest pm_InvalidTest an_InvalidTest cd_InvalidTest ct_InvalidTest), sl_InvalidTest⟩) (CI_InvalidTest : PySem.W.codeIn K cd_InvalidTest "InvalidTest.__init__" = true) (KI_InvalidTest : PySem.W.keepIn K (.ref f_InvalidTest) = true)
    (AC_NothingLeft : PySem.W.nsIn K mainGlobals "NothingLeft" = some (some (.ref C_NothingLeft)))
    (XB_NothingLeft : xcB K ieM "IndexError.__new__" C_NothingLeft = true) (IC_NothingLeft : PySem.W.findIn K (.ref C_NothingLeft) "__init__" = some (some (.ref f_NothingLeft))) (TI_NothingLeft : PySem.W.typeIn K (.ref f_NothingLeft) = some (.type "function")) (LI_NothingLeft : K.lookup f_NothingLeft = some ⟨oc_NothingLeft, od_NothingLeft, .func (PySem.W.fnOf "__init__" "NothingLeft.__init__" (defArgs si_NothingLeft) (defBody si_NothingLeft) (defScope si_NothingLeft) .none kV_NothingLeft dc_NothingLeft pm_NothingLeft an_NothingLeft cd_NothingLeft ct_NothingLeft), sl_NothingLeft⟩) (CI_NothingLeft : PySem.W.codeIn K cd_NothingLeft "NothingLeft.__init__" = true) (KI_NothingLeft : PySem.W.keepIn K (.ref f_NothingLeft) = true)
    (KC : cd19 = .ref c_law) (LC : K.lookup c_law = some ⟨ec_law, dc_law, .fields vc_law, sc0_law⟩) (VC : vc_law[11]? = some (.ref P_law)) (NC : K.lookup P_law = none) (HC : PySem.W.codeHdIn K c_law P_law = true)
    (XQ_InvalidTest : xqB K C_InvalidTest C_LotsError C_Missing C_NothingLeft ["given"] = true)
    (XQ_NothingLeft : xqB K C_NothingLeft C_LotsError C_Missing C_NothingLeft [] = true)
    (Z0 : PySem.W.nsIn K mainGlobals "abs" = some none)
    (Z1 : PySem.W.nsIn K mainGlobals "all" = some none)
    (Z2 : PySem.W.nsIn K mainGlobals "bool" = some none)
    (Z3 : PySem.W.nsIn K mainGlobals "int" = some none)
    (Z4 : PySem.W.nsIn K mainGlobals "isinstance" = some none)
    (Z5 : PySem.W.nsIn K mainGlobals "len" = some none)
    (Z6 : PySem.W.nsIn K mainGlobals "list" = some none)
    (Z7 : PySem.W.nsIn K mainGlobals "max" = some none)
    (Z8 : PySem.W.nsIn K mainGlobals "min" = some none)
    (Z9 : PySem.W.nsIn K mainGlobals "range" = some none)
    (Z10 : PySem.W.nsIn K mainGlobals "str" = some none)
    (Z11 : PySem.W.nsIn K mainGlobals "tuple" = some none)
    (Z12 : PySem.W.nsIn K mainGlobals "zip" = some none)
    (Y0 : PySem.W.nsIn K mainGlobals "LETTERS" = some (some (.str "abcdefghijklmnopqrstuvwxyz" t_LETTERS)))
    (Y1 : PySem.W.nsIn K mainGlobals "LONGEST_NAME" = some (some (.int 6 t_LONGEST_NAME)))
    (Y2 : PySem.W.nsIn K mainGlobals "DEEPEST" = some (some (.int 6 t_DEEPEST)))
    (Y3 : PySem.W.nsIn K mainGlobals "PARTS" = some (some (.ref p_PARTS))) (W_PARTS : K.lookup p_PARTS = some ⟨.type "dict", none, .dict #[⟨h0, .str "not" tp0, .int 1 up0⟩, ⟨h1, .str "and" tp1, .int 2 up1⟩, ⟨h2, .str "or" tp2, .int 2 up2⟩] n_PARTS, #[]⟩) (V_PARTS : PySem.W.KeysLit w.params [⟨h0, .str "not" tp0, .int 1 up0⟩, ⟨h1, .str "and" tp1, .int 2 up1⟩, ⟨h2, .str "or" tp2, .int 2 up2⟩]) (U_PARTS : (p_PARTS == sysModules) = false) :
    ∃ T : Top K w mg, T.a_law = fa ∧ ∀ (s : Shared) (v : Value), BindsTo s T.d_law ⟨[v], []⟩ [("_law_script", v)] := by
  have e : a19 = fa := (Value.ref.inj (Option.some.inj (hfa.symm.trans (PySem.W.mg_of X G A19)))).symm
  subst e
  exact ⟨{
    a_is_name := a0, d_is_name := PySem.W.fnOf "is_name" "is_name" (defArgs s_is_name) (defBody s_is_name) (defScope s_is_name) .none kV0 dc0 pm0 an0 cd0 ct0, F_is_name := fun_mk (st := s_is_name) L0 C0 K0, m_is_name := PySem.W.mg_of X G A0, b_is_name := (fun_mk (st := s_is_name) L0 C0 K0).binds (ps := ["value"]) fun _ _ _ _ _ _ us hl => match us, hl with | [_], _ => rfl,
    a_is_column := a1, d_is_column := PySem.W.fnOf "is_column" "is_column" (defArgs s_is_column) (defBody s_is_column) (defScope s_is_column) .none kV1 dc1 pm1 an1 cd1 ct1, F_is_column := fun_mk (st := s_is_column) L1 C1 K1, m_is_column := PySem.W.mg_of X G A1, b_is_column := (fun_mk (st := s_is_column) L1 C1 K1).binds (ps := ["value"]) fun _ _ _ _ _ _ us hl => match us, hl with | [_], _ => rfl,
    a_is_test := a2, d_is_test := PySem.W.fnOf "is_test" "is_test" (defArgs s_is_test) (defBody s_is_test) (defScope s_is_test) .none kV2 dc2 pm2 an2 cd2 ct2, F_is_test := fun_mk (st := s_is_test) L2 C2 K2, m_is_test := PySem.W.mg_of X G A2, b_is_test := (fun_mk (st := s_is_test) L2 C2 K2).binds (ps := ["value"]) fun _ _ _ _ _ _ us hl => match us, hl with | [_], _ => rfl,
    a_is_test_within := a3, d_is_test_within := PySem.W.fnOf "_is_test_within" "_is_test_within" (defArgs s_is_test_within) (defBody s_is_test_within) (defScope s_is_test_within) .none kV3 dc3 pm3 an3 cd3 ct3, F_is_test_within := fun_mk (st := s_is_test_within) L3 C3 K3, m_is_test_within := PySem.W.mg_of X G A3, b_is_test_within := (fun_mk (st := s_is_test_within) L3 C3 K3).binds (ps := ["value", "deepest"]) fun _ _ _ _ _ _ us hl => match us, hl with | [_, _], _ => rfl,
    a_test_text := a4, d_test_text := PySem.W.fnOf "test_text" "test_text" (defArgs s_test_text) (defBody s_test_text) (defScope s_test_text) .none kV4 dc4 pm4 an4 cd4 ct4, F_test_text := fun_mk (st := s_test_text) L4 C4 K4, m_test_text := PySem.W.mg_of X G A4, b_test_text := (fun_mk (st := s_test_text) L4 C4 K4).binds (ps := ["test"]) fun _ _ _ _ _ _ us hl => match us, hl with | [_], _ => rfl,
    a_read_test := a5, d_read_test := PySem.W.fnOf "read_test" "read_test" (defArgs s_read_test) (defBody s_read_test) (defScope s_read_test) .none kV5 dc5 pm5 an5 cd5 ct5, F_read_test := fun_mk (st := s_read_test) L5 C5 K5, m_read_test := PySem.W.mg_of X G A5, b_read_test := (fun_mk (st := s_read_test) L5 C5 K5).binds (ps := ["text"]) fun _ _ _ _ _ _ us hl => match us, hl with | [_], _ => rfl,
    a_read_from := a6, d_read_from := PySem.W.fnOf "_read_from" "_read_from" (defArgs s_read_from) (defBody s_read_from) (defScope s_read_from) .none kV6 dc6 pm6 an6 cd6 ct6, F_read_from := fun_mk (st := s_read_from) L6 C6 K6, m_read_from := PySem.W.mg_of X G A6, b_read_from := (fun_mk (st := s_read_from) L6 C6 K6).binds (ps := ["words", "start", "deepest"]) fun _ _ _ _ _ _ us hl => match us, hl with | [_, _, _], _ => rfl,
    a_read_leaf := a7, d_read_leaf := PySem.W.fnOf "_read_leaf" "_read_leaf" (defArgs s_read_leaf) (defBody s_read_leaf) (defScope s_read_leaf) .none kV7 dc7 pm7 an7 cd7 ct7, F_read_leaf := fun_mk (st := s_read_leaf) L7 C7 K7, m_read_leaf := PySem.W.mg_of X G A7, b_read_leaf := (fun_mk (st := s_read_leaf) L7 C7 K7).binds (ps := ["words", "start"]) fun _ _ _ _ _ _ us hl => match us, hl with | [_, _], _ => rfl,
    a_box := a8, d_box := PySem.W.fnOf "_law_box" "_law_box" (defArgs s_box) (defBody s_box) (defScope s_box) .none kV8 dc8 pm8 an8 cd8 ct8, F_box := fun_mk (st := s_box) L8 C8 K8, m_box := PySem.W.mg_of X G A8, b_box := (fun_mk (st := s_box) L8 C8 K8).binds (ps := ["_law_script"]) fun _ _ _ _ _ _ us hl => match us, hl with | [_], _ => rfl,
    a_pull := a9, d_pull := PySem.W.fnOf "_law_pull" "_law_pull" (defArgs s_pull) (defBody s_pull) (defScope s_pull) .none kV9 dc9 pm9 an9 cd9 ct9, F_pull := fun_mk (st := s_pull) L9 C9 K9, m_pull := PySem.W.mg_of X G A9, b_pull := (fun_mk (st := s_pull) L9 C9 K9).binds (ps := ["_law_box_here", "_law_many"]) fun _ _ _ _ _ _ us hl => match us, hl with | [_, _], _ => rfl,
    a_of := a10, d_of := PySem.W.fnOf "_law_of" "_law_of" (defArgs s_of) (defBody s_of) (defScope s_of) .none kV10 dc10 pm10 an10 cd10 ct10, F_of := fun_mk (st := s_of) L10 C10 K10, m_of := PySem.W.mg_of X G A10, b_of := (fun_mk (st := s_of) L10 C10 K10).binds (ps := ["_law_box_here", "_law_some"]) fun _ _ _ _ _ _ us hl => match us, hl with | [_, _], _ => rfl,
    a_names := a11, d_names := PySem.W.fnOf "_law_names" "_law_names" (defArgs s_names) (defBody s_names) (defScope s_names) .none kV11 dc11 pm11 an11 cd11 ct11, F_names := fun_mk (st := s_names) L11 C11 K11, m_names := PySem.W.mg_of X G A11, b_names := (fun_mk (st := s_names) L11 C11 K11).binds (ps := ["_law_box_here", "_law_many"]) fun _ _ _ _ _ _ us hl => match us, hl with | [_, _], _ => rfl,
    a_same := a12, d_same := PySem.W.fnOf "_law_same" "_law_same" (defArgs s_same) (defBody s_same) (defScope s_same) .none kV12 dc12 pm12 an12 cd12 ct12, F_same := fun_mk (st := s_same) L12 C12 K12, m_same := PySem.W.mg_of X G A12, b_same := (fun_mk (st := s_same) L12 C12 K12).binds (ps := ["_law_found", "_law_due"]) fun _ _ _ _ _ _ us hl => match us, hl with | [_, _], _ => rfl,
    a_field := a13, d_field := PySem.W.fnOf "_law_field" "_law_field" (defArgs s_field) (defBody s_field) (defScope s_field) .none kV13 dc13 pm13 an13 cd13 ct13, F_field := fun_mk (st := s_field) L13 C13 K13, m_field := PySem.W.mg_of X G A13, b_field := (fun_mk (st := s_field) L13 C13 K13).binds (ps := ["_law_e"]) fun _ _ _ _ _ _ us hl => match us, hl with | [_], _ => rfl,
    a_got := a14, d_got := PySem.W.fnOf "_law_got" "_law_got" (defArgs s_got) (defBody s_got) (defScope s_got) .none kV14 dc14 pm14 an14 cd14 ct14, F_got := fun_mk (st := s_got) L14 C14 K14, m_got := PySem.W.mg_of X G A14, b_got := (fun_mk (st := s_got) L14 C14 K14).binds (ps := ["_law_ask"]) fun _ _ _ _ _ _ us hl => match us, hl with | [_], _ => rfl,
    a_odd := a15, d_odd := PySem.W.fnOf "_law_odd" "_law_odd" (defArgs s_odd) (defBody s_odd) (defScope s_odd) .none kV15 dc15 pm15 an15 cd15 ct15, F_odd := fun_mk (st := s_odd) L15 C15 K15, m_odd := PySem.W.mg_of X G A15, b_odd := (fun_mk (st := s_odd) L15 C15 K15).binds (ps := ["_law_box_here", "_law_more"]) fun _ _ _ _ _ _ us hl => match us, hl with | [_, _], _ => rfl,
    a_free_test := a16, d_free_test := PySem.W.fnOf "_law_free_test" "_law_free_test" (defArgs s_free_test) (defBody s_free_test) (defScope s_free_test) .none kV16 dc16 pm16 an16 cd16 ct16, F_free_test := fun_mk (st := s_free_test) L16 C16 K16, m_free_test := PySem.W.mg_of X G A16, b_free_test := (fun_mk (st := s_free_test) L16 C16 K16).binds (ps := ["_law_box_here", "_law_words", "_law_deep_here"]) fun _ _ _ _ _ _ us hl => match us, hl with | [_, _, _], _ => rfl,
    a_test_words := a17, d_test_words := PySem.W.fnOf "_law_test_words" "_law_test_words" (defArgs s_test_words) (defBody s_test_words) (defScope s_test_words) .none kV17 dc17 pm17 an17 cd17 ct17, F_test_words := fun_mk (st := s_test_words) L17 C17 K17, m_test_words := PySem.W.mg_of X G A17, b_test_words := (fun_mk (st := s_test_words) L17 C17 K17).binds (ps := ["_law_test"]) fun _ _ _ _ _ _ us hl => match us, hl with | [_], _ => rfl,
    a_deep := a18, d_deep := PySem.W.fnOf "_law_deep" "_law_deep" (defArgs s_deep) (defBody s_deep) (defScope s_deep) .none kV18 dc18 pm18 an18 cd18 ct18, F_deep := fun_mk (st := s_deep) L18 C18 K18, m_deep := PySem.W.mg_of X G A18, b_deep := (fun_mk (st := s_deep) L18 C18 K18).binds (ps := ["_law_test"]) fun _ _ _ _ _ _ us hl => match us, hl with | [_], _ => rfl,
    a_law := a19, d_law := PySem.W.fnOf "law" "law" (defArgs s_law) (defBody s_law) (defScope s_law) .none kV19 dc19 pm19 an19 cd19 ct19, F_law := fun_mk (st := s_law) L19 C19 K19, m_law := PySem.W.mg_of X G A19, b_law := (fun_mk (st := s_law) L19 C19 K19).binds (ps := ["_law_script"]) fun _ _ _ _ _ _ us hl => match us, hl with | [_], _ => rfl,
    C_LotsError := C_LotsError, mc_LotsError := PySem.W.mg_of X G AC_LotsError,
    C_Missing := C_Missing, mc_Missing := PySem.W.mg_of X G AC_Missing,
    C_InvalidTest := C_InvalidTest, mc_InvalidTest := PySem.W.mg_of X G AC_InvalidTest,
    x_InvalidTest := xc_ve XB_InvalidTest, f_InvalidTest := f_InvalidTest, di_InvalidTest := PySem.W.fnOf "__init__" "InvalidTest.__init__" (defArgs si_InvalidTest) (defBody si_InvalidTest) (defScope si_InvalidTest) .none kV_InvalidTest dc_InvalidTest pm_InvalidTest an_InvalidTest cd_InvalidTest ct_InvalidTest, iC_InvalidTest := IC_InvalidTest, tI_InvalidTest := TI_InvalidTest, Fi_InvalidTest := fun_mk (st := si_InvalidTest) LI_InvalidTest CI_InvalidTest KI_InvalidTest, bi_InvalidTest := (fun_mk (st := si_InvalidTest) LI_InvalidTest CI_InvalidTest KI_InvalidTest).binds (ps := ["self", "given"]) fun _ _ _ _ _ _ us hl => match us, hl with | [_, _], _ => rfl,
    C_NothingLeft := C_NothingLeft, mc_NothingLeft := PySem.W.mg_of X G AC_NothingLeft,
    x_NothingLeft := xc_ie XB_NothingLeft, f_NothingLeft := f_NothingLeft, di_NothingLeft := PySem.W.fnOf "__init__" "NothingLeft.__init__" (defArgs si_NothingLeft) (defBody si_NothingLeft) (defScope si_NothingLeft) .none kV_NothingLeft dc_NothingLeft pm_NothingLeft an_NothingLeft cd_NothingLeft ct_NothingLeft, iC_NothingLeft := IC_NothingLeft, tI_NothingLeft := TI_NothingLeft, Fi_NothingLeft := fun_mk (st := si_NothingLeft) LI_NothingLeft CI_NothingLeft KI_NothingLeft, bi_NothingLeft := (fun_mk (st := si_NothingLeft) LI_NothingLeft CI_NothingLeft KI_NothingLeft).binds (ps := ["self"]) fun _ _ _ _ _ _ us hl => match us, hl with | [_], _ => rfl,
    c_law := c_law, P_law := P_law, k_law := KC, Lc_law := ⟨_, _, _, _, LC, VC⟩, Nc_law := NC, Hc_law := HC,
    xq_InvalidTest := XQ_InvalidTest,
    xq_NothingLeft := XQ_NothingLeft,
    z_abs := PySem.W.mg_none_of X G Z0,
    z_all := PySem.W.mg_none_of X G Z1,
    z_bool := PySem.W.mg_none_of X G Z2,
    z_int := PySem.W.mg_none_of X G Z3,
    z_isinstance := PySem.W.mg_none_of X G Z4,
    z_len := PySem.W.mg_none_of X G Z5,
    z_list := PySem.W.mg_none_of X G Z6,
    z_max := PySem.W.mg_none_of X G Z7,
    z_min := PySem.W.mg_none_of X G Z8,
    z_range := PySem.W.mg_none_of X G Z9,
    z_str := PySem.W.mg_none_of X G Z10,
    z_tuple := PySem.W.mg_none_of X G Z11,
    z_zip := PySem.W.mg_none_of X G Z12,
    t_LETTERS := t_LETTERS, c_LETTERS := PySem.W.mg_of X G Y0, r_LETTERS := ⟨_, rfl⟩,
    t_LONGEST_NAME := t_LONGEST_NAME, c_LONGEST_NAME := PySem.W.mg_of X G Y1, r_LONGEST_NAME := ⟨_, rfl⟩,
    t_DEEPEST := t_DEEPEST, c_DEEPEST := PySem.W.mg_of X G Y2, r_DEEPEST := ⟨_, rfl⟩,
    p_PARTS := p_PARTS, c_PARTS := PySem.W.mg_of X G Y3, r_PARTS := rfl, q_PARTS := fun _ => parts_mk W_PARTS V_PARTS U_PARTS }, rfl, fun s v => .of_eq rfl⟩
/-- the end of a law that makes lambdas -/
theorem all_mk {l : PySem.W.OpenLaw} {w : World} {K : PySem.W.Frag} {mg : Str → Option Value} {fa : Addr} {h : Heap} (KX : K.In h) (own : LamX.OwnTab K fa h)
    (hT : ∃ T : Top K w mg, T.a_law = fa ∧ ∀ (s : Shared) (v : Value), BindsTo s T.d_law ⟨[v], []⟩ [("_law_script", v)]) : LamX.LawAtS l w K CX0 24 63 "_law_script" mg fa h := by
  obtain ⟨T, rfl, hb⟩ := hT
  obtain ⟨e, dd, vs, sl, h1, h2⟩ := T.Lc_law
  obtain ⟨oc, od, kV, doc, pm, an, cdv, ct, osl, e1, lk, hcd⟩ := T.F_law.ex
  refine ⟨T.d_law, [(T.c_law, T.P_law)], spLaw K T.P_law, fun p hp => ?_, fun p hp => ?_, fun p hp => ?_, hb, fun H a ns hl _ ht hS => ?_, fun base hK hN hTB => ok_law T (hTB (T.c_law, T.P_law) List.mem_cons_self)⟩
  · obtain rfl := List.mem_singleton.mp hp
    exact own _ _ _ _ _ _ _ _ lk rfl T.k_law h1 h2
  · obtain rfl := List.mem_singleton.mp hp
    exact T.Nc_law
  · obtain rfl := List.mem_singleton.mp hp
    exact PySem.W.codeHd_of_K KX T.Hc_law
  · exact ⟨a, ns, rfl, hS, hl, ht (T.c_law, T.P_law) List.mem_cons_self, fun _ => rfl⟩
theorem walk {l : PySem.W.OpenLaw} {q : Program} {loose : List Str} {XP : (Str → Option Value) → Heap → Prop} {YP : World → Heap → Prop} {d : DefRec} {K : Params → PySem.W.Frag} (hn : l.most = some 63) (hdf : d.params.defaults = [])
    (hrec : ((PyProof.Rows.recsOf q).any fun e => e.name == d.name) = true) (hY : ∀ (w : World) (h : Heap), YP w h → (K w.params).In h)
    (F : ∀ (w : World) (mg : Str → Option Value) (fa : Addr) (h : Heap), YP w h → (K w.params).In h → h.Ns mainGlobals mg → mg d.name = some (.ref fa) → LamX.OwnTab (K w.params) fa h → LamX.LawAtS l w (K w.params) CX0 24 63 "_law_script" mg fa h) :
    PySem.W.WalkO q loose XP YP l.row.toRowW d [] (fun f vs => PySem.call f vs) :=
  LamX.walk_ofOwn (n := 63) (k := 24) (x := "_law_script") (CX := fun _ => CX0) hn (by decide) hdf ⟨rfl, by decide, by decide⟩ hrec hY F fun _ _ _ _ _ z => z
end Bl
open PySem PySem.W PyProof.Rows
set_option maxRecDepth 100000 in
set_option maxHeartbeats 0 in
theorem PySem.Challenge.cw_bothlots_k03_texts_of_tests_holds : PySem.Challenge.rw_bothlots_k03_texts_of_tests.Holds := by
  w_on; o_law; k_head; (case hw => w_witness2)
  k_fill
  first
    | refine Bl.walk (l := PySem.Challenge.rw_bothlots_k03_texts_of_tests) rfl rfl ?R (fun w h Y => PySem.W.km_in_of Y) ?F
    | refine Bl.walk (l := PySem.Challenge.rw_bothlots_k03_texts_of_tests) rfl rfl ?R (fun w h Y => PySem.W.kIn_of Y) ?F
  case R => decide +kernel
  case F =>
    intro w mg fa h Y KX G hmg own
    refine Bl.all_mk KX own ?H
    refine' Bl.top_mk KX G hmg ?A0 ?L0 ?C0 ?K0 ?A1 ?L1 ?C1 ?K1 ?A2 ?L2 ?C2 ?K2 ?A3 ?L3 ?C3 ?K3 ?A4 ?L4 ?C4 ?K4 ?A5 ?L5 ?C5 ?K5 ?A6 ?L6 ?C6 ?K6 ?A7 ?L7 ?C7 ?K7 ?A8 ?L8 ?C8 ?K8 ?A9 ?L9 ?C9 ?K9 ?A10 ?L10 ?C10 ?K10 ?A11 ?L11 ?C11 ?K11 ?A12 ?L12 ?C12 ?K12 ?A13 ?L13 ?C13 ?K13 ?A14 ?L14 ?C14 ?K14 ?A15 ?L15 ?C15 ?K15 ?A16 ?L16 ?C16 ?K16 ?A17 ?L17 ?C17 ?K17 ?A18 ?L18 ?C18 ?K18 ?A19 ?L19 ?C19 ?K19 ?AC_LotsError ?AC_Missing ?AC_InvalidTest ?XB_InvalidTest ?IC_InvalidTest ?TI_InvalidTest ?LI_InvalidTest ?CI_InvalidTest ?KI_InvalidTest ?AC_NothingLeft ?XB_NothingLeft ?IC_NothingLeft ?TI_NothingLeft ?LI_NothingLeft ?CI_NothingLeft ?KI_NothingLeft ?KC ?LC ?VC ?NC ?HC ?XQ_InvalidTest ?XQ_NothingLeft ?Z0 ?Z1 ?Z2 ?Z3 ?Z4 ?Z5 ?Z6 ?Z7 ?Z8 ?Z9 ?Z10 ?Z11 ?Z12 ?Y0 ?Y1 ?Y2 ?Y3 ?W_PARTS ?V_PARTS ?U_PARTS
    (case A0 => k_is)
    (case L0 => k_is)
    (case C0 => k_is)
    (case K0 => k_is)
    (case A1 => k_is)
    (case L1 => k_is)
    (case C1 => k_is)
    (case K1 => k_is)
    (case A2 => k_is)
    (case L2 => k_is)
    (case C2 => k_is)
    (case K2 => k_is)
    (case A3 => k_is)
    (case L3 => k_is)
    (case C3 => k_is)
    (case K3 => k_is)
    (case A4 => k_is)
    (case L4 => k_is)
    (case C4 => k_is)
    (case K4 => k_is)
    (case A5 => k_is)
    (case L5 => k_is)
    (case C5 => k_is)
    (case K5 => k_is)
    (case A6 => k_is)
    (case L6 => k_is)
    (case C6 => k_is)
    (case K6 => k_is)
    (case A7 => k_is)
    (case L7 => k_is)
    (case C7 => k_is)
    (case K7 => k_is)
    (case A8 => k_is)
    (case L8 => k_is)
    (case C8 => k_is)
    (case K8 => k_is)
    (case A9 => k_is)
    (case L9 => k_is)
    (case C9 => k_is)
    (case K9 => k_is)
    (case A10 => k_is)
    (case L10 => k_is)
    (case C10 => k_is)
    (case K10 => k_is)
    (case A11 => k_is)
    (case L11 => k_is)
    (case C11 => k_is)
    (case K11 => k_is)
    (case A12 => k_is)
    (case L12 => k_is)
    (case C12 => k_is)
    (case K12 => k_is)
    (case A13 => k_is)
    (case L13 => k_is)
    (case C13 => k_is)
    (case K13 => k_is)
    (case A14 => k_is)
    (case L14 => k_is)
    (case C14 => k_is)
    (case K14 => k_is)
    (case A15 => k_is)
    (case L15 => k_is)
    (case C15 => k_is)
    (case K15 => k_is)
    (case A16 => k_is)
    (case L16 => k_is)
    (case C16 => k_is)
    (case K16 => k_is)
    (case A17 => k_is)
    (case L17 => k_is)
    (case C17 => k_is)
    (case K17 => k_is)
    (case A18 => k_is)
    (case L18 => k_is)
    (case C18 => k_is)
    (case K18 => k_is)
    (case A19 => k_is)
    (case L19 => k_is)
    (case C19 => k_is)
    (case K19 => k_is)
    (case AC_LotsError => k_is)
    (case AC_Missing => k_is)
    (case AC_InvalidTest => k_is)
    (case XB_InvalidTest => kernel_rfl)
    (case IC_InvalidTest => k_is)
    (case TI_InvalidTest => k_is)
    (case LI_InvalidTest => k_is)
    (case CI_InvalidTest => k_is)
    (case KI_InvalidTest => k_is)
    (case AC_NothingLeft => k_is)
    (case XB_NothingLeft => kernel_rfl)
    (case IC_NothingLeft => k_is)
    (case TI_NothingLeft => k_is)
    (case LI_NothingLeft => k_is)
    (case CI_NothingLeft => k_is)
    (case KI_NothingLeft => k_is)
    (case KC => rfl)
    (case LC => k_is)
    (case VC => rfl)
    (case NC => kernel_rfl)
    (case HC => kernel_rfl)
    (case XQ_InvalidTest => kernel_rfl)
    (case XQ_NothingLeft => kernel_rfl)
    (case Z0 => k_is)
    (case Z1 => k_is)
    (case Z2 => k_is)
    (case Z3 => k_is)
    (case Z4 => k_is)
    (case Z5 => k_is)
    (case Z6 => k_is)
    (case Z7 => k_is)
    (case Z8 => k_is)
    (case Z9 => k_is)
    (case Z10 => k_is)
    (case Z11 => k_is)
    (case Z12 => k_is)
    (case Y0 => k_is)
    (case Y1 => k_is)
    (case Y2 => k_is)
    (case Y3 => k_is)
    (case W_PARTS => k_is)
    (case V_PARTS => exact ⟨⟨_, _, rfl, rfl⟩, ⟨_, _, rfl, rfl⟩, ⟨_, _, rfl, rfl⟩, True.intro⟩)
    (case U_PARTS => first | rfl | decide +kernel)

