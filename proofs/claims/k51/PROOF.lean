import PyProof.Rows.All
import Wide.All
import OpenK.AllK
import Wide.FinOn
import HandS.ForMost
import HandS.Codes
import HandS.IsInst
import HandS.TupAny
import HandS.Style
import HandS.Walk
import HandS.Zip
import HandS.EndBits
import HandS.Dict
import HandS.More
import PyProof.CollectIter
import PyProof.WalksMore
import HandS.NoneIn
import HandS.Text
import HandS.ForExc
import HandS.ExcInit
import KE.KExcInit
import KE.KExcIs
import HandS.Lambda
import HandS.EndTab
import HandS.HotCalls
import HandS.ExcField
import HandS.TryMany
import HandS.Slots
import HandS.SlotsOwn
import HandS.Star
import HandS.ClsMeth
import HandS.Strs
import HandS.DeepEq
import KE.KDictKeyed
import KE.KeyNested
import HandS.SetFor
import HandS.GenList
import HandS.GenYield
import PyProof.GenComp
import OpenK.KOps
import OpenK.KMeth
import HandS.Words
import HandS.EndOwn
import HandS.Sort
import HandS.SortOrd
import HandS.SortRule
import KE.KSortTup
import HandS.ListItems
import HandS.FStr
import HandS.Defaults
import HandS.GenCall
import HandS.Finally
import HandS.DictComp
import HandS.SortInts
import HandS.SetKeys
import PySem.Challenge.RW_bothlots_k51_ledger_undo_and_twins
set_option Elab.async false
set_option maxRecDepth 100000
set_option maxHeartbeats 4000000
/-! the box of draws, kept apart from all else; data by its shape -/
namespace Bl
open PySem L2
theorem same_new {H : Hp} {p : Addr} (h : H p = none) (o : HO) : Same H (upd H p o) := fun b u q => by
  rw [upd_ne (ne_of_none q h)]
  exact q
theorem Same.tup {K : PySem.W.Frag} {H H' : Hp} {a : Addr} {xs : List V} (e : Same H H') (h : SqT K H a xs) : SqT K H' a xs := by
  rcases h with (h | ⟨o, h⟩) | h
  · exact .inl (.inl (e _ _ h))
  · exact .inl (.inr ⟨o, e _ _ h⟩)
  · exact .inr h
/-- the heap without what stands at p -/
def hide (p : Addr) (H : Hp) : Hp := fun b => if b = p then none else H b
theorem hide_ne {p b : Addr} {H : Hp} (h : b ≠ p) : hide p H b = H b := if_neg h
theorem hide_at {p : Addr} {H : Hp} : hide p H p = none := if_pos rfl
theorem hide_le {p : Addr} {H : Hp} : Same (hide p H) H := fun b o h => by
  by_cases e : b = p
  · subst e
    rw [hide_at] at h
    cases h
  · rw [hide_ne e] at h
    exact h
theorem hide_upd {p : Addr} {H : Hp} {o : HO} : hide p (upd H p o) = hide p H := by
  funext b
  by_cases e : b = p
  · rw [e, hide_at, hide_at]
  · rw [hide_ne e, hide_ne e, upd_ne e]
theorem hide_new {p q : Addr} {H : Hp} {o : HO} (h : q ≠ p) : hide p (upd H q o) = upd (hide p H) q o := by
  funext b
  by_cases e : b = p
  · rw [e, hide_at, upd_ne (Ne.symm h), hide_at]
  · rw [hide_ne e]
    by_cases f : b = q
    · rw [f, upd_same, upd_same]
    · rw [upd_ne f, upd_ne f, hide_ne e]
theorem hide_free {p q : Addr} {H : Hp} (h : H q = none) : hide p H q = none := by
  by_cases e : q = p
  · rw [e, hide_at]
  · rw [hide_ne e]
    exact h
theorem hide_mono {p : Addr} {H H' : Hp} (e : Same H H') : Same (hide p H) (hide p H') := fun b o h => by
  by_cases f : b = p
  · subst f
    rw [hide_at] at h
    cases h
  · rw [hide_ne f] at h ⊢
    exact e b o h
/-- all that was tracked, but what stands at p, is as it was -/
abbrev But (p : Addr) (H H' : Hp) : Prop := Same (hide p H) (hide p H')
theorem But.put {p : Addr} {H H1 : Hp} {o : HO} (a : But p H H1) : But p H (upd H1 p o) := by
  unfold But
  rw [hide_upd]
  exact a
theorem But.of {p : Addr} {H H1 : Hp} (a : Same H H1) : But p H H1 := hide_mono a
theorem But.new {p q : Addr} {H H1 : Hp} (a : But p H H1) (h : H1 q = none) (o : HO) : But p H (upd H1 q o) := Same.trans a (hide_mono (same_new h o))
/-- the law's box of draws -/
def boxL (l : Addr) (i w m c : Int) : List V := [.ref l, .int i, .int w, .int m, .int c]
structure BoxAt (H : Hp) (p l : Addr) : Prop where
  ex : ∃ (ns : List Int) (i w m c : Int), H p = some (.lst (boxL l i w m c)) ∧ hide p H l = some (.lst (ns.map V.int)) ∧ 0 ≤ i ∧ 0 ≤ m ∧ m < 2147483629
theorem BoxAt.mono {H H' : Hp} {p l : Addr} (b : BoxAt H p l) (e : Same H H') : BoxAt H' p l := by
  obtain ⟨ns, i, w, m, c, hp, hl, r⟩ := b
  exact ⟨ns, i, w, m, c, e _ _ hp, hide_mono e _ _ hl, r⟩
theorem BoxAt.new {H : Hp} {p q l : Addr} (b : BoxAt H p l) (h : H q = none) (o : HO) : BoxAt (upd H q o) p l := b.mono (same_new h o)
theorem BoxAt.ne {H : Hp} {p q l : Addr} (b : BoxAt H p l) (h : H q = none) : q ≠ p := by
  obtain ⟨ns, i, w, m, c, hp, _⟩ := b
  exact (ne_of_none hp h).symm
theorem BoxAt.nl {H : Hp} {p q l : Addr} (b : BoxAt H p l) (h : H q = none) : q ≠ l := by
  obtain ⟨ns, i, w, m, c, hp, hl, _⟩ := b
  exact (ne_of_none (hide_le _ _ hl) h).symm
/-- an object that is neither the box nor its cells may change -/
theorem BoxAt.mut {H : Hp} {p q l : Addr} (b : BoxAt H p l) (h : q ≠ p) (h2 : q ≠ l) (o : HO) : BoxAt (upd H q o) p l := by
  obtain ⟨ns, i, w, m, c, hp, hl, r⟩ := b
  exact ⟨ns, i, w, m, c, by rw [upd_ne h.symm]; exact hp, by rw [hide_new h, upd_ne h2.symm]; exact hl, r⟩
/-- an object that was not there may change -/
theorem But.mut {p q : Addr} {H H1 : Hp} (a : But p H H1) (h : H q = none) (o : HO) : But p H (upd H1 q o) := fun b u e => by
  have n1 : b ≠ p := by
    rintro rfl
    rw [hide_at] at e
    cases e
  have e1 := a b u e
  rw [hide_ne n1] at e e1 ⊢
  rw [upd_ne (ne_of_none e h)]
  exact e1
theorem Same.mut {q : Addr} {H H1 : Hp} (a : Same H H1) (h : H q = none) (o : HO) : Same H (upd H1 q o) := fun b u e => by
  rw [upd_ne (ne_of_none e h)]
  exact a b u e
/-- a new object is no box -/
theorem hid_same {p q : Addr} {H : Hp} {o : HO} (h : q ≠ p) : hide p (upd H q o) q = some o := by
  rw [hide_ne h, upd_same]

/-! what the draws promise -/
def spPull (K : PySem.W.Frag) : Sp := fun vs H Q _ => ∃ (p l : Addr) (n : Int), vs = [.ref p, .int n] ∧ BoxAt H p l ∧ 0 < n ∧ n < 1073741824 ∧
  ∀ (d : Int) (H' : Hp), 0 ≤ d → d < n → BoxAt H' p l → But p H H' → Q (.int d) H'
def spBox (K : PySem.W.Frag) : Sp := fun vs H Q _ => ∃ (a : Addr) (ns : List Int), vs = [.ref a] ∧ SqL K H a (ns.map V.int) ∧ ns.length ≤ 63 ∧
  ∀ (p l : Addr) (H' : Hp), H p = none → BoxAt H' p l → Same H H' → Q (.ref p) H'
/-- an item of a list, of a tuple, of a text -/
def spOf (K : PySem.W.Frag) : Sp := fun vs H Q _ => ∃ (p l : Addr) (v : V), vs = [.ref p, v] ∧ BoxAt H p l ∧
  ((∃ a xs, v = .ref a ∧ (SqL K (hide p H) a xs ∨ SqT K (hide p H) a xs) ∧ 0 < xs.length ∧ xs.length < 1000000 ∧ ∀ (i : Nat) (x : V) (H' : Hp), xs[i]? = some x → BoxAt H' p l → But p H H' → Q x H') ∨
    ∃ z : Str, v = .str z ∧ 0 < z.length ∧ z.length < 1000000 ∧ ∀ (c : Nat) (H' : Hp), c ∈ z.cps.toList → BoxAt H' p l → But p H H' → Q (.str ⟨#[c]⟩) H')

/-! small things -/
theorem atI_int {ns : List Int} {i : Int} (h0 : 0 ≤ i) (h : i < ns.length) : ∃ v : Int, atI (ns.map V.int) i = some (.int v) := by
  obtain ⟨n, rfl⟩ := Int.eq_ofNat_of_zero_le h0
  have hk : n < ns.length := by omega
  exact ⟨ns[n], atI_nat (by rw [List.getElem?_map, List.getElem?_eq_getElem hk] <;> rfl)⟩
theorem atI_some {xs : List V} {i : Int} (h0 : 0 ≤ i) (h : i < xs.length) : ∃ (n : Nat) (v : V), xs[n]? = some v ∧ atI xs i = some v := by
  obtain ⟨n, rfl⟩ := Int.eq_ofNat_of_zero_le h0
  have hk : n < xs.length := by omega
  exact ⟨n, xs[n], List.getElem?_eq_getElem hk, atI_nat (List.getElem?_eq_getElem hk)⟩
theorem mod_lt' {a b : Int} (h : 0 < b) : 0 ≤ a % b ∧ a % b < b := ⟨Int.emod_nonneg a (by omega), Int.emod_lt_of_pos a h⟩
theorem small {n : Nat} (h : n ≤ 1000000) : n ≤ sizeLine := Nat.le_trans h (by decide)
theorem small' {n : Nat} (h : n < 1000000) : n < sizeLine := Nat.lt_of_lt_of_le h (by decide)
theorem cutV_63 {ns : List Int} (h : ns.length ≤ 63) : cutV (ns.map V.int) none (some 63) = ns.map V.int := by
  unfold cutV
  rw [HT.sIx_none, show ((some 63 : Option Int)) = some ((63 : Nat) : Int) from rfl, HT.sIx_nat, List.length_map, List.drop_zero, List.take_of_length_le (by rw [List.length_map]; omega)]

/-! data -/
mutual
theorem Dp.mono {K : PySem.W.Frag} {H H' : Hp} (e : Same H H') : ∀ (d : PyData) (v : V), Dp K H v d → Dp K H' v d
  | .none, _, h => by cases h; exact .non
  | .bool _, _, h => by cases h; exact .bl _
  | .int _, _, h => by cases h; exact .int _
  | .str _, _, h => by cases h; exact .str _
  | .list ds, _, h => by
    cases h with
    | lst hs ha => exact .lst (e.seq hs) (DpAll.mono e ds _ ha)
  | .tuple ds, _, h => by
    cases h with
    | tup hs ha => exact .tup (Same.tup e hs) (DpAll.mono e ds _ ha)
  | .dict _, _, h => by cases h
theorem DpAll.mono {K : PySem.W.Frag} {H H' : Hp} (e : Same H H') : ∀ (ds : List PyData) (vs : List V), DpAll K H vs ds → DpAll K H' vs ds
  | [], _, h => by cases h; exact .nil
  | d :: ds, _, h => by
    cases h with
    | cons h1 h2 => exact .cons (Dp.mono e d _ h1) (DpAll.mono e ds _ h2)
end
theorem DpAll.len {K : PySem.W.Frag} {H : Hp} : ∀ {ds : List PyData} {vs : List V}, DpAll K H vs ds → vs.length = ds.length
  | [], _, h => by cases h; rfl
  | _ :: _, _, h => by
    cases h with
    | cons _ h2 => rw [List.length_cons, List.length_cons, DpAll.len h2]
theorem DpAll.get {K : PySem.W.Frag} {H : Hp} : ∀ {ds : List PyData} {vs : List V} {i : Nat} {v : V}, DpAll K H vs ds → vs[i]? = some v → ∃ d, ds[i]? = some d ∧ Dp K H v d
  | [], _, _, _, h, e => by cases h; simp at e
  | d :: ds, _, 0, v, h, e => by
    cases h with
    | cons h1 h2 =>
      simp at e
      subst e
      exact ⟨d, rfl, h1⟩
  | d :: ds, _, i + 1, v, h, e => by
    cases h with
    | cons h1 h2 => exact DpAll.get (i := i) h2 (by simpa using e)
theorem DpAll.app {K : PySem.W.Frag} {H : Hp} : ∀ {ds es : List PyData} {vs us : List V}, DpAll K H vs ds → DpAll K H us es → DpAll K H (vs ++ us) (ds ++ es)
  | [], _, _, _, h, k => by cases h; exact k
  | _ :: _, _, _, _, h, k => by
    cases h with
    | cons h1 h2 => exact .cons h1 (DpAll.app h2 k)
theorem tyL {K : PySem.W.Frag} {H : Hp} {a : Addr} {xs : List V} (h : SqL K H a xs) : TyX K H (.ref a) (.type "list") := by
  rcases h with (h | ⟨o, h⟩) | ⟨o, _, _, h, hc, _⟩
  · exact .base (.lst h)
  · exact .base (.frz h)
  · exact .kList h hc
theorem tyT {K : PySem.W.Frag} {H : Hp} {a : Addr} {xs : List V} (h : SqT K H a xs) : TyX K H (.ref a) (.type "tuple") := by
  rcases h with (h | ⟨o, h⟩) | ⟨o, _, _, h, hc, _⟩
  · exact .base (.tup h)
  · exact .fTuple h
  · exact .kTuple h hc
/-- the built-in type's name -/
def tyN : PyData → String
  | .none => "NoneType"
  | .bool _ => "bool"
  | .int _ => "int"
  | .str _ => "str"
  | .list _ => "list"
  | .tuple _ => "tuple"
  | .dict _ => "dict"
theorem Dp.ty {K : PySem.W.Frag} {H : Hp} : ∀ {d : PyData} {v : V}, Dp K H v d → TyX K H v (.type (tyN d))
  | .none, _, h => by cases h; exact .base .non
  | .bool _, _, h => by cases h; exact .base (.bl _)
  | .int _, _, h => by cases h; exact .base (.int _)
  | .str _, _, h => by cases h; exact .base (.str _)
  | .list ds, _, h => by
    cases h with
    | lst hs _ => exact tyL hs
  | .tuple ds, _, h => by
    cases h with
    | tup hs _ => exact tyT hs
  | .dict _, _, h => by cases h
def isD (T : String) (d : PyData) : Bool := (kitB (tyN d) T).getD false
theorem kit_d {K : PySem.W.Frag} {T : String} {d : PyData} (h : ∀ d : PyData, (kitB (tyN d) T).isSome = true) : PySem.W.kitOne K (.type (tyN d)) (.type T) = some (isD T d) := by
  refine kit_ty ?_
  have := h d
  unfold isD
  cases e : kitB (tyN d) T with
  | none => rw [e] at this; cases this
  | some b => rfl
theorem some_str (d : PyData) : (kitB (tyN d) "str").isSome = true := by cases d <;> (dsimp only [tyN]; decide +kernel)
theorem some_int (d : PyData) : (kitB (tyN d) "int").isSome = true := by cases d <;> (dsimp only [tyN]; decide +kernel)
theorem some_bool (d : PyData) : (kitB (tyN d) "bool").isSome = true := by cases d <;> (dsimp only [tyN]; decide +kernel)
theorem some_list (d : PyData) : (kitB (tyN d) "list").isSome = true := by cases d <;> (dsimp only [tyN]; decide +kernel)
theorem some_tuple (d : PyData) : (kitB (tyN d) "tuple").isSome = true := by cases d <;> (dsimp only [tyN]; decide +kernel)
theorem isStr_eq (d : PyData) : isD "str" d = (match d with | .str _ => true | _ => false) := by cases d <;> (dsimp only [isD, tyN]; decide +kernel)
theorem isInt_eq (d : PyData) : isD "int" d = (match d with | .int _ => true | .bool _ => true | _ => false) := by cases d <;> (dsimp only [isD, tyN]; decide +kernel)
theorem isBool_eq (d : PyData) : isD "bool" d = (match d with | .bool _ => true | _ => false) := by cases d <;> (dsimp only [isD, tyN]; decide +kernel)
theorem isList_eq (d : PyData) : isD "list" d = (match d with | .list _ => true | _ => false) := by cases d <;> (dsimp only [isD, tyN]; decide +kernel)
theorem isTuple_eq (d : PyData) : isD "tuple" d = (match d with | .tuple _ => true | _ => false) := by cases d <;> (dsimp only [isD, tyN]; decide +kernel)
/-- nested less than n deep, without dicts -/
def Fits : Nat → PyData → Prop
  | 0, _ => False
  | _ + 1, .none => True
  | _ + 1, .bool _ => True
  | _ + 1, .int _ => True
  | _ + 1, .str _ => True
  | n + 1, .list ds => ds.length < 1000000 ∧ ∀ d ∈ ds, Fits n d
  | n + 1, .tuple ds => ds.length < 1000000 ∧ ∀ d ∈ ds, Fits n d
  | _ + 1, .dict _ => False
/-- names -/
def alpha : List Nat := [97, 98, 99, 100, 101, 102, 103, 104, 105, 106, 107, 108, 109, 110, 111, 112, 113, 114, 115, 116, 117, 118, 119, 120, 121, 122]
def nameB (z : Str) : Bool := decide (1 ≤ z.length) && decide (z.length ≤ 6) && z.cps.toList.all (fun c => decide (c ∈ alpha))
def nameD : PyData → Bool
  | .str z => nameB z
  | _ => false
theorem alpha_eq : ("abcdefghijklmnopqrstuvwxyz" : Str).cps.toList = alpha := by decide +kernel
/-- what two same data are told -/
def spSame (K : PySem.W.Frag) (n : Nat) : Sp := fun vs H Q _ => ∃ (x y : V) (d : PyData), vs = [x, y] ∧ Dp K H x d ∧ Dp K H y d ∧ Fits n d ∧ ∀ H', Same H H' → Q (.bl true) H'
def spIsName (K : PySem.W.Frag) : Sp := fun vs H Q _ => ∃ (v : V) (d : PyData), vs = [v] ∧ Dp K H v d ∧ (∀ z, d = .str z → z.length ≤ 100000) ∧ ∀ H', Same H H' → Q (.bl (nameD d)) H'
def numD (lo hi : Int) : PyData → Bool
  | .int i => decide (lo ≤ i) && decide (i ≤ hi)
  | _ => false
def spIsNumber (K : PySem.W.Frag) : Sp := fun vs H Q _ => ∃ (v : V) (d : PyData) (lo hi : Int), vs = [v, .int lo, .int hi] ∧ Dp K H v d ∧ ∀ H', Same H H' → Q (.bl (numD lo hi d)) H'
/-- the odd values of the laws -/
def odds : List PyData := [.none, .bool true, .bool false, .str "", .str "A", .str "a1", .str "sevenst", .int (-1), .int 7, .tuple [.int 1, .str "a"], .list [.int 1], .tuple [], .int (10 ^ 14)]
def spOdd (K : PySem.W.Frag) : Sp := fun vs H Q _ => ∃ (p l q : Addr) (ys : List V) (ds : List PyData), vs = [.ref p, .ref q] ∧ BoxAt H p l ∧ H q = some (.lst ys) ∧ q ≠ p ∧ DpAll K (hide p H) ys ds ∧ ds.length ≤ 100 ∧
  ∀ (v : V) (d : PyData) (H' : Hp), d ∈ odds ++ ds → Dp K (hide p H') v d → BoxAt H' p l → But p H H' → Q v H'
end Bl

/-! guards for the short words -/
namespace Bl
open PySem L2
theorem gIte {c : Prop} [i : Decidable c] {A B : Prop} (h : @ite Prop c i A B) : @ite Prop c i A B := h
theorem gLoop {p : (Nat → Nat → St → Hp → Prop) → Prop} (h : Exists p) : Exists p := h
theorem gComp {p : (Nat → Nat → Hp → Prop) → Prop} (h : Exists p) : Exists p := h
theorem gWhile {p : (Nat → St → Hp → Prop) → Prop} (h : Exists p) : Exists p := h
theorem gEx {α : Sort u} {p : α → Prop} {w : α} (h : p w) : Exists p := ⟨w, h⟩
end Bl
namespace Bl
open PySem L2
theorem same_tr {H G H' : Hp} (b : Same G H') (a : Same H G) : Same H H' := a.trans b
theorem get_new {H : Hp} {p q : Addr} {o u : HO} (h : H p = none) (e : H q = some u) : upd H p o q = some u := same_new h o _ _ e
theorem seq_new {K : PySem.W.Frag} {H : Hp} {p q : Addr} {o : HO} {xs : List V} (h : H p = none) (e : SqL K H q xs) : SqL K (upd H p o) q xs := (same_new h o).seq e
theorem tup_new {K : PySem.W.Frag} {H : Hp} {p q : Addr} {o : HO} {xs : List V} (h : H p = none) (e : SqT K H q xs) : SqT K (upd H p o) q xs := Same.tup (same_new h o) e
theorem dp_new {K : PySem.W.Frag} {H : Hp} {p : Addr} {o : HO} {v : V} {d : PyData} (h : H p = none) (e : Dp K H v d) : Dp K (upd H p o) v d := Dp.mono (same_new h o) _ _ e
theorem dpa_new {K : PySem.W.Frag} {H : Hp} {p : Addr} {o : HO} {v : List V} {d : List PyData} (h : H p = none) (e : DpAll K H v d) : DpAll K (upd H p o) v d := DpAll.mono (same_new h o) _ _ e
theorem get_tr {H G : Hp} {q : Addr} {u : HO} (b : Same G H) (e : G q = some u) : H q = some u := b _ _ e
theorem seq_tr {K : PySem.W.Frag} {H G : Hp} {q : Addr} {xs : List V} (b : Same G H) (e : SqL K G q xs) : SqL K H q xs := b.seq e
theorem tup_tr {K : PySem.W.Frag} {H G : Hp} {q : Addr} {xs : List V} (b : Same G H) (e : SqT K G q xs) : SqT K H q xs := Same.tup b e
theorem dp_tr {K : PySem.W.Frag} {H G : Hp} {v : V} {d : PyData} (b : Same G H) (e : Dp K G v d) : Dp K H v d := Dp.mono b _ _ e
theorem dpa_tr {K : PySem.W.Frag} {H G : Hp} {v : List V} {d : List PyData} (b : Same G H) (e : DpAll K G v d) : DpAll K H v d := DpAll.mono b _ _ e
theorem same_nw {H G : Hp} {p : Addr} {o : HO} (h : G p = none) (a : Same H G) : Same H (upd G p o) := a.trans (same_new h o)
end Bl
namespace Bl
/-- what the short words do not open -/
structure Hold (p : Prop) : Prop where
  h : p
end Bl
namespace Bl
theorem gT {b : Bool} {A B : Prop} (hb : b = true) (h : A) : if b = true then A else B := by
  rw [hb, if_pos rfl]
  exact h
theorem gF {b : Bool} {A B : Prop} (hb : b = false) (h : B) : if b = true then A else B := by
  rw [hb, if_neg Bool.false_ne_true]
  exact h
end Bl
namespace Bl
theorem gEq {α : Sort u} {a b : α} (h : a = b) : a = b := h
theorem gLe {α : Type u} [LE α] {a b : α} (h : a ≤ b) : a ≤ b := h
theorem gLt {α : Type u} [LT α] {a b : α} (h : a < b) : a < b := h
end Bl

/-! names drawn: the words, as lists of code points -/
namespace Bl
open PySem L2
open SX (S)
def own : List Nat := [111, 119, 110]
def name4 : List Nat := [110, 97, 109, 101]
def tick4 : List Nat := [116, 105, 99, 107]
def worth5 : List Nat := [119, 111, 114, 116, 104]
theorem own_eq : ("own" : Str) = S own := by decide +kernel
theorem name4_eq : ("name" : Str) = S name4 := by decide +kernel
theorem tick4_eq : ("tick" : Str) = S tick4 := by decide +kernel
theorem worth5_eq : ("worth" : Str) = S worth5 := by decide +kernel
structure NameL (z : List Nat) : Prop where
  pos : 1 ≤ z.length
  six : z.length ≤ 6
  low : ∀ c ∈ z, c ∈ alpha
  no : z ≠ own ∧ z ≠ name4 ∧ z ≠ tick4 ∧ z ≠ worth5
theorem NameL.nameB {z : List Nat} (h : NameL z) : nameB (S z) = true := by
  unfold Bl.nameB
  rw [SX.S_len, decide_eq_true h.pos, decide_eq_true h.six, Bool.true_and, Bool.true_and, List.all_eq_true]
  intro c hc
  exact decide_eq_true (h.low c (by simpa [S] using hc))
theorem cut_pre {a : List Nat} {k : Nat} (h : k ≤ a.length) : cutS (S a) none (some (k : Int)) = S (a.take k) := by
  unfold cutS
  rw [HT.sIx_none, HT.sIx_nat, SX.S_len, List.drop_zero, Nat.sub_zero, Nat.min_eq_left h]
theorem cut_suf {a : List Nat} {k : Nat} (h : k ≤ a.length) : cutS (S a) (some (k : Int)) none = S (a.drop k) := by
  unfold cutS
  rw [HT.sIx_none, HT.sIx_nat, SX.S_len, Nat.min_eq_left h]
  have e : ((S a).cps.toList.drop k).take (a.length - k) = a.drop k := by
    show (a.toArray.toList.drop k).take (a.length - k) = a.drop k
    rw [List.toList_toArray, List.take_of_length_le (by rw [List.length_drop]; exact Nat.le_refl _)]
  rw [e]
theorem cutV_pre {xs : List V} {k : Nat} : cutV xs none (some (k : Int)) = xs.take k := by
  unfold cutV
  rw [HT.sIx_none, HT.sIx_nat, List.drop_zero, Nat.sub_zero]
  by_cases h : k ≤ xs.length
  · rw [Nat.min_eq_left h]
  · rw [Nat.min_eq_right (by omega), List.take_of_length_le (Nat.le_refl _), List.take_of_length_le (by omega)]
theorem alpha_len : alpha.length = 26 := rfl
theorem alpha_nd : alpha.Nodup := by decide
theorem str_ascii : ("abcdefghijklmnopqrstuvwxyz" : Str) = S alpha := by decide +kernel
/-- the k-th word -/
def wd (st : List Nat) (sp f k : Nat) : List Nat := st.take sp ++ alpha.getD ((f + 7 * k) % 26) 0 :: st.drop sp
theorem wd_len {st : List Nat} {sp f k : Nat} : (wd st sp f k).length = st.length + 1 := by
  unfold wd
  rw [List.length_append, List.length_cons, List.length_take, List.length_drop]
  omega
theorem alpha_at (i : Nat) (h : i < 26) : alpha[i]? = some (alpha.getD i 0) := by
  have h2 : i < alpha.length := h
  rw [List.getD_eq_getElem?_getD, List.getElem?_eq_getElem h2]
  rfl
theorem alpha_mem (i : Nat) (h : i < 26) : alpha.getD i 0 ∈ alpha := List.mem_of_getElem? (alpha_at i h)
theorem wd_low {st : List Nat} {sp f k : Nat} (hs : ∀ c ∈ st, c ∈ alpha) : ∀ c ∈ wd st sp f k, c ∈ alpha := by
  intro c hc
  unfold wd at hc
  rcases List.mem_append.mp hc with h | h
  · exact hs c (List.mem_of_mem_take h)
  · rcases List.mem_cons.mp h with h | h
    · rw [h]
      exact alpha_mem _ (Nat.mod_lt _ (by decide))
    · exact hs c (List.mem_of_mem_drop h)
theorem wd_inj {st : List Nat} {sp f k j : Nat} (hk : k < 14) (hj : j < 14) (e : wd st sp f k = wd st sp f j) : k = j := by
  unfold wd at e
  have e1 := List.append_cancel_left e
  have e2 : alpha.getD ((f + 7 * k) % 26) 0 = alpha.getD ((f + 7 * j) % 26) 0 := (List.cons.inj e1).1
  have h1 : (f + 7 * k) % 26 < 26 := Nat.mod_lt _ (by decide)
  have h2 : (f + 7 * j) % 26 < 26 := Nat.mod_lt _ (by decide)
  have e3 : alpha[(f + 7 * k) % 26]? = alpha[(f + 7 * j) % 26]? := by rw [alpha_at _ h1, alpha_at _ h2, e2]
  have e4 : (f + 7 * k) % 26 = (f + 7 * j) % 26 := (List.getElem?_inj (by show _ < 26; exact h1) alpha_nd).mp e3
  omega
theorem nd_map {α : Type} {g : Nat → α} : ∀ n : Nat, (∀ i j, i < n → j < n → g i = g j → i = j) → ((List.range n).map g).Nodup := by
  intro n h
  rw [List.Nodup, List.pairwise_map]
  refine List.Pairwise.imp_of_mem ?_ (List.nodup_range (n := n))
  intro a b ha hb hab e
  exact hab (h a b (List.mem_range.mp ha) (List.mem_range.mp hb) e)
theorem one_out {α : Type} [DecidableEq α] (o : α) : ∀ {l : List α}, l.Nodup → l.length ≤ (l.filter fun z => decide (z ≠ o)).length + 1
  | [], _ => Nat.zero_le _
  | z :: l, h => by
    have h2 := List.nodup_cons.mp h
    by_cases e : z = o
    · subst e
      have e2 : (l.filter fun y => decide (y ≠ z)) = l := List.filter_eq_self.mpr fun y hy => decide_eq_true (by rintro rfl; exact h2.1 hy)
      rw [List.filter_cons_of_neg (by simp), e2, List.length_cons]
      exact Nat.le_refl _
    · rw [List.filter_cons_of_pos (by simpa using e), List.length_cons, List.length_cons]
      have := one_out o h2.2
      omega
/-- the list of the forbidden words, as the law writes it -/
def bads : List V := [.str "own", .str "name", .str "tick", .str "worth"]
theorem inV_bads (z : List Nat) : inV (.str (S z)) bads = decide (z = own ∨ z = name4 ∨ z = tick4 ∨ z = worth5) := by
  have h : ∀ (o : List Nat), eqV (.str (S o)) (.str (S z)) = decide (z = o) := fun o => by
    show (S o == S z) = decide (z = o)
    rw [SX.S_beq_eq]
    by_cases e : o = z
    · rw [decide_eq_true e, decide_eq_true e.symm]
    · rw [decide_eq_false e, decide_eq_false (Ne.symm e)]
  show (eqV (.str "own") (.str (S z)) || (eqV (.str "name") (.str (S z)) || (eqV (.str "tick") (.str (S z)) || (eqV (.str "worth") (.str (S z)) || false)))) = _
  rw [own_eq, name4_eq, tick4_eq, worth5_eq, h, h, h, h, Bool.or_false, Bool.decide_or, Bool.decide_or, Bool.decide_or]
def keepB (z : List Nat) : Bool := !decide (z = own ∨ z = name4 ∨ z = tick4 ∨ z = worth5)
theorem keep_own {z : List Nat} (h : z.length = 1 ∨ z.length = 2 ∨ z.length = 3 ∨ z.length = 6) : keepB z = decide (z ≠ own) := by
  unfold keepB
  have h1 : z ≠ name4 := by rintro rfl; revert h; decide
  have h2 : z ≠ tick4 := by rintro rfl; revert h; decide
  have h3 : z ≠ worth5 := by rintro rfl; revert h; decide
  simp [h1, h2, h3]
/-- the words drawn, those let, the first n of them -/
def wds (st : List Nat) (sp f n : Nat) : List (List Nat) := (List.range n).map (wd st sp f)
theorem wds_names {st : List Nat} {sp f n : Nat} (hn : n ≤ 11) (hs : ∀ c ∈ st, c ∈ alpha) (hl : st.length = 0 ∨ st.length = 1 ∨ st.length = 2 ∨ st.length = 5) :
    (((wds st sp f (n + 2)).filter keepB).take n).length = n ∧ (∀ z ∈ ((wds st sp f (n + 2)).filter keepB).take n, NameL z) ∧ (((wds st sp f (n + 2)).filter keepB).take n).Nodup ∧
      (∀ z ∈ ((wds st sp f (n + 2)).filter keepB).take n, z.length = st.length + 1) := by
  have hlen : ∀ z ∈ wds st sp f (n + 2), z.length = st.length + 1 := fun z hz => by
    obtain ⟨k, _, rfl⟩ := List.mem_map.mp hz
    exact wd_len
  have nd : (wds st sp f (n + 2)).Nodup := nd_map _ fun i j hi hj e => wd_inj (by omega) (by omega) e
  have ef : (wds st sp f (n + 2)).filter keepB = (wds st sp f (n + 2)).filter fun z => decide (z ≠ own) :=
    List.filter_congr fun z hz => keep_own (by rw [hlen z hz]; omega)
  have h1 := one_out own nd
  have h2 : (wds st sp f (n + 2)).length = n + 2 := by unfold wds; rw [List.length_map, List.length_range]
  have mem : ∀ z ∈ ((wds st sp f (n + 2)).filter keepB).take n, z ∈ wds st sp f (n + 2) ∧ keepB z = true := fun z hz => List.mem_filter.mp (List.mem_of_mem_take hz)
  refine ⟨?_, fun z hz => ?_, (nd.sublist List.filter_sublist).sublist (List.take_sublist _ _), fun z hz => hlen z (mem z hz).1⟩
  · rw [List.length_take, ef]
    omega
  · obtain ⟨hm, hk⟩ := mem z hz
    have hlz := hlen z hm
    obtain ⟨k, _, rfl⟩ := List.mem_map.mp hm
    refine ⟨by omega, by omega, wd_low hs, ?_⟩
    unfold keepB at hk
    simpa using hk
theorem joinL_one : ∀ cs : List Nat, TL.joinL [] (cs.map fun c => [c]) = cs
  | [] => rfl
  | [c] => rfl
  | c :: d :: r => by
    show [c] ++ ([] ++ TL.joinL [] ((d :: r).map fun c => [c])) = c :: d :: r
    rw [joinL_one (d :: r)]
    rfl
theorem join_one (cs : List Nat) : Txt.join ("" : Str) (cs.map fun c => S [c]) = S cs := by
  have e : (cs.map fun c => S [c]) = (cs.map fun c => [c]).map S := by rw [List.map_map]; rfl
  rw [e, show ("" : Str) = S [] by decide +kernel, SX.join_S, joinL_one]
def nameV (z : List Nat) : V := .str (S z)
/-- n names -/
def spNames (K : PySem.W.Frag) : Sp := fun vs H Q _ => ∃ (p l : Addr) (n : Nat), vs = [.ref p, .int (n : Int)] ∧ BoxAt H p l ∧ 1 ≤ n ∧ n ≤ 11 ∧
  ∀ (q : Addr) (zs : List (List Nat)) (H' : Hp), zs.length = n → (∀ z ∈ zs, NameL z) → zs.Nodup → (∃ m, ∀ z ∈ zs, z.length = m) → hide p H q = none → q ≠ p → H' q = some (.lst (zs.map nameV)) → BoxAt H' p l → But p H H' → Q (.ref q) H'
end Bl

/-! tests of rows: their shape, what they say of a row -/
namespace Bl
open PySem L2
open SX (S)
inductive Tst where
  | is (c t : List Nat) | has (s : List Nat) | neg (a : Tst) | two (o : Bool) (a b : Tst)
def Tst.deep : Tst → Nat
  | .is _ _ => 1
  | .has _ => 1
  | .neg a => a.deep + 1
  | .two _ a b => max a.deep b.deep + 1
def twoS (o : Bool) : Str := if o then "and" else "or"
def Tst.toD : Tst → PyData
  | .is c t => .tuple [.str "is", .str (S c), .str (S t)]
  | .has s => .tuple [.str "has", .str (S s)]
  | .neg a => .tuple [.str "not", a.toD]
  | .two o a b => .tuple [.str (twoS o), a.toD, b.toD]
/-- made of these columns, this tag, this side -/
def Tst.over (cs : List (List Nat)) (t s : List Nat) : Tst → Prop
  | .is c u => c ∈ cs ∧ u = t
  | .has r => r = s
  | .neg a => a.over cs t s
  | .two _ a b => a.over cs t s ∧ b.over cs t s
theorem Tst.deep_pos : ∀ t : Tst, 1 ≤ t.deep
  | .is _ _ => Nat.le_refl 1
  | .has _ => Nat.le_refl 1
  | .neg _ => Nat.succ_le_succ (Nat.zero_le _)
  | .two _ _ _ => Nat.succ_le_succ (Nat.zero_le _)
def rowV (kvs : List (Key × V)) (k : List Nat) : V := (valV kvs (Sum.inr (S k))).getD .non
def holdB (kvs : List (Key × V)) : Tst → Bool
  | .is c t => decide (rowV kvs c = .str (S t))
  | .has s => decide (rowV kvs s = .bl true)
  | .neg a => !holdB kvs a
  | .two o a b => if o then holdB kvs a && holdB kvs b else holdB kvs a || holdB kvs b
/-- what is asked of the row: columns hold texts or nothing, sides bools or nothing -/
def RowOk (kvs : List (Key × V)) : Tst → Prop
  | .is c _ => rowV kvs c = .non ∨ (∃ b, rowV kvs c = .bl b) ∨ ∃ z, rowV kvs c = .str z
  | .has s => valV kvs (Sum.inr (S s)) = none ∨ ∃ b, valV kvs (Sum.inr (S s)) = some (.bl b)
  | .neg a => RowOk kvs a
  | .two _ a b => RowOk kvs a ∧ RowOk kvs b
theorem iteFk {b : Bool} {A B : Prop} (hb : b = false) (h : B) : if b = true then A else B := by
  rw [hb, if_neg Bool.false_ne_true]
  exact h
theorem iteTk {b : Bool} {A B : Prop} (hb : b = true) (h : A) : if b = true then A else B := by
  rw [hb, if_pos rfl]
  exact h
/-- a tuple's items by their shape -/
theorem Dp.tup2 {K : PySem.W.Frag} {H : Hp} {v : V} {d e : PyData} (h : Dp K H v (.tuple [d, e])) : ∃ a x y, v = .ref a ∧ SqT K H a [x, y] ∧ Dp K H x d ∧ Dp K H y e := by
  cases h with
  | tup hs ha =>
    cases ha with
    | cons h1 h2 =>
      cases h2 with
      | cons h3 h4 =>
        cases h4
        exact ⟨_, _, _, rfl, hs, h1, h3⟩
theorem Dp.tup3 {K : PySem.W.Frag} {H : Hp} {v : V} {d e f : PyData} (h : Dp K H v (.tuple [d, e, f])) : ∃ a x y z, v = .ref a ∧ SqT K H a [x, y, z] ∧ Dp K H x d ∧ Dp K H y e ∧ Dp K H z f := by
  cases h with
  | tup hs ha =>
    cases ha with
    | cons h1 h2 =>
      cases h2 with
      | cons h3 h4 =>
        cases h4 with
        | cons h5 h6 =>
          cases h6
          exact ⟨_, _, _, _, rfl, hs, h1, h3, h5⟩
theorem Dp.str1 {K : PySem.W.Frag} {H : Hp} {v : V} {z : Str} (h : Dp K H v (.str z)) : v = .str z := by
  cases h
  rfl
/-- is True, of a bool or None -/
def rIsNB : R2 := fun x y H Q => ∃ b : Bool, y = .bl b ∧ (x = .non ∧ Q (.bl false) H ∨ ∃ a, x = .bl a ∧ Q (.bl (decide (a = b))) H)
theorem op_isNB {X : Cx} : OpR X (compareOp .Is) rIsNB := by
  intro pins s σ H x y v u Q I rx ry h
  obtain ⟨b, rfl, ⟨rfl, q⟩ | ⟨a, rfl, q⟩⟩ := h
  · cases (show v = Value.none from rx)
    cases (show u = Value.bool b from ry)
    exact PySem.wpAny_is_other rfl (fun z => nomatch z) ⟨.bl false, H, I, rfl, q⟩
  · exact op_isBl pins s σ H _ _ v u Q I rx ry ⟨a, b, rfl, rfl, q⟩
def spHolds (K : PySem.W.Frag) (n : Nat) : Sp := fun vs H Q _ => ∃ (v : V) (t : Tst) (d : Addr) (kvs : List (Key × V)), vs = [v, .ref d] ∧ Dp K H v t.toD ∧ H d = some (.dK kvs) ∧ t.deep ≤ n ∧ RowOk kvs t ∧
  ∀ H', Same H H' → Q (.bl (holdB kvs t)) H'
def spFree (K : PySem.W.Frag) (n : Nat) : Sp := fun vs H Q _ => ∃ (p l q : Addr) (w0 w1 w2 w3 w4 : List Nat) (d : Nat), vs = [.ref p, .ref q, .int (d : Int)] ∧ BoxAt H p l ∧ hide p H q = some (.lst [nameV w0, nameV w1, nameV w2, nameV w3, nameV w4]) ∧
  w0.length ≤ 1000 ∧ w2.length ≤ 1000 ∧ 1 ≤ d ∧ d ≤ n ∧ ∀ (v : V) (t : Tst) (H' : Hp), t.deep = d → t.over [w0, w1, w2 ++ 46 :: w0] w3 w4 → Dp K (hide p H') v t.toD → BoxAt H' p l → But p H H' → Q v H'
end Bl

/-! my own rule: a, *b = a tuple -/
namespace Bl
open PySem L2 PyProof.Rows
theorem iter_tupiter {prog : Program} {w : World} {A : Around} {E : Value → Shared → Prop} {s : Shared} {it t : Addr} {i : Nat} {Q : Value → Shared → Prop} (hit : IsTupIter s.heap it t i) (h : Q (.ref it) s) : wpAny (model prog w) A (pyIter (.ref it)) Q E s := by
  refine wpAny_pyIter_slot hit.typeIs F.slot_tuple_iterator_iter (wpAny_call_entry F.slot_tuple_iterator_iter hit.typeIs F.entry_tuple_iterator_iter ?_ (F.args_tuple_iterator_iter_1 _))
  show wpAny _ _ (ret (.ref it)) _ _ s
  exact wpAny_pure ⟨_, rfl, "tuple_iterator", _, hit.typeIs, F.slot_tuple_iterator_next.lookup, h⟩
theorem tup_at {h h' : Heap} {a : Addr} {items : Array Value} (x : IsTup h a items) (e : ∀ o, h.get? a = some o → h'.get? a = some o) : IsTup h' a items := let ⟨o, ho, r⟩ := x; ⟨o, e _ ho, r⟩
theorem tupiter_at {h h' : Heap} {a t : Addr} {i : Nat} (x : IsTupIter h a t i) (e : ∀ o, h.get? a = some o → h'.get? a = some o) : IsTupIter h' a t i := let ⟨o, ho, r⟩ := x; ⟨o, e _ ho, r⟩
theorem walks_from1 {prog : Program} {w : World} {A : Around} (hh : A.handled = none) (I ax : Addr) (hne : ax ≠ I) (items : Array Value) (h1 : 1 ≤ items.size) :
    Walks prog w A I [I, ax] [I] (items.size - 1) (fun i v => items[i + 1]? = some v) (fun i h => IsTupIter h I ax (i + 1) ∧ IsTup h ax items) where
  sub := fun b hb => by simp at hb; simp [hb]
  frame := fun _ _ _ st hk => ⟨tupiter_at st.1 fun o e => hk I (by simp) o e, tup_at st.2 fun o e => hk ax (by simp) o e⟩
  item := fun i s Q E hi st hQ => by
    have hlt : i + 1 < items.size := by omega
    refine next_tuple_item st.1 st.2 (x := items[i + 1]) (by simp [hlt]) fun h' hit' hs' => ?_
    exact hQ _ h' s.toks (by simp [hlt]) ⟨hit', st.2.extBut hs'.extBut hne⟩ fun b o hb e => hs'.extBut b o (fun h => hb (by simp [h])) e
  done := fun s Q E st hQ => next_tuple_end hh st.1 st.2 (by rw [show items.size - 1 + 1 = items.size by omega]; simp) fun h' he' => hQ h' s.toks fun b o hb e => he' b o (fun h => hb (by simp [h])) e
  self := fun _ _ _ _ st hQ => iter_tupiter st.1 hQ
theorem items_tail {items : Array Value} {acc : Array Value} (h1 : 1 ≤ items.size) (h : ItemsOf (fun i v => items[i + 1]? = some v) acc (items.size - 1)) : acc.toList = items.toList.drop 1 := by
  obtain ⟨hs, hv⟩ := h
  apply List.ext_getElem?
  intro j
  rw [List.getElem?_drop, Array.getElem?_toList, Array.getElem?_toList, Nat.add_comm]
  by_cases hj : j < acc.size
  · have e : acc[j]? = some acc[j] := by simp [hj]
    rw [e]
    exact (hv j _ e).symm
  · rw [Array.getElem?_eq_none (by omega), Array.getElem?_eq_none (by omega)]
/-- what is asked: the tuple has a first item; a new list of the others -/
def gStar1 (K : PySem.W.Frag) (t u : TG) : TG := fun v σ H Q => ∃ a x xs, v = .ref a ∧ SqT K H a (x :: xs) ∧ ∀ p, H p = none → t x σ (upd H p (.lst xs)) fun σ1 H1 => u (.ref p) σ1 H1 Q
theorem pg_star1 {X : Cx} {e1 e2 : Expr} {k : Nat} {pos q : Pos} {t u : TG} (hc : X.calm = true) (h1 : PG X e1 t) (h2 : PG X e2 u)
    (hn : assignEach [e1, .Starred e2 q] X.env = [(false, assign e1 X.env), (true, assign e2 X.env)] := by rfl) : PG X (.Tuple [e1, .Starred e2 q] k pos) (gStar1 X.K t u) := by
  refine ⟨fun pins s σ H v w Q I r hw => ?_⟩
  obtain ⟨a, x, xs, rfl, hs, hw⟩ := hw
  obtain rfl : w = Value.ref a := r
  obtain ⟨its, rv, ht, hz⟩ := I.tuple hs
  obtain ⟨y, ys, rfl, rx, rxs⟩ : ∃ y ys, its = y :: ys ∧ RelV x y ∧ Vals xs ys := by
    cases rv with
    | cons p q => exact ⟨_, _, rfl, p, q⟩
  have hh := I.ok.hd hc
  have hlt : a ≠ s.heap.objs.size := by obtain ⟨o, ho, _⟩ := ht; exact Nat.ne_of_lt (Heap.lt_size ho)
  rw [assign_Tuple, hn]
  refine wpAny_bind (wpAny_standAt ?_)
  unfold unpack
  refine wpAny_bind (wpAny_holding ?_)
  show wpAny _ _ (unpackItems (.ref a) 2 (some 1)) _ _ s
  unfold unpackItems
  refine wpAny_bind ?_
  unfold notIterableAtAll
  refine wpAny_bind (wpAny_specialOf ht.typeIs slot_tuple_iter.lookup ?_)
  refine wpAny_pure ?_
  simp only [Bool.false_eq_true, if_false]
  refine wpAny_bind (wpAny_holding (iter_tuple ht ?_))
  refine wpAny_bind (wpAny_holding (draw_tuple hlt 1 0 _ _ ⟨_, Heap.get?_push_size _ rfl, rfl, rfl⟩ (ht.push _) (by simp) fun h₁ hit₁ hs₁ => ?_))
  have hfirst : List.take 1 (List.drop 0 (y :: ys).toArray.toList) = [y] := by simp
  rw [hfirst]
  rw [if_neg (by simp)]
  have hk₁ : ∀ b o, b ≠ s.heap.objs.size → s.heap.get? b = some o → h₁.get? b = some o := fun b o hb e => hs₁.extBut b o hb (Heap.get?_push_of_some _ e)
  have ht₁ : IsTup h₁ a (y :: ys).toArray := (ht.push _).extBut hs₁.extBut hlt
  have hsz₁ : s.heap.objs.size < h₁.objs.size := by
    obtain ⟨o, ho, _⟩ := hit₁
    exact Heap.lt_size ho
  have hax₁ : a < h₁.objs.size := by
    obtain ⟨o, ho, _⟩ := ht₁
    exact Heap.lt_size ho
  have hysl : ys.length ≤ sizeLine := by
    have h3 := rxs.length
    have h4 : (x :: xs).length ≤ sizeLine := hz
    rw [List.length_cons] at h4
    omega
  refine wpAny_bind (wpAny_holding (wpAny_collect_iter (T := "tuple_iterator") (.inr (.inr (.inr rfl))) (Walks.toS (walks_from1 (A := X.A.in1) hh s.heap.objs.size a hlt (y :: ys).toArray (by simp)))
    (fun i s' st => st.1.typeIs) ⟨hit₁, ht₁⟩ (fun b hb => ?_) (by simp) (fun s' acc hm hacc => ?_) (by simpa using hysl)))
  · simp at hb
    rcases hb with rfl | rfl
    · exact hsz₁
    · exact hax₁
  have hacc' : acc.toList = ys := by
    rw [items_tail (by simp) hacc]
    simp
  have hnl : acc.toList.length = ys.length := by rw [hacc']
  rw [hacc']
  obtain ⟨hk₂, hg, hd, ho, htk⟩ := hm
  obtain ⟨h₂, g₂, d₂, t₂, o₂⟩ := s'
  dsimp only at hk₂ hg hd ho htk
  subst hg hd ho
  have hk : ∀ b o, s.heap.get? b = some o → h₂.get? b = some o := fun b o e => hk₂ b o (by simpa using Nat.ne_of_lt (Heap.lt_size e)) (hk₁ b o (Nat.ne_of_lt (Heap.lt_size e)) e)
  have I3 : Inv X pins σ H { s with heap := h₂, toks := t₂ } := I.kept hk
  have hxl : xs.length ≤ sizeLine := by rw [rxs.length]; exact hysl
  have I2 := I3.lnew (t' := t₂) rxs hxl
  rw [if_neg (by simp)]
  have hpn : H h₂.objs.size = none := I3.fresh
  have q := hw _ hpn
  show wpAny _ _ (newList (ys.take ys.length) >>= fun l => pure ([y] ++ [l] ++ ys.drop ys.length)) _ _ _
  rw [List.take_length, List.drop_length]
  refine wpAny_bind (wpAny_newObj_type ?_ hysl)
  refine wpAny_pure ?_
  show wpAny _ _ (assignInOrder [assign e1 X.env, assign e2 X.env] [y, Value.ref h₂.objs.size]) _ _ _
  refine assignInOrder_cons (thn (h1.run _ _ _ _ _ _ _ I2 rx q) fun _ s4 ⟨σ4, H4, I4, q4⟩ => ?_)
  refine assignInOrder_cons (thn (h2.run _ _ _ _ (.ref h₂.objs.size) _ _ I4 rfl q4) fun _ s5 ⟨σ5, H5, I5, q5⟩ => ?_)
  exact assignInOrder_nil ⟨σ5, H5, I5, q5⟩
end Bl

/-! what is a test, of any data -/
namespace Bl
open PySem L2
open SX (S)
def dot : Str := "."
theorem dot_eq : ("." : Str) = S [46] := by decide +kernel
def colB (z : Str) : Bool := decide ((Txt.split z ".").length ≤ 2) && (Txt.split z ".").all nameB
def colD : PyData → Bool
  | .str z => colB z
  | _ => false
theorem split_dot (a : List Nat) : Txt.split (S a) "." = (TL.spl [46] 0 [] a).map S := by
  rw [dot_eq]
  exact SX.split_S (by decide) (by decide)
theorem spl_len {s : List Nat} : ∀ (l : List Nat) (k : Nat) (acc : List Nat), ∀ p ∈ TL.spl s k acc l, p.length ≤ acc.length + l.length
  | [], k, acc, p, h => by
    have e : TL.spl s k acc [] = [acc] := by cases k <;> rfl
    rw [e] at h
    obtain rfl := List.mem_singleton.mp h
    exact Nat.le_add_right _ _
  | c :: r, k + 1, acc, p, h => by
    have h' : p ∈ TL.spl s k acc r := h
    have := spl_len r k acc p h'
    rw [List.length_cons]
    omega
  | c :: r, 0, acc, p, h => by
    have h' : p ∈ (if TL.pre s (c :: r) = true then acc :: TL.spl s (s.length - 1) [] r else TL.spl s 0 (acc ++ [c]) r) := h
    rw [List.length_cons]
    by_cases hp : TL.pre s (c :: r) = true
    · rw [if_pos hp] at h'
      rcases List.mem_cons.mp h' with rfl | h'
      · exact Nat.le_add_right _ _
      · have := spl_len r _ [] p h'
        rw [List.length_nil] at this
        omega
    · rw [if_neg hp] at h'
      have := spl_len r _ _ p h'
      rw [List.length_append] at this
      have e1 : [c].length = 1 := rfl
      omega
theorem split_len {z y : Str} (h : y ∈ Txt.split z ".") : y.length ≤ z.length := by
  rw [← SX.S_tl z, split_dot] at h
  obtain ⟨l, hl, rfl⟩ := List.mem_map.mp h
  have := spl_len _ _ _ _ hl
  rw [SX.S_len]
  rw [List.length_nil, Nat.zero_add, Array.length_toList] at this
  exact this
theorem split_one {a : List Nat} (h : 46 ∉ a) : Txt.split (S a) "." = [S a] := by
  rw [split_dot, show TL.spl [46] 0 [] a = [a] from SX.spl_join (c := 46) (sep := []) (parts := [a]) (by simp) (by simpa using h)]
  rfl
theorem split_two {a b : List Nat} (h : 46 ∉ a) (k : 46 ∉ b) : Txt.split (S (a ++ 46 :: b)) "." = [S a, S b] := by
  rw [split_dot, show TL.spl [46] 0 [] (a ++ 46 :: b) = [a, b] from SX.spl_join (c := 46) (sep := []) (parts := [a, b]) (by simp) (by simp [h, k])]
  rfl
theorem no_dot {z : List Nat} (h : NameL z) : 46 ∉ z := fun hm => absurd (h.low 46 hm) (by decide)
theorem col_one {z : List Nat} (h : NameL z) : colB (S z) = true := by
  unfold colB
  rw [split_one (no_dot h)]
  simp [NameL.nameB h]
theorem col_two {y z : List Nat} (h : NameL y) (k : NameL z) : colB (S (y ++ 46 :: z)) = true := by
  unfold colB
  rw [split_two (no_dot h) (no_dot k)]
  simp [NameL.nameB h, NameL.nameB k]
/-- how many tests stand behind a first word -/
def partsN (h : Str) : Option Nat := if h = "not" then some 1 else if h = "and" then some 2 else if h = "or" then some 2 else none
def atD (f : PyData → Bool) (ds : List PyData) (i : Nat) : Bool := match ds[i]? with
  | some d => f d
  | none => false
def leafB (h : Str) (rest : List PyData) : Bool :=
  if h = "has" then decide (rest.length = 1) && atD nameD rest 0 else decide (h = "is") && (decide (rest.length = 2) && (atD colD rest 0 && atD nameD rest 1))
def isT : Nat → PyData → Bool
  | 0, _ => false
  | n + 1, .tuple (.str h :: rest) => match partsN h with
    | some k => decide (rest.length = k) && rest.all (isT n)
    | none => leafB h rest
  | _ + 1, _ => false
/-- texts and tuples of some size, n deep -/
def Sm : Nat → PyData → Prop
  | 0, _ => True
  | _ + 1, .str z => z.length ≤ 100000
  | n + 1, .tuple ds => ds.length ≤ 1000 ∧ ∀ d ∈ ds, Sm n d
  | _ + 1, _ => True
def spIsCol (K : PySem.W.Frag) : Sp := fun vs H Q _ => ∃ (v : V) (d : PyData), vs = [v] ∧ Dp K H v d ∧ (∀ z, d = .str z → z.length ≤ 100000) ∧ ∀ H', Same H H' → Q (.bl (colD d)) H'
def spIsT (K : PySem.W.Frag) (n : Nat) : Sp := fun vs H Q _ => ∃ (v : V) (d : PyData) (m : Nat), vs = [v, .int (m : Int)] ∧ m < n ∧ Dp K H v d ∧ Sm (m + 1) d ∧ ∀ H', Same H H' → Q (.bl (isT m d)) H'
theorem pn_not : partsN "not" = some 1 := by decide +kernel
theorem pn_and : partsN "and" = some 2 := by decide +kernel
theorem pn_or : partsN "or" = some 2 := by decide +kernel
theorem pn_is : partsN "is" = none := by decide +kernel
theorem pn_has : partsN "has" = none := by decide +kernel
theorem pn_two (o : Bool) : partsN (twoS o) = some 2 := by cases o <;> decide +kernel
theorem is_has : ¬ (("is" : Str) = "has") := by decide +kernel
theorem isT_parts {h : Str} {k : Nat} (n : Nat) (rest : List PyData) (e : partsN h = some k) : isT (n + 1) (.tuple (.str h :: rest)) = (decide (rest.length = k) && rest.all (isT n)) := by
  show (match partsN h with | some k => _ | none => leafB h rest) = _
  rw [e]
theorem isT_leaf {h : Str} (n : Nat) (rest : List PyData) (e : partsN h = none) : isT (n + 1) (.tuple (.str h :: rest)) = leafB h rest := by
  show (match partsN h with | some k => _ | none => leafB h rest) = _
  rw [e]
theorem isT_is (n : Nat) (a b : PyData) : isT (n + 1) (.tuple [.str "is", a, b]) = (colD a && nameD b) := by
  rw [isT_leaf n _ pn_is]
  unfold leafB
  rw [if_neg is_has]
  simp [atD]
theorem isT_has (n : Nat) (a : PyData) : isT (n + 1) (.tuple [.str "has", a]) = nameD a := by
  rw [isT_leaf n _ pn_has]
  unfold leafB
  rw [if_pos rfl]
  simp [atD]
/-- a drawn test is one, if it is not too deep -/
structure Words (w0 w1 w2 w3 w4 : List Nat) : Prop where
  a : NameL w0
  b : NameL w1
  c : NameL w2
  d : NameL w3
  e : NameL w4
theorem Words.col {w0 w1 w2 w3 w4 : List Nat} (W : Words w0 w1 w2 w3 w4) {c : List Nat} (h : c ∈ [w0, w1, w2 ++ 46 :: w0]) : colB (S c) = true ∧ c.length ≤ 13 := by
  have h0 := W.a.six
  have h1 := W.b.six
  have h2 := W.c.six
  rcases List.mem_cons.mp h with rfl | h
  · exact ⟨col_one W.a, by omega⟩
  rcases List.mem_cons.mp h with rfl | h
  · exact ⟨col_one W.b, by omega⟩
  obtain rfl := List.mem_singleton.mp h
  refine ⟨col_two W.c W.a, ?_⟩
  rw [List.length_append, List.length_cons]
  omega
theorem isT_over {w0 w1 w2 w3 w4 : List Nat} (W : Words w0 w1 w2 w3 w4) : ∀ (n : Nat) (t : Tst), t.over [w0, w1, w2 ++ 46 :: w0] w3 w4 → isT n t.toD = decide (t.deep ≤ n)
  | 0, t, _ => by
    have := t.deep_pos
    exact (decide_eq_false (by omega)).symm
  | n + 1, .is c t, h => by
    obtain ⟨hc, rfl⟩ := h
    show isT (n + 1) (.tuple [.str "is", .str (S c), .str (S t)]) = _
    rw [isT_is]
    show (colB (S c) && nameB (S t)) = decide (1 ≤ n + 1)
    rw [(W.col hc).1, NameL.nameB W.d, decide_eq_true (by omega)]
    rfl
  | n + 1, .has s, h => by
    obtain rfl : s = w4 := h
    show isT (n + 1) (.tuple [.str "has", .str (S s)]) = _
    rw [isT_has]
    show nameB (S s) = decide (1 ≤ n + 1)
    rw [NameL.nameB W.e, decide_eq_true (by omega)]
  | n + 1, .neg t, h => by
    show isT (n + 1) (.tuple [.str "not", t.toD]) = decide (t.deep + 1 ≤ n + 1)
    rw [isT_parts n _ pn_not, List.all_cons, List.all_nil, isT_over W n t h]
    simp
  | n + 1, .two o t u, h => by
    show isT (n + 1) (.tuple [.str (twoS o), t.toD, u.toD]) = decide (max t.deep u.deep + 1 ≤ n + 1)
    rw [isT_parts n _ (pn_two o), List.all_cons, List.all_cons, List.all_nil, isT_over W n t h.1, isT_over W n u h.2]
    have e2 : decide (max t.deep u.deep + 1 ≤ n + 1) = (decide (t.deep ≤ n) && decide (u.deep ≤ n)) := by
      by_cases h1 : t.deep ≤ n
      · by_cases h2 : u.deep ≤ n
        · rw [decide_eq_true h1, decide_eq_true h2, decide_eq_true (by omega)]
          rfl
        · rw [decide_eq_false h2, decide_eq_false (by omega), Bool.and_false]
      · rw [decide_eq_false h1, decide_eq_false (by omega), Bool.false_and]
    rw [e2]
    simp
theorem Sm_over {w0 w1 w2 w3 w4 : List Nat} (W : Words w0 w1 w2 w3 w4) : ∀ (n : Nat) (t : Tst), t.over [w0, w1, w2 ++ 46 :: w0] w3 w4 → Sm n t.toD
  | 0, _, _ => True.intro
  | 1, .is _ _, _ => ⟨by show 3 ≤ 1000; decide, fun _ _ => True.intro⟩
  | 1, .has _, _ => ⟨by show 2 ≤ 1000; decide, fun _ _ => True.intro⟩
  | n + 2, .is c t, h => by
    obtain ⟨hc, rfl⟩ := h
    refine ⟨by show 3 ≤ 1000; decide, fun d hd => ?_⟩
    rcases List.mem_cons.mp hd with rfl | hd
    · show ("is" : Str).length ≤ 100000
      decide +kernel
    rcases List.mem_cons.mp hd with rfl | hd
    · show (S c).length ≤ 100000
      rw [SX.S_len]
      have := (W.col hc).2
      omega
    obtain rfl := List.mem_singleton.mp hd
    show (S t).length ≤ 100000
    rw [SX.S_len]
    have := W.d.six
    omega
  | n + 2, .has s, h => by
    obtain rfl : s = w4 := h
    refine ⟨by show 2 ≤ 1000; decide, fun d hd => ?_⟩
    rcases List.mem_cons.mp hd with rfl | hd
    · show ("has" : Str).length ≤ 100000
      decide +kernel
    obtain rfl := List.mem_singleton.mp hd
    show (S s).length ≤ 100000
    rw [SX.S_len]
    have := W.e.six
    omega
  | n + 1, .neg t, h => by
    refine ⟨by show 2 ≤ 1000; decide, fun d hd => ?_⟩
    rcases List.mem_cons.mp hd with rfl | hd
    · cases n with
      | zero => exact True.intro
      | succ n =>
        show ("not" : Str).length ≤ 100000
        decide +kernel
    obtain rfl := List.mem_singleton.mp hd
    exact Sm_over W n t h
  | n + 1, .two o t u, h => by
    refine ⟨by show 3 ≤ 1000; decide, fun d hd => ?_⟩
    rcases List.mem_cons.mp hd with rfl | hd
    · cases n with
      | zero => exact True.intro
      | succ n =>
        show (twoS o).length ≤ 100000
        cases o <;> decide +kernel
    rcases List.mem_cons.mp hd with rfl | hd
    · exact Sm_over W n t h.1
    obtain rfl := List.mem_singleton.mp hd
    exact Sm_over W n u h.2
/-! the written table of first words -/
def PartsAt (K : PySem.W.Frag) (w : World) (p : Addr) : Prop := ∃ es n, KDict K w p es n ∧ ∀ z : Str, ∃ r, PySem.W.nsIn K p z = some r ∧ (match partsN z with
  | some k => ∃ t, r = some (.int (k : Int) t)
  | none => r = none)
section
variable {X : Cx} {p : Addr}
theorem op_in_parts (h : PartsAt X.K X.w p) : OpR X (compareOp .In) (fun x y H Q => ∃ z, x = .str z ∧ y = .ref p ∧ Q (.bl (partsN z).isSome) H) := by
  intro pins s σ H x y v u Q I rx ry h2
  obtain ⟨z, rfl, rfl, q⟩ := h2
  obtain ⟨es, n, D, hz⟩ := h
  obtain ⟨r, hr, hk⟩ := hz z
  have e : (partsN z).isSome = r.isSome := by
    cases e : partsN z with
    | none =>
      rw [e] at hk
      rw [hk]
      rfl
    | some k =>
      rw [e] at hk
      obtain ⟨t, rfl⟩ := hk
      rfl
  rw [e] at q
  exact op_in_kd D pins s σ H _ _ v u Q I rx ry ⟨z, r, rfl, rfl, hr, q⟩
theorem ix_parts (h : PartsAt X.K X.w p) : IxR X (fun x y H Q => ∃ z, ∃ k : Nat, x = .ref p ∧ y = .str z ∧ partsN z = some k ∧ Q (.int k) H) := by
  intro value slice pins s σ H x y v u Q I rx ry h2 hs
  obtain ⟨z, k, rfl, rfl, hp, q⟩ := h2
  obtain ⟨es, n, D, hz⟩ := h
  obtain ⟨r, hr, hk⟩ := hz z
  rw [hp] at hk
  obtain ⟨t, rfl⟩ := hk
  exact ix_kdict value slice pins s σ H _ _ v u Q I rx ry ⟨p, z, .int k, rfl, rfl, ⟨es, n, _, D.at_, D.lit, hr, ⟨t, rfl⟩⟩, q⟩ hs
end
theorem parts_mk {K : PySem.W.Frag} {w : World} {p : Addr} {n : Nat} {h0 h1 h2 : Int} {t0 t1 t2 u0 u1 u2 : Tok}
    (L : K.lookup p = some ⟨.type "dict", none, .dict #[⟨h0, .str "not" t0, .int 1 u0⟩, ⟨h1, .str "and" t1, .int 2 u1⟩, ⟨h2, .str "or" t2, .int 2 u2⟩] n, #[]⟩)
    (V : PySem.W.KeysLit w.params [⟨h0, .str "not" t0, .int 1 u0⟩, ⟨h1, .str "and" t1, .int 2 u1⟩, ⟨h2, .str "or" t2, .int 2 u2⟩]) (hs : (p == sysModules) = false) : PartsAt K w p := by
  refine ⟨_, n, ⟨L, V, hs⟩, fun z => ?_⟩
  unfold PySem.W.nsIn
  rw [L]
  have hb : ∀ a b : Str, (a == b) = decide (b = a) := fun a b => by
    by_cases e : b = a
    · rw [decide_eq_true e, e]
      exact beq_self_eq_true _
    · rw [decide_eq_false e]
      exact beq_eq_false_iff_ne.mpr (Ne.symm e)
  by_cases e0 : z = "not"
  · subst e0
    rw [pn_not]
    exact ⟨some (.int 1 u0), by simp [List.find?, Value.isStr], u0, rfl⟩
  by_cases e1 : z = "and"
  · subst e1
    rw [pn_and]
    have n1 : (("not" : Str) == "and") = false := by decide +kernel
    exact ⟨some (.int 2 u1), by simp [List.find?, Value.isStr, n1], u1, rfl⟩
  by_cases e2 : z = "or"
  · subst e2
    rw [pn_or]
    have n1 : (("not" : Str) == "or") = false := by decide +kernel
    have n2 : (("and" : Str) == "or") = false := by decide +kernel
    exact ⟨some (.int 2 u2), by simp [List.find?, Value.isStr, n1, n2], u2, rfl⟩
  have e3 : partsN z = none := by
    unfold partsN
    rw [if_neg e0, if_neg e1, if_neg e2]
  rw [e3]
  have n0 : (("not" : Str) == z) = false := by rw [hb]; exact decide_eq_false e0
  have n1 : (("and" : Str) == z) = false := by rw [hb]; exact decide_eq_false e1
  have n2 : (("or" : Str) == z) = false := by rw [hb]; exact decide_eq_false e2
  exact ⟨none, by simp [List.find?, Value.isStr, n0, n1, n2, DictEntry.refKey], rfl⟩
end Bl

/-! own exceptions as values, over any of the three built-in bases -/
namespace Bl
open PySem L2 PySem.Spec PyProof.Rows
/-- what a store asks of a class's line -/
structure MroOk (mro : List Value) : Prop where
  ne : mro.isEmpty = false
  ob : mro.contains (.type "object") = true
  pass : ∀ self : Value, PySem.refuseLoop self "__setattr__" mro = pure ()
theorem MroOk.own {c : Addr} {l : List Value} (h : MroOk l) : MroOk (.ref c :: l) := ⟨rfl, by rw [List.contains_cons, h.ob, Bool.or_true], fun self => by
  rw [PySem.refuseLoop_ref]
  exact h.pass self⟩
def veM : List Value := [.type "ValueError", .type "Exception", .type "BaseException", .type "object"]
def leM : List Value := [.type "LookupError", .type "Exception", .type "BaseException", .type "object"]
def ieM : List Value := [.type "IndexError", .type "LookupError", .type "Exception", .type "BaseException", .type "object"]
theorem MroOk.ve : MroOk veM := ⟨rfl, by decide +kernel, fun self => PySem.F.store_ValueError.passes self⟩
theorem MroOk.le : MroOk leM := ⟨rfl, by decide +kernel, fun self => PySem.F.store_LookupError.passes self⟩
theorem MroOk.ie : MroOk ieM := ⟨rfl, by decide +kernel, fun self => PySem.F.store_IndexError.passes self⟩
/-- what the written part says of such a class -/
structure XC (K : PySem.W.Frag) (C : Addr) : Prop where
  cls : ∃ (B newId initId : String) (bmB : List Value) (nm q : Str) (N : Addr) (bs bm : List Value) (sn : List Str) (sub : List Value) (ab : Bool) (col : Option Bool) (dd : Option Addr) (k0 k1 k2 k3 k5 : Option Value),
    ExcBaseFacts B newId initId bmB ∧ (∀ T : String, bm.contains (.type T) = bmB.contains (.type T)) ∧ MroOk (.ref C :: bm) ∧ K.lookup C = some (excClassObj nm q C N bs bm true sn sub ab col dd k0 k1 k2 k3 k5 newId)
  sa : PySem.W.findIn K (.ref C) "__setattr__" = some (some (.builtin "object.__setattr__"))
  ga : PySem.W.findIn K (.ref C) "__getattribute__" = some (some (.builtin "BaseException.__getattribute__"))
  gg : PySem.W.findIn K (.ref C) "__getattr__" = some none
  ca : PySem.W.findIn K (.ref C) "__class__" = some (some (.builtin "object.__class__"))
  kC : PySem.W.keepIn K (.ref C) = true
  exC : PySem.W.subIn K (.ref C) (.type "BaseException") = some true
  mo : PySem.W.mroIn K C (.type "object") = some true
/-- what it says of all -/
structure XG (K : PySem.W.Frag) : Prop where
  cn : PySem.W.specialIn K (.builtin "object.__class__") "__get__" = some (some (.builtin "getset_descriptor.__get__"))
  ct : PySem.W.takesIn K (.builtin "object.__class__") = some true
section
variable {prog : Program} {w : World} {A : Around} {R : Result → Shared → Prop} {hp : Heap} {g : Array GenState} {d : Drawn} {t : Nat} {os : OsState} {K : PySem.W.Frag} {name : Str} {tk : Tok} {v : Value} {x C dx : Addr} {fv : Array Value} {cd : ClassData}
open Builtin Builtin.ObjectAttr PySem.Calls
/-- the way to the store itself -/
theorem xo_way {od : Option Obj} {ox : Obj} (X : K.In hp) (I : PySem.W.InstAt hp x ox C od) (hcd : PySem.W.clsIn K C = some cd) (hm : MroOk cd.mro) (ha : PySem.W.findIn K (.ref C) name = some none)
    (hs : wpAny (model prog w) A.in1 (storeInOwnDict (.ref x) (.ref C) (.str name tk) name v false) (fun fin s' => match fin with
      | .done f => R (.ok f) s'
      | .again c' => c'.quiet = true ∧ codeAny (model prog w) A c' R s') (fun e s' => R (.error e) s') ⟨hp, g, d, t, os⟩) :
    codeAny (model prog w) A (.call (.builtin "object.__setattr__") ⟨[.ref x, .str name tk, v], []⟩) R ⟨hp, g, d, t, os⟩ := by
  have SF := F.store_object
  have inst : PySem.W.Looks (model prog w) hp (isInstance (.ref x) (.type "object")) true :=
    I.type.andThen (PySem.W.looks_mroIn X (by
      unfold PySem.W.mroIn
      rw [hcd, Option.bind_some, if_neg (by rw [hm.ne]; decide), hm.ob]))
  refine codeAny_call_builtin SF.slot.plain SF.entry ?_
  refine @PySem.W.check_slot (model prog w) _ _ ⟨hp, g, d, t, os⟩ "object.__setattr__" "object" "__setattr__" (.ref x)
    [.str name tk, v] [] _ SF.kind SF.split inst (SF.args (.ref x) (.str name tk) v) ?_
  have line : PySem.W.Looks (model prog w) hp (mroOf (.ref C)) cd.mro :=
    (PySem.W.looks_clsIn X hcd).andThen .now
  have taker : PySem.W.Looks (model prog w) hp (storeTaker? none) none := PySem.W.Looks.now
  rw [PySem.W.osa_eq, PySem.refuse_eq]
  refine wpAny_bind (wpAny_bind ?_)
  refine I.type.at (wpAny_bind (line.at ?_))
  rw [hm.pass]
  refine wpAny_pure (wpAny_bind (I.type.at (wpAny_bind ?_)))
  exact (PySem.W.looks_findIn X ha).at (wpAny_bind (taker.at hs))
/-- the first field: the object's dict is laid -/
theorem xo_new (X : K.In hp) (hx : hp.get? x = some { cls := .ref C, data := .fields fv }) (hcd : PySem.W.clsIn K C = some cd) (hm : MroOk cd.mro)
    (hh : cd.hasDict = true) (ha : PySem.W.findIn K (.ref C) name = some none)
    (hq : ∀ h' tk' dx, (∀ b o, b ≠ x → hp.get? b = some o → h'.get? b = some o) → hp.objs.size ≤ dx → dx ≠ x →
      h'.get? x = some { cls := .ref C, dict := some dx, data := .fields fv } → h'.Ns1 dx (fun y => if y = name then some v else none) →
      R (.ok (.ret .none)) ⟨h', g, d, tk', os⟩) :
    codeAny (model prog w) A (.call (.builtin "object.__setattr__") ⟨[.ref x, .str name tk, v], []⟩) R ⟨hp, g, d, t, os⟩ := by
  have away : x ≠ hp.objs.size := Nat.ne_of_lt (Heap.lt_size hx)
  refine xo_way (od := none) X ⟨hx, rfl, rfl, trivial⟩ hcd hm ha ?_
  have look : PySem.W.Looks (model prog w) hp (classData C) cd := PySem.W.looks_clsIn X hcd
  obtain ⟨nm, bs, mro, ns, qn, hd, sn, sb, ab, col, del⟩ := cd
  dsimp only at hh
  subst hh
  unfold storeInOwnDict ownDictForStores
  repeat (first
    | with_reducible refine HandSPX.store_in_new ?_ ?_
    | with_reducible refine wpAny_loadPart_at hx ?_
    | with_reducible refine look.at ?_
    | wp_step)
  · exact ⟨_, #[], _,
      (Heap.get?_update_ne _ _ _ _ away.symm).trans (Heap.get?_push_at rfl rfl),
      rfl, fun e he => absurd he (by simp), fun _ => rfl⟩
  · intro h' tk' hn' hs
    have there : (hp.push { cls := .type "dict", data := .dict #[] }).get? x = some { cls := .ref C, data := .fields fv } :=
      Heap.get?_push_of_some _ hx
    refine hq h' tk' hp.objs.size (fun b o hb ho => ?_) (Nat.le_refl _) away.symm ?_ hn'
    · refine (hs.2 b (Nat.ne_of_lt (Heap.lt_size ho))).trans ?_
      exact (Heap.get?_update_ne _ _ _ _ hb).trans (Heap.get?_push_of_some _ ho)
    · exact (hs.2 x away).trans (Heap.get?_update_self _ there rfl)
/-- a further field -/
theorem xo_old {m0 : Str → Option Value} {nl : List Str} (X : K.In hp) (hx : hp.get? x = some { cls := .ref C, dict := some dx, data := .fields fv })
    (hns : hp.Ns1 dx m0) (hw : Within m0 nl) (hz : nl.length ≤ 1000) (hcd : PySem.W.clsIn K C = some cd) (hm : MroOk cd.mro)
    (hh : cd.hasDict = true) (ha : PySem.W.findIn K (.ref C) name = some none)
    (hq : ∀ h' tk', (∀ b o, b ≠ dx → hp.get? b = some o → h'.get? b = some o) → h'.Ns1 dx (fun y => if y = name then some v else m0 y) →
      R (.ok (.ret .none)) ⟨h', g, d, tk', os⟩) :
    codeAny (model prog w) A (.call (.builtin "object.__setattr__") ⟨[.ref x, .str name tk, v], []⟩) R ⟨hp, g, d, t, os⟩ := by
  obtain ⟨oD, esD, epD, hoD, hdD, _⟩ := hns.count hw
  refine xo_way (od := some oD) X ⟨hx, rfl, rfl, hoD⟩ hcd hm ha ?_
  have look : PySem.W.Looks (model prog w) hp (classData C) cd := PySem.W.looks_clsIn X hcd
  obtain ⟨nm, bs, mro, ns, qn, hd, sn, sb, ab, col, del⟩ := cd
  dsimp only at hh
  subst hh
  unfold storeInOwnDict ownDictForStores
  repeat (first
    | with_reducible refine PySem.OEX.store_in_old hns hw hz ?_
    | with_reducible refine wpAny_loadPart_at hx ?_
    | with_reducible refine look.at ?_
    | wp_step)
  exact fun h' tk' hn' hs => hq h' tk' (fun b o hb ho => (hs.2 b hb).trans ho) hn'
end
/-! stores into a tracked one -/
theorem XC.clsIn {K : PySem.W.Frag} {C : Addr} (T : XC K C) : ∃ cd : ClassData, PySem.W.clsIn K C = some cd ∧ MroOk cd.mro ∧ cd.hasDict = true := by
  obtain ⟨B, newId, initId, bmB, nm, q, N, bs, bm, sn, sub, ab, col, dd, k0, k1, k2, k3, k5, F, hT, hm, hC⟩ := T.cls
  refine ⟨{ name := nm, bases := bs, mro := .ref C :: bm, ns := N, qualname := q, hasDict := true, slotNames := sn, subclasses := sub, abstract := ab, collection := col, hasDel := false }, ?_, hm, rfl⟩
  unfold PySem.W.clsIn
  rw [hC]
section
variable {X : Cx} {pins : List (Addr × Obj)} {σ : L2.St} {H : Hp} {s : Shared} {a C dx : Addr} {f : Str} {y : V} {u : Value} {fs : List (Str × V)} {Q : Unit → Shared → Prop} {E : Value → Shared → Prop} {A : Around}
theorem xst_new (T : XC X.K C) (I : Inv X pins σ H s) (e : H a = some (exo a C none)) (hno : PySem.W.findIn X.K (.ref C) f = some none) (ry : RelV y u)
    (h : ∀ dx s', H dx = none → dx ≠ a → Inv X pins σ (upd (upd H dx (exd dx [(f, y)])) a (exo a C (some dx))) s' → Q () s') : wpAny (model X.prog X.w) A (setAttr (.ref a) f u) Q E s := by
  obtain ⟨cd, hcd, hm, hh⟩ := T.clsIn
  obtain ⟨t1, ho⟩ := exo_at I.hok e
  obtain ⟨hp, g, d, t, os⟩ := s
  refine PySem.W.set_plain I.kIn (od := none) ⟨ho, rfl, rfl, trivial⟩ T.sa ?_
  refine xo_new I.kIn ho hcd hm hh hno fun h' tk' dx k big ne hx hn => ?_
  have free : H dx = none := I.hok.fresh big
  have old : ∀ {b : Addr} {ob : Obj}, hp.get? b = some ob → b ≠ dx := fun q =>
    Nat.ne_of_lt (Nat.lt_of_lt_of_le (Heap.lt_size q) big)
  have other : ∀ {b : Addr}, H b = none → b ≠ a := fun q z => by
    subst z
    rw [e] at q
    cases q
  have here : ∀ {b : Addr} {ob : HO}, H b = some ob → ob ≠ exo a C none → upd (upd H dx (exd dx [(f, y)])) a (exo a C (some dx)) b = some ob := fun q z => by
    rw [upd_ne (by rintro rfl; rw [e] at q; exact z (Option.some.inj q).symm), upd_ne (ne_of_none q free)]
    exact q
  refine h dx _ free ne (I.un (t' := tk') ⟨?_, ?_, ?_, ?_, ?_, ?_, ?_⟩ ?_)
  · exact fun b ob q n _ _ => k b ob (other n) q
  · exact fun b ob q n _ _ => ⟨ob.slots, k b ob (other n) q⟩
  · intro b ob q n _
    rw [upd_ne (other n), upd_ne (old q)]
    exact n
  · intro b ob q _
    by_cases hb : b = a
    · subst hb
      exact ⟨_, hx⟩
    · exact ⟨ob, k b ob hb q⟩
  · exact fun b xs q => here q exo_tup.symm
  · exact fun b ob v q => here q exo_frz.symm
  · exact fun b ps q => ⟨#[], by rw [here q exo_tbl.symm]; simp⟩
  · intro b ob q
    by_cases hb : b = a
    · subst hb
      rw [upd_same] at q
      cases q
      exact exo_ok hx
    · rw [upd_ne hb] at q
      by_cases hd : b = dx
      · subst hd
        rw [upd_same] at q
        cases q
        exact exd_ok hn (relO_put (fs := []) ry fun _ => True.intro)
      · rw [upd_ne hd] at q
        refine (I.hok b ob q).stay (fun c v hc z => k c v ?_ z) (fun c hc => here hc exo_own.symm) (fun c xs hc => here hc exo_tup.symm)
        rcases hc with rfl | hc
        · exact hb
        · exact at_ne e hc exo_own
theorem xst_old (T : XC X.K C) (I : Inv X pins σ H s) (e : H a = some (exo a C (some dx))) (ed : H dx = some (exd dx fs)) (hl : fs.length ≤ 900)
    (hno : PySem.W.findIn X.K (.ref C) f = some none) (ry : RelV y u)
    (h : ∀ s', Inv X pins σ (upd H dx (exd dx ((f, y) :: fs))) s' → Q () s') : wpAny (model X.prog X.w) A (setAttr (.ref a) f u) Q E s := by
  obtain ⟨cd, hcd, hm, hh⟩ := T.clsIn
  obtain ⟨t1, ho⟩ := exo_at I.hok e
  obtain ⟨mA, hns, rel⟩ := exd_at I.hok ed
  have hw := within_of rel
  obtain ⟨hp, g, d, t, os⟩ := s
  obtain ⟨oD, _, _, hoD, _, _⟩ := hns.count hw
  refine PySem.W.set_plain I.kIn (od := some oD) ⟨ho, rfl, rfl, hoD⟩ T.sa ?_
  refine xo_old I.kIn ho hns hw (by rw [List.length_map]; omega) hcd hm hh hno fun h' tk' k hn => ?_
  obtain ⟨o, es, ep, eo, er⟩ := id hn
  exact h _ (I.write (t' := tk') (x := dx) (e := dx) (by rw [ed]; exact True.intro) (.inl rfl) k ⟨o, eo⟩ (exd_ok hn (relO_put ry rel)))
end
/-! ### the rules -/
/-- self.f = e -/
def tXst (K : PySem.W.Frag) (f : Str) (to te : TE) : TS := fun D σ H => te σ H fun y H1 => to σ H1 fun x H2 => ∃ a C : Addr, x = .ref a ∧ XC K C ∧ PySem.W.findIn K (.ref C) f = some none ∧
  ((H2 a = some (exo a C none) ∧ ∀ dx, H2 dx = none → dx ≠ a → D.nx σ (upd (upd H2 dx (exd dx [(f, y)])) a (exo a C (some dx)))) ∨
    ∃ (dx : Addr) (fs : List (Str × V)), H2 a = some (exo a C (some dx)) ∧ H2 dx = some (exd dx fs) ∧ fs.length ≤ 900 ∧ D.nx σ (upd H2 dx (exd dx ((f, y) :: fs))))
/-- C(e, ..) as a value: a new object, then its own __init__ -/
def tXmk (C : Addr) (sp : Sp) (ta : TA) : TE := fun σ H Q => ta σ H fun vs H1 => vs.length ≤ 1000 ∧ ∀ a, H1 a = none → sp (.ref a :: vs) (upd H1 a (exo a C none)) (fun v H2 => v = .non ∧ Q (.ref a) H2) (fun _ _ _ => False)
/-- e.f -/
def tXat (K : PySem.W.Frag) (f : Str) (te : TE) : TE := fun σ H Q => te σ H fun x H1 => ∃ (a C dd : Addr) (fs : List (Str × V)) (v : V), x = .ref a ∧ XC K C ∧ PySem.W.findIn K (.ref C) f = some none ∧
  H1 a = some (exo a C (some dd)) ∧ H1 dd = some (exd dd fs) ∧ fs.lookup f = some v ∧ Q v H1
/-- isinstance(e, c) -/
def rXis (K : PySem.W.Frag) : List V → Hp → VK → Prop := fun xs H Q => ∃ (a C dd : Addr) (fs : List (Str × V)) (c : V) (u : Value) (b : Bool), xs = [.ref a, c] ∧ ClsV c u ∧ XC K C ∧ XG K ∧ H a = some (exo a C (some dd)) ∧ H dd = some (exd dd fs) ∧ PySem.W.kitOne K (.ref C) u = some b ∧ Q (.bl b) H
section
variable {X : Cx} {o e : Expr} {es : List Expr} {to te : TE} {ta : TA} {f x : Str} {p p' pos : Pos} {CX : CXT} {C fI : Addr} {k : Nat} {fd : FuncData} {ps : List Str} {sp : Sp}
theorem ps_xst (ho : PE X o to) (he : PE X e te) (hs : swapsWith e (some (.Attribute o f p')) pos.line X.env = pure false := by rfl) : PS X (.Assign [.Attribute o f p'] e pos) (tXst X.K f to te) := by
  refine ⟨fun pins s σ H D I h => ?_⟩
  refine plainObj_wpAny_Assign_Attribute ?_ hs
  refine thn (he.run pins s σ H _ I h) fun v s1 ⟨y, H1, I1, r1, q1⟩ => ?_
  refine thn (ho.run pins s1 σ H1 _ I1 q1) fun u s2 ⟨x, H2, I2, r2, a, C, ex, T, hno, q⟩ => ?_
  subst ex
  obtain rfl : u = Value.ref a := r2
  rcases q with ⟨ea, q⟩ | ⟨dx, fs, ea, ed, hl, q⟩
  · exact xst_new T I2 ea hno r1 fun dx s' n ne J => ⟨σ, _, J, q dx n ne⟩
  · exact xst_old T I2 ea ed hl hno r1 fun s' J => ⟨σ, _, J, q⟩
/-- where e stands with its dict -/
theorem x_inst {pins : List (Addr × Obj)} {σ : L2.St} {H : Hp} {s : Shared} {a C dd : Addr} {fs : List (Str × V)} (I : Inv X pins σ H s) (ea : H a = some (exo a C (some dd))) (ed : H dd = some (exd dd fs)) :
    ∃ (ox od : Obj) (mA : Str → Option Value), PySem.W.InstAt s.heap a ox C (some od) ∧ (∀ n, PySem.W.lookIn n od = some (mA n)) ∧ ∀ n, RelO (fs.lookup n) (mA n) := by
  obtain ⟨t1, ho⟩ := exo_at I.hok ea
  obtain ⟨mA, hns, rel⟩ := exd_at I.hok ed
  obtain ⟨od, hd, hl⟩ := lookIn_ns hns
  exact ⟨_, od, mA, ⟨ho, rfl, rfl, hd⟩, hl, rel⟩
theorem pe_xat (he : PE X e te) (hb : attributeBase e f X.env (eval e X.env) = eval e X.env := by rfl) : PE X (.Attribute e f pos) (tXat X.K f te) := by
  refine ⟨fun pins s σ H Q I h => ?_⟩
  refine attr_of hb (thn (he.run pins s σ H _ I h) fun u s1 hh => ?_)
  obtain ⟨x, H1, I1, rx, a, C, dd, fs, v, ex, T, hno, ea, ed, l, q⟩ := hh
  subst ex
  obtain rfl : u = Value.ref a := rx
  obtain ⟨ox, od, mA, J, hl, rel⟩ := x_inst I1 ea ed
  obtain ⟨cd, hcd, _, hdd⟩ := T.clsIn
  obtain ⟨u, hu, ru⟩ := RelO.some_of (v := v) (o := mA f) (by rw [← l]; exact rel f)
  refine HandSPX.exc_get I1.kIn J T.ga T.gg T.exC (PySem.W.findObj_own (attr := none) ?_ hno rfl (by rw [hl, hu])) (handed_of ru) ⟨v, H1, I1.tok _, ru, q⟩
  show (PySem.W.clsIn X.K C).any (·.hasDict) = true
  rw [hcd]
  exact hdd
theorem pe_xatC {K : PySem.W.Frag} (hK : X.K = K) (he : PE X e te) (hb : attributeBase e f X.env (eval e X.env) = eval e X.env := by rfl) : PE X (.Attribute e f pos) (tXat K f te) := by
  subst hK
  exact pe_xat he hb
theorem call_xis : CallR X (.builtin "isinstance") (rXis X.K) := by
  intro pins s σ H xs us Q I r h
  obtain ⟨a, C, dd, fs, c, u, b, rfl, k, T, G, ea, ed, e, q⟩ := h
  obtain ⟨u1, u2, rfl, r1, r2⟩ := vals2 r
  have e2 := k.eq r2
  subst e2
  obtain rfl : u1 = Value.ref a := r1
  obtain ⟨ox, od, mA, J, _, _⟩ := x_inst I ea ed
  obtain ⟨cd, hcd, _, _⟩ := T.clsIn
  exact PySem.W.kia_one (PySem.W.kitx_exc (by rw [hcd]; rfl) T.ga T.gg T.exC T.ca G.cn G.ct T.mo) I.kIn J e (fun z => nomatch z) fun tk => ⟨.bl b, H, I.tok tk, rfl, q⟩
theorem run_xmk {pins : List (Addr × Obj)} {σ : L2.St} {H : Hp} {s : Shared} {Q : VK} {us : List Value} {vs : List V} (T : XC X.K C) (iC : PySem.W.findIn X.K (.ref C) "__init__" = some (some (.ref fI))) (tI : PySem.W.typeIn X.K (.ref fI) = some (.type "function"))
    (F1 : FnOk X.prog X.w X.K X.mg X.base CX k fI fd ps sp) (hr : Room (k + 1) X.A) (hb : Binds X.K fd ps []) (hx : Passes CX X (fun _ _ _ => False)) (I : Inv X pins σ H s) (r : Vals vs us) (hz : vs.length ≤ 1000)
    (h : ∀ a, H a = none → sp (.ref a :: vs) (upd H a (exo a C none)) (fun v H2 => v = .non ∧ Q (.ref a) H2) (fun _ _ _ => False)) :
    wpAny (model X.prog X.w) X.A (call (.ref C) us) (EP X pins σ Q) X.xe s := by
  obtain ⟨B, newId, initId, bmB, nm, q, N, bs, bm, sn, sub, ab, col, dd, k0, k1, k2, k3, k5, F, hT, hm, hC⟩ := T.cls
  obtain ⟨hp, g, dr, tk, os⟩ := s
  have hsz : hp.objs.size ≤ hp.objs.size + 1 := Nat.le_succ _
  have hq := h (hp.objs.size + 1) (I.hok.fresh hsz)
  have kk : ∀ b o, hp.get? b = some o → ((hp.push (PySem.W.kdv_tup us)).push (PySem.HandSPX.excO C hp.objs.size)).get? b = some o := fun b o e => Heap.get?_push_of_some _ (Heap.get?_push_of_some _ e)
  have hget : ((hp.push (PySem.W.kdv_tup us)).push (PySem.HandSPX.excO C hp.objs.size)).get? (hp.objs.size + 1) = some (PySem.HandSPX.excO C hp.objs.size) := by heap_get
  have I2 : Inv X pins σ (upd H (hp.objs.size + 1) (exo (hp.objs.size + 1) C none)) ⟨(hp.push (PySem.W.kdv_tup us)).push (PySem.HandSPX.excO C hp.objs.size), g, dr, tk, os⟩ := by
    refine I.laid (t' := tk) ?_ ?_ ?_
    · exact kk
    · exact hsz
    · exact exo_ok hget
  have r2 : Vals (V.ref (hp.objs.size + 1) :: vs) (Value.ref (hp.objs.size + 1) :: us) := .cons rfl r
  have hl : (Value.ref (hp.objs.size + 1) :: us ++ []).length = ps.length := by
    rw [List.append_nil, ← r2.length]
    exact F1.len _ _ _ _ hq
  have hus : us.length ≤ sizeLine := by
    rw [← Paired.length r]
    exact small (by omega)
  refine wpAny_call (PySem.HandSPX.call_own F hT (I.kIn _ _ hC) (PySem.W.looks_findIn I.kIn iC) (fun self => PySem.W.bind_fn I.kIn self tI) hus ?_)
  refine codeAny_mono (F1.run _ X.stack _ _ ⟨Value.ref (hp.objs.size + 1) :: us, []⟩ (Value.ref (hp.objs.size + 1) :: us) _ _ (fun _ _ _ => False) (hr.make C us []) (I2.env0.make C us []) ?_ r2 hq) fun r s' hq' => ?_
  · have := hb _ (Value.ref (hp.objs.size + 1) :: us) I2.kIn hl
    rw [List.append_nil] at this
    exact this
  cases r with
  | error er => exact hx pins σ _ _ er s' I2 hq'
  | ok fl =>
    cases fl with
    | ret u =>
      obtain ⟨v, H2, I3, rv, ev, q3⟩ := I2.after hq'
      subst ev
      refine ⟨rv, V.ref (hp.objs.size + 1), H2, I3, rfl, q3⟩
    | next => exact False.elim hq'
    | brk => exact False.elim hq'
    | cont => exact False.elim hq'
theorem pe_xmk (T : XC X.K C) (iC : PySem.W.findIn X.K (.ref C) "__init__" = some (some (.ref fI))) (tI : PySem.W.typeIn X.K (.ref fI) = some (.type "function"))
    (F1 : FnOk X.prog X.w X.K X.mg X.base CX k fI fd ps sp) (hr : Room (k + 1) X.A) (hb : Binds X.K fd ps []) (hx : Passes CX X (fun _ _ _ => False)) (hg : Gl X x) (hm : X.mg x = some (.ref C)) (ha : PA X (e :: es) ta)
    (hdb : (x == ("__debug__" : Str)) = false := by decide) (he : starEach (e :: es) X.env = (false, eval e X.env) :: starEach es X.env := by rfl) (hpl : (backTo pos (starEach es X.env)).any (·.1) = false := by rfl) :
    PE X (.Call (.Name x p) (e :: es) [] pos) (tXmk C sp ta) := by
  refine ⟨fun pins s σ H Q I h => ?_⟩
  refine wpAny_Call_Name_kw (ld_glob I hg hm ?_ hdb)
  refine PySem.W.callWith_K (h₀ := X.base) I.ok.mod.kin T.kC (thn (ha.run pos pins s σ H _ I h) fun us s1 ⟨vs, H1, I1, r1, hz, q1⟩ => ⟨I1.kIn, ?_⟩) he hpl
  exact run_xmk T iC tI F1 hr hb hx I1 r1 hz q1
theorem pe_xmk0 (T : XC X.K C) (iC : PySem.W.findIn X.K (.ref C) "__init__" = some (some (.ref fI))) (tI : PySem.W.typeIn X.K (.ref fI) = some (.type "function"))
    (F1 : FnOk X.prog X.w X.K X.mg X.base CX k fI fd ps sp) (hr : Room (k + 1) X.A) (hb : Binds X.K fd ps []) (hx : Passes CX X (fun _ _ _ => False)) (hg : Gl X x) (hm : X.mg x = some (.ref C))
    (hdb : (x == ("__debug__" : Str)) = false := by decide) :
    PE X (.Call (.Name x p) [] [] pos) (tXmk C sp tNil) := by
  refine ⟨fun pins s σ H Q I h => ?_⟩
  refine wpAny_Call_Name_kw (ld_glob I hg hm ?_ hdb)
  exact PySem.W.callWith_K0 I.kIn T.kC (run_xmk (us := []) (vs := []) T iC tI F1 hr hb hx I .nil h.1 h.2)
end
/-! ### one Bool for a class's facts -/
def xcB (K : PySem.W.Frag) (bmB : List Value) (newId : String) (C : Addr) : Bool :=
  PySem.W.excInitIn K C bmB newId && (PySem.W.hasDictIn K C && (decide (PySem.W.findIn K (.ref C) "__setattr__" = some (some (.builtin "object.__setattr__"))) && (decide (PySem.W.findIn K (.ref C) "__getattribute__" = some (some (.builtin "BaseException.__getattribute__"))) &&
    (decide (PySem.W.findIn K (.ref C) "__getattr__" = some none) && (decide (PySem.W.findIn K (.ref C) "__class__" = some (some (.builtin "object.__class__"))) && PySem.W.keepIn K (.ref C))))))
theorem xc_of {K : PySem.W.Frag} {C : Addr} {B newId initId : String} {bmB : List Value} (F : ExcBaseFacts B newId initId bmB) (hob : bmB.contains (.type "object") = true) (hbx : bmB.contains (.type "BaseException") = true)
    (hp : ∀ self : Value, PySem.refuseLoop self "__setattr__" bmB = pure ()) (h : xcB K bmB newId C = true) : XC K C := by
  unfold xcB at h
  simp only [Bool.and_eq_true, decide_eq_true_eq] at h
  obtain ⟨h1, h2, h3, h4, h5, h6, h7⟩ := h
  unfold PySem.W.excInitIn at h1
  split at h1
  case h_2 => cases h1
  rename_i dd cd sl ho
  split at h1
  case h_2 => cases h1
  rename_i C' bm k0 k1 k2 k3 n k5 hm hs
  simp only [Bool.and_eq_true, beq_iff_eq, Bool.not_eq_true'] at h1
  obtain ⟨⟨⟨e1, e2⟩, hdel⟩, ht⟩ := h1
  subst e1 e2
  obtain ⟨nm, bs, mro, ns, qn, hd, sn, sub, ab, col, del⟩ := cd
  dsimp only at hm hdel
  subst hm hdel
  obtain rfl : hd = true := by
    have z : (PySem.W.clsIn K C').any (·.hasDict) = true := h2
    unfold PySem.W.clsIn at z
    rw [ho] at z
    exact z
  obtain rfl : sl = #[k0, k1, k2, k3, some (.builtin n), k5] := by
    obtain ⟨l⟩ := sl
    simp only at hs
    rw [hs]
  have hc : ∀ T : String, bm.contains (.type T) = bmB.contains (.type T) := fun T => PySem.W.excTail_contains T _ ht
  have mo : ∀ T : String, bmB.contains (.type T) = true → PySem.W.mroIn K C' (.type T) = some true := fun T hT => by
    unfold PySem.W.mroIn PySem.W.clsIn
    rw [ho, Option.bind_some]
    show (if ((.ref C' : Value) :: bm).isEmpty = true then none else some (((.ref C' : Value) :: bm).contains (.type T))) = _
    rw [if_neg (by show ¬ (false = true); decide), List.contains_cons, hc, hT, Bool.or_true]
  refine ⟨⟨B, n, initId, bmB, nm, qn, ns, bs, bm, sn, sub, ab, col, dd, k0, k1, k2, k3, k5, F, hc, ?_, ho⟩, h3, h4, h5, h6, h7, mo _ hbx, mo _ hob⟩
  refine ⟨rfl, ?_, fun self => ?_⟩
  · rw [List.contains_cons, hc, hob, Bool.or_true]
  · rw [PySem.refuseLoop_ref]
    exact PySem.W.excTail_pass self (hp self) _ ht
theorem xc_ve {K : PySem.W.Frag} {C : Addr} (h : xcB K veM "ValueError.__new__" C = true) : XC K C := xc_of F.excBase_ValueError (by decide +kernel) (by decide +kernel) (fun self => PySem.F.store_ValueError.passes self) h
theorem xc_le {K : PySem.W.Frag} {C : Addr} (h : xcB K leM "LookupError.__new__" C = true) : XC K C := xc_of F.excBase_LookupError (by decide +kernel) (by decide +kernel) (fun self => PySem.F.store_LookupError.passes self) h
theorem xc_ie {K : PySem.W.Frag} {C : Addr} (h : xcB K ieM "IndexError.__new__" C = true) : XC K C := xc_of F.excBase_IndexError (by decide +kernel) (by decide +kernel) (fun self => PySem.F.store_IndexError.passes self) h
end Bl

/-! the errors of the package: codes, fields; an error made; what a law reads off it -/
namespace Bl
open PySem L2
def rows : List (Str × List Str) := [("InvalidName", ["given"]), ("InvalidColumn", ["at"]), ("InvalidSide", ["at"]), ("InvalidKey", ["given"]), ("InvalidStep", ["at"]), ("InvalidTest", ["given"]), ("InvalidThing", ["given"]), ("InvalidSetting", ["given"]),
  ("InvalidWord", ["given"]), ("InvalidNumber", ["given"]), ("InvalidText", ["line"]), ("InvalidCommand", ["at"]), ("DuplicateName", ["name"]), ("SideTaken", ["taken"]), ("TooMany", ["most"]), ("Full", ["most"]),
  ("InvalidRow", ["table", "at"]), ("Torn", ["one", "other"]), ("OtherProgram", []), ("Untold", []), ("UnknownName", ["name"]), ("UnknownColumn", ["name"]), ("UnknownRow", ["number"]), ("NothingLeft", [])]
structure NoF (K : PySem.W.Frag) (C : Addr) (r : Str × List Str) : Prop where
  code : PySem.W.findIn K (.ref C) "code" = some none
  field : ∀ f ∈ r.2, PySem.W.findIn K (.ref C) f = some none
/-! an error that stands -/
def mkF (r : Str × List Str) (ys : List V) : List (Str × V) := ("code", .str r.1) :: (r.2.zip ys).reverse
structure InitD (H H' : Hp) (a C dx : Addr) (fs : List (Str × V)) : Prop where
  ne : dx ≠ a
  fr : H dx = none
  oa : H' a = some (exo a C (some dx))
  od : H' dx = some (exd dx fs)
  el : ∀ b, b ≠ a → b ≠ dx → H' b = H b
def spI (K : PySem.W.Frag) (C : Addr) (r : Str × List Str) : Sp := fun vs H Q _ => ∃ (a : Addr) (ys : List V), vs = .ref a :: ys ∧ ys.length = r.2.length ∧ H a = some (exo a C none) ∧ ∀ (dx : Addr) (H' : Hp), InitD H H' a C dx (mkF r ys) → Q .non H'
section
variable {K : PySem.W.Frag} {C a : Addr} {cn f g : Str} {H : Hp} {Q : VK} {ys : List V} {n : Str}
theorem init0 (T : XC K C) (N : NoF K C (cn, [])) (hl : ys.length = 0) (ea : H a = some (exo a C none)) (k : ∀ (dx : Addr) (H' : Hp), InitD H H' a C dx (mkF (cn, []) ys) → Q .non H') :
    (tXst K "code" (tVar 0) (tC (.str cn))) { nx := fun _ H' => Q .non H', rt := Q } [some (.ref a)] H := by
  obtain rfl := List.eq_nil_of_length_eq_zero hl
  refine ⟨_, rfl, a, C, rfl, T, N.code, .inl ⟨ea, fun dx hd ne => k dx _ ⟨ne, hd, upd_same, ?_, fun b b1 b2 => ?_⟩⟩⟩
  · rw [upd_ne ne, upd_same]
    rfl
  · rw [upd_ne b1, upd_ne b2]
theorem init1 {y : V} (T : XC K C) (N : NoF K C (cn, [f])) (ea : H a = some (exo a C none)) (k : ∀ (dx : Addr) (H' : Hp), InitD H H' a C dx (mkF (cn, [f]) [y]) → Q .non H') :
    (tSeq (tXst K f (tVar 0) (tVar 1)) (tXst K "code" (tVar 0) (tC (.str cn)))) { nx := fun _ H' => Q .non H', rt := Q } [some (.ref a), some y] H := by
  refine ⟨_, rfl, _, rfl, a, C, rfl, T, N.field f List.mem_cons_self, .inl ⟨ea, fun dx hd ne => ?_⟩⟩
  refine ⟨_, rfl, a, C, rfl, T, N.code, .inr ⟨dx, [(f, y)], upd_same, ?_, (by show 1 ≤ 900; decide), k dx _ ⟨ne, hd, ?_, upd_same, fun b b1 b2 => ?_⟩⟩⟩
  · rw [upd_ne ne, upd_same]
  · rw [upd_ne ne.symm, upd_same]
  · rw [upd_ne b2, upd_ne b1, upd_ne b2]
theorem init2 {y z : V} (T : XC K C) (N : NoF K C (cn, [f, g])) (ea : H a = some (exo a C none)) (k : ∀ (dx : Addr) (H' : Hp), InitD H H' a C dx (mkF (cn, [f, g]) [y, z]) → Q .non H') :
    (tSeq (tXst K f (tVar 0) (tVar 1)) (tSeq (tXst K g (tVar 0) (tVar 2)) (tXst K "code" (tVar 0) (tC (.str cn))))) { nx := fun _ H' => Q .non H', rt := Q } [some (.ref a), some y, some z] H := by
  refine ⟨_, rfl, _, rfl, a, C, rfl, T, N.field f List.mem_cons_self, .inl ⟨ea, fun dx hd ne => ?_⟩⟩
  refine ⟨_, rfl, _, rfl, a, C, rfl, T, N.field g (List.mem_cons_of_mem _ List.mem_cons_self), .inr ⟨dx, [(f, y)], upd_same, ?_, (by show 1 ≤ 900; decide), ?_⟩⟩
  · rw [upd_ne ne, upd_same]
  refine ⟨_, rfl, a, C, rfl, T, N.code, .inr ⟨dx, [(g, z), (f, y)], ?_, upd_same, (by show 2 ≤ 900; decide), k dx _ ⟨ne, hd, ?_, upd_same, fun b b1 b2 => ?_⟩⟩⟩
  · rw [upd_ne ne.symm, upd_same]
  · rw [upd_ne ne.symm, upd_ne ne.symm, upd_same]
  · rw [upd_ne b2, upd_ne b2, upd_ne b1, upd_ne b2]
theorem ini0 (T : XC K C) (N : NoF K C (cn, [])) (hl : ys.length = 0) (ea : H a = some (exo a C none)) (k : ∀ (dx : Addr) (H' : Hp), InitD H H' a C dx (mkF (cn, []) ys) → Q .non H') :
    (tXst K "code" (tVar 0) (tC (.str cn))) { nx := fun _ H' => Q .non H', rt := Q } (start ["self"] (.ref a :: ys)) H := by
  obtain rfl := List.eq_nil_of_length_eq_zero hl
  exact init0 T N rfl ea k
theorem ini1 (T : XC K C) (N : NoF K C (cn, [f])) (hl : ys.length = 1) (ea : H a = some (exo a C none)) (k : ∀ (dx : Addr) (H' : Hp), InitD H H' a C dx (mkF (cn, [f]) ys) → Q .non H') :
    (tSeq (tXst K f (tVar 0) (tVar 1)) (tXst K "code" (tVar 0) (tC (.str cn)))) { nx := fun _ H' => Q .non H', rt := Q } (start ["self", f] (.ref a :: ys)) H := by
  match ys, hl with
  | [y], _ => exact init1 T N ea k
theorem ini2 (T : XC K C) (N : NoF K C (cn, [f, g])) (hl : ys.length = 2) (ea : H a = some (exo a C none)) (k : ∀ (dx : Addr) (H' : Hp), InitD H H' a C dx (mkF (cn, [f, g]) ys) → Q .non H') :
    (tSeq (tXst K f (tVar 0) (tVar 1)) (tSeq (tXst K g (tVar 0) (tVar 2)) (tXst K "code" (tVar 0) (tC (.str cn))))) { nx := fun _ H' => Q .non H', rt := Q } (start ["self", f, g] (.ref a :: ys)) H := by
  match ys, hl with
  | [y, z], _ => exact init2 T N ea k
end
def l1 : List V := [.str "InvalidName", .str "InvalidKey", .str "InvalidTest", .str "InvalidThing", .str "InvalidSetting", .str "InvalidWord", .str "InvalidNumber"]
def l2 : List V := [.str "InvalidColumn", .str "InvalidSide", .str "InvalidStep", .str "InvalidCommand"]
def l5 : List V := [.str "DuplicateName", .str "UnknownName", .str "UnknownColumn"]
def l6 : List V := [.str "TooMany", .str "Full"]
def oneR (r : Str × List Str) (f : Str) : Bool := decide (r.2 = [f])
def twoR (r : Str × List Str) (f g : Str) : Bool := decide (r.2 = [f, g])
def fieldR (r : Str × List Str) : Bool :=
  if inV (.str r.1) l1 = true then oneR r "given" else
  if inV (.str r.1) l2 = true then oneR r "at" else
  if decide (V.str r.1 = V.str "InvalidRow") = true then twoR r "table" "at" else
  if decide (V.str r.1 = V.str "Torn") = true then twoR r "one" "other" else
  if inV (.str r.1) l5 = true then oneR r "name" else
  if inV (.str r.1) l6 = true then oneR r "most" else
  if decide (V.str r.1 = V.str "SideTaken") = true then oneR r "taken" else
  if decide (V.str r.1 = V.str "UnknownRow") = true then oneR r "number" else
  if decide (V.str r.1 = V.str "InvalidText") = true then oneR r "line" else decide (r.2 = [])
theorem fieldR_all : rows.all fieldR = true := by decide +kernel
/-- the one field, or both -/
def datOf : List PyData → PyData
  | [] => .none
  | [d] => d
  | ds => .tuple ds
section
variable {K : PySem.W.Frag} {r : Str × List Str} {f g : Str} {y z : V} {ys : List V}
theorem lk_one (hf : r.2 = [f]) (hc : (f == ("code" : Str)) = false) : (mkF r [y]).lookup f = some y := by
  unfold mkF
  rw [hf]
  show List.lookup f [("code", .str _), (f, y)] = some y
  simp [List.lookup, hc]
theorem lk_fst (hf : r.2 = [f, g]) (hc : (f == ("code" : Str)) = false) (hg : (f == g) = false) : (mkF r [y, z]).lookup f = some y := by
  unfold mkF
  rw [hf]
  show List.lookup f [("code", .str _), (g, z), (f, y)] = some y
  simp [List.lookup, hc, hg]
theorem lk_snd (hf : r.2 = [f, g]) (hc : (g == ("code" : Str)) = false) : (mkF r [y, z]).lookup g = some z := by
  unfold mkF
  rw [hf]
  show List.lookup g [("code", .str _), (g, z), (f, y)] = some z
  simp [List.lookup, hc]
theorem nof_one {C : Addr} (N : NoF K C r) (hf : r.2 = [f]) : PySem.W.findIn K (.ref C) f = some none := N.field f (by rw [hf]; exact List.mem_cons_self)
theorem nof_fst {C : Addr} (N : NoF K C r) (hf : r.2 = [f, g]) : PySem.W.findIn K (.ref C) f = some none := N.field f (by rw [hf]; exact List.mem_cons_self)
theorem nof_snd {C : Addr} (N : NoF K C r) (hf : r.2 = [f, g]) : PySem.W.findIn K (.ref C) g = some none := N.field g (by rw [hf]; exact List.mem_cons_of_mem _ List.mem_cons_self)
theorem one_of (h5 : ys.length = r.2.length) (hf : r.2 = [f]) : ∃ y, ys = [y] := by
  rw [hf] at h5
  match ys, h5 with
  | [y], _ => exact ⟨y, rfl⟩
theorem two_of (h5 : ys.length = r.2.length) (hf : r.2 = [f, g]) : ∃ y z, ys = [y, z] := by
  rw [hf] at h5
  match ys, h5 with
  | [y, z], _ => exact ⟨y, z, rfl⟩
theorem nix_of (h5 : ys.length = r.2.length) (hf : r.2 = []) : ys = [] := by
  rw [hf] at h5
  exact List.eq_nil_of_length_eq_zero h5
theorem dp_one {H : Hp} {ds : List PyData} (h : DpAll K H [y] ds) : Dp K H y (datOf ds) := by
  cases h with
  | cons h1 h2 =>
    cases h2
    exact h1
theorem dp_two {H : Hp} {p : Addr} {ds : List PyData} (h : DpAll K H [y, z] ds) (s : SqT K H p [y, z]) : Dp K H (.ref p) (datOf ds) := by
  cases h with
  | cons h1 h2 =>
    cases h2 with
    | cons h2 h3 =>
      cases h3
      exact .tup s (.cons h1 (.cons h2 .nil))
end
/-- the error in hand: of the class at C, a row of the table, made of ys -/
structure InHand (K : PySem.W.Frag) (H : Hp) (cls : Value) (d : Option Addr) (r : Str × List Str) (ys : List V) : Prop where
  ex : ∃ C dd : Addr, cls = .ref C ∧ d = some dd ∧ XC K C ∧ NoF K C r ∧ r ∈ rows ∧ ys.length = r.2.length ∧ H dd = some (.xd (mkF r ys))
theorem InHand.mono {K : PySem.W.Frag} {H H' : Hp} {cls : Value} {d : Option Addr} {r : Str × List Str} {ys : List V} (h : InHand K H cls d r ys) (e : Same H H') : InHand K H' cls d r ys := by
  obtain ⟨C, dd, h1, h2, h3, h4, h5, h6, h7⟩ := h.ex
  exact ⟨C, dd, h1, h2, h3, h4, h5, h6, e _ _ h7⟩
def spFieldH (K : PySem.W.Frag) : Addr → Value → Option Addr → Sp := fun a cls d vs H Q _ => ∃ (r : Str × List Str) (ys : List V) (ds : List PyData), vs = [.ref a] ∧ InHand K H cls d r ys ∧ DpAll K H ys ds ∧
  ∀ (v : V) (H' : Hp), Same H H' → Dp K H' v (datOf ds) → Q v H'
end Bl

/-! what a def that catches asks: the tuple of classes, the error in hand, a def called there -/
namespace Bl
open PySem L2 PySem.Spec PyProof.Rows
theorem fly_grow {B h h' : Heap} {l : List Env} {a : Addr} {Z : Obj → Prop} (k : ∀ b o, h.get? b = some o → h'.get? b = some o) (fl : HandSPX.FlyingZ B l a Z h) : HandSPX.FlyingZ B l a Z h' := by
  obtain ⟨st, na, ff, oe, vs, T, oT, ts, h1, h2, h3, h4, h5, h6, h7, h8, h9⟩ := fl
  refine ⟨fun b o e => k _ _ (st b o e), na, ?_, oe, vs, T, oT, ts, k _ _ h1, h2, h3, h4, h5, h6, k _ _ h7, h8, h9⟩
  exact Heap.FunFrames.of_keeps (fun b o e _ => ⟨o, k _ _ e, rfl⟩) ff
/-- what the clause 'except (x1, x2, x3) as n' wishes, n in slot i: it is one of them -/
def wAs3 (K : PySem.W.Frag) (cs : List Value) (l i : Nat) (ts : Addr → Value → Option Addr → TS) (D : Ends) : WX := fun cls d σ H =>
  PySem.W.exmAny K cls cs = some true ∧ ∀ a, H a = none → σ.length = l →
    ts a cls d { nx := fun τ G => D.nx (τ.set i none) G, rt := D.rt, bk := fun τ G => D.bk (τ.set i none) G, ct := fun τ G => D.ct (τ.set i none) G } (σ.set i (some (.ref a))) H
section
variable {X : Cx} {x1 x2 x3 n : Str} {c1 c2 c3 : Value} {i kk : Nat} {body suite : List Stmt} {b₀ : Stmt} {p1 p2 p3 tp pos pos' : Pos} {tb : WX → TS} {ts : Addr → Value → Option Addr → TS}
theorem names_ok {x : Str} {c : Value} {np : Pos} {pins : List (Addr × Obj)} {σ : L2.St} {H : Hp} {s : Shared} {Q : Value → Shared → Prop} (hc : Names X x c) (I : Inv X pins σ H s) (q : Q c s) {E : Value → Shared → Prop} :
    wpAny (model X.prog X.w) X.A (eval (.Name x np) X.env) Q E s := by
  obtain ⟨hg, hd, hm | ⟨hm, hv, hn⟩⟩ := hc
  · exact ld_glob I hg hm q hd
  · exact ld_blt I hg hm hv q hn hd
theorem ps_try_as3 (hs : X.stack = X.env :: X.outer) (hf : X.env.frame = some X.env.locals) (hN : X.N.Nodup) (hi : X.N[i]? = some n) (hln : X.env.kindOf n = some .local)
    (n1 : Names X x1 c1) (n2 : Names X x2 c2) (n3 : Names X x3 c3)
    (hb : ∀ (W : WX) (pn : List (Addr × Obj)) (xe : Value → Shared → Prop), Takes (X.tr pn xe) W →
      PSs (X.tr pn xe) body (tb W))
    (hsu : ∀ (a : Addr) (oe : Obj) (cls : Value) (d : Option Addr) (pn : List (Addr × Obj)), Zc cls d oe →
      (∃ vs, oe.data = .fields vs) → PSs (X.suite a ((a, oe) :: pn)) (b₀ :: suite) (ts a cls d)) :
    PS X (.Try body [.ExceptHandler (some (.Tuple [.Name x1 p1, .Name x2 p2, .Name x3 p3] kk tp)) (some n) (b₀ :: suite) pos'] [] [] pos) (fun D σ H => tb (wAs3 X.K [c1, c2, c3] X.N.length i ts D) D σ H) := by
  refine ⟨fun pins s σ H D I h => ?_⟩
  have ok := I.ok
  have hfa : X.A.frames = some (X.env :: X.outer) := ok.frames.trans (congrArg some hs)
  refine wpAny_Try_except ?_
  refine wpAny_mono ((hb (wAs3 X.K [c1, c2, c3] X.N.length i ts D) (X.pn ++ pins) (fun e s₁ => wpAny (model X.prog X.w) X.A (noteFrame e X.env) (fun _ s₂ => wpAny (model X.prog X.w) X.A (setFlight e none) (fun _ s₃ =>
    wpAny (model X.prog X.w) X.A (handleBy e X.env [.ExceptHandler (some (.Tuple [.Name x1 p1, .Name x2 p2, .Name x3 p3] kk tp)) (some n) (b₀ :: suite) pos']) (SP X pins D) X.xe s₃) X.xe s₂) X.xe s₁) (fun u s' xx => ?_)).run [] s σ H D (I.toTry _) h) (fun f s1 hsp => ?_) (fun e s1 he => he)
  · obtain ⟨a, B, sB, pins', σ', H', cls, d, rfl, J', nb, up, sky, na, os, ag, hb1, hgo⟩ := xx
    have J := J'.ofTry ok
    rw [show (X.tr (X.pn ++ pins) _).stack = X.env :: X.outer from hs] at sky
    show wpAny (model X.prog X.w) X.A (noteFrame (.ref a) X.env) _ _ _
    refine Sky.land Zc.steady hfa hf sky fun h3 fa3 sl3 => ?_
    have K3 : Inv X pins σ' H' { s' with heap := h3 } := J.landed nb fa3.1 (up.trans sl3) os ag
    obtain ⟨ob3, fv3, at3, zc3, da3⟩ := fa3.there
    have apS : a ∉ frs (X.env :: X.outer) := fun hm => by
      obtain ⟨_, o', e', hnf⟩ := Heap.FunFrames.mem fa3.2.2.1 hm
      rw [at3] at e'
      cases e'
      exact hnf _ da3
    have apL : a ≠ X.env.locals := by
      intro z
      refine apS (List.mem_filterMap.mpr ⟨X.env, List.mem_cons_self, ?_⟩)
      rw [hf, z]
    have apF : a ∉ X.fs := by
      intro z
      obtain ⟨en, hen, qe⟩ := List.mem_filterMap.mp z
      exact apS (List.mem_filterMap.mpr ⟨en, .tail _ hen, qe⟩)
    have U3 := K3.suite at3 da3 na apL apF
    refine wpAny_handleBy_cons (codeAny_handlers_test ?_) (by intro q; cases q)
    have LT : PySem.W.Looks (model X.prog X.w) h3 (typeOf (.ref a)) cls := fun A Q E s k q =>
      wpAny_typeOf_ref (k _ _ at3) (by rw [zc3.1]; exact q)
    have kp : ∀ b o, h3.get? b = some o → (h3.push { cls := .type "tuple", data := .seq [c1, c2, c3].toArray }).get? b = some o :=
      fun _ _ z => Heap.get?_push_of_some _ z
    show wpAny (model X.prog X.w) (X.A.mark (some (.ref a))) (eval (.Tuple [.Name x1 p1, .Name x2 p2, .Name x3 p3] kk tp) X.env) _ _ _
    refine wpAny_Tuple ?_
    refine wpAny_items_cons (names_ok (X := X.suite a ((a, ob3) :: (X.pn ++ pins))) n1 U3 ?_)
    refine wpAny_items_cons (names_ok (X := X.suite a ((a, ob3) :: (X.pn ++ pins))) n2 U3 ?_)
    refine wpAny_items_cons (names_ok (X := X.suite a ((a, ob3) :: (X.pn ++ pins))) n3 U3 ?_)
    refine wpAny_items_nil ⟨by size_fits, ?_⟩
    have fa5 := fly_grow kp fa3
    refine (PySem.W.exm_tup3 (K3.kIn.keeps kp) (LT.keeps kp) (Heap.get?_push_size h3 rfl) hb1).here ?_
    refine codeAny_handlers_suite_as ?_
    refine HandSPX.lands_againZ fa5 fun h4 fa4 sl4 => ?_
    have upk : h3.UpToSlots (h3.push { cls := .type "tuple", data := .seq [c1, c2, c3].toArray }) := fun b o e _ => ⟨o.slots, kp b o e⟩
    have K4 : Inv X pins σ' H' { s' with heap := h4 } := J.landed nb fa4.1 (((up.trans sl3).trans upk).trans sl4) os ag
    obtain ⟨ob4, fv4, at4, zc4, da4⟩ := fa4.there
    have U4 := K4.suite at4 da4 na apL apF
    refine store_ok (X := X.suite a ((a, ob4) :: (X.pn ++ pins))) (v := .ref a) U4 hN hi (.inl hln) rfl (fun s5 S5 => ?_) (.inr hln)
    refine wpAny_mono ((hsu a ob4 cls d (X.pn ++ pins) zc4 ⟨_, da4⟩).run [] s5 _ H' _ S5 (hgo a na J.len)) (fun f s6 hsp => ?_) (fun _ _ z => z.elim)
    have fin : ∀ {τ : L2.St} {G : Hp} {Q : Shared → Prop}, Inv (X.suite a ((a, ob4) :: (X.pn ++ pins))) [] τ G s6 → (∀ s7, Inv X pins (τ.set i none) G s7 → Q s7) →
        wpAny (model X.prog X.w) X.A (do bindName X.env n .none; unbindBehindTheSuite X.env n pos') (fun _ s7 => Q s7) X.xe s6 := fun S6 hq =>
      gone_ok (S6.unsuite ok) hN hi hln hq
    cases f with
    | ret u =>
      obtain ⟨v6, τ, G, S6, r6, q6⟩ := hsp
      exact fin S6 fun s7 J7 => ⟨_, _, _, J7, r6, q6⟩
    | next =>
      obtain ⟨τ, G, S6, q6⟩ := hsp
      exact fin S6 fun s7 J7 => ⟨_, _, J7, q6⟩
    | brk =>
      obtain ⟨τ, G, S6, q6⟩ := hsp
      exact fin S6 fun s7 J7 => ⟨_, _, J7, q6⟩
    | cont =>
      obtain ⟨τ, G, S6, q6⟩ := hsp
      exact fin S6 fun s7 J7 => ⟨_, _, J7, q6⟩
  · cases f with
    | ret u =>
      obtain ⟨v, τ, G, K1, r, q⟩ := hsp
      exact ⟨v, τ, G, K1.ofTry ok, r, q⟩
    | next =>
      obtain ⟨τ, G, K1, q⟩ := hsp
      exact wpAny_execs_nil ⟨τ, G, K1.ofTry ok, q⟩
    | brk =>
      obtain ⟨τ, G, K1, q⟩ := hsp
      exact ⟨τ, G, K1.ofTry ok, q⟩
    | cont =>
      obtain ⟨τ, G, K1, q⟩ := hsp
      exact ⟨τ, G, K1.ofTry ok, q⟩
end
/-! a def called in an except suite, with the error in hand -/
structure FnP (P : Program) (w : World) (K : PySem.W.Frag) (mg : Str → Option Value) (base : Heap) (k : Nat) (f : Addr) (fd : FuncData) (ps : List Str) (sp : Addr → Value → Option Addr → Sp) : Prop where
  len : ∀ a cls d vs H Q E, sp a cls d vs H Q E → vs.length = ps.length
  run : ∀ (A : Around) (outer : List Env) (s : Shared) (H : Hp) (args : Args) (us : List Value) (vs : List V) (Q : VK) (p : Addr × Obj) (cls : Value) (d : Option Addr), L2H.RoomH k A → L2H.PinOk outer H s p → Zc cls d p.2 →
    (∃ fv, p.2.data = .fields fv) → Env0 P w K mg base A outer s H → BindsTo s fd args (ps.zip us) → Vals vs us → sp p.1 cls d vs H Q E0 → codeAny (model P w) A (.call (.ref f) args) (CR CX0 outer P w H s Q E0) s
section
variable {P : Program} {w : World} {K : PySem.W.Frag} {mg : Str → Option Value} {base : Heap} {k : Nat} {f : Addr} {fd : FuncData} {N ps : List Str} {sp : Addr → Value → Option Addr → Sp} {x qual : Str} {st : Stmt}
theorem okP (F : Fun K x qual st f fd) (S : FnScope N ps (defScope st)) (len : ∀ a cls d vs H Q E, sp a cls d vs H Q E → vs.length = ps.length)
    (hbody : ∀ (cdv : Value) (A : Around) (outer : List Env) (s : Shared) (H : Hp) (vs : List V) (Q : VK) (p : Addr × Obj) (cls : Value) (d : Option Addr), Zc cls d p.2 → (∃ fv, p.2.data = .fields fv) →
      L2H.RoomH k (A.deeper (envOfC qual (defScope st) s.heap.objs.size f cdv)) → sp p.1 cls d vs H Q E0 →
      ∃ t, PSs (L2H.cxH CX0 P w K mg base N qual (defScope st) f cdv A outer s H E0 p) (defBody st) t ∧ t { nx := fun _ H' => Q .non H', rt := Q } (start N vs) H) : FnP P w K mg base (k + 1) f fd ps sp := by
  obtain ⟨oc, od, kV, doc, pm, an, cdv, ct, osl, rfl, lk, hcd⟩ := F.ex
  refine ⟨len, fun A outer s H args us vs Q p cls d hr hpin hz hf e0 hb r hsp => ?_⟩
  have hl := len _ _ _ _ _ _ _ hsp
  have KX : K.In s.heap := e0.mod.kin.keeps fun b o e => (e0.bs b o e).1
  have lim := e0.mod.nolimit.keeps (h' := s.heap) fun b o e => (e0.bs b o e).1
  refine codeAny_call_function hr.depth (KX _ _ lk) rfl S.co S.gen rfl (PySem.W.codeRec_of KX hcd) (hb _ _ _ _ ?_)
  refine wpAny_newFunctionEnv_cells S.kind (fun ⟨n, v⟩ hy => ?_) fun env he s1 x => ?_
  · rcases S.par n (List.of_mem_zip hy).1 with q | q
    · exact .inl q
    · exact .inr ⟨q, PySem.W.cellsFrom_some _ _ _ (.inl q)⟩
  subst he
  refine ⟨lim.keeps x.toInCall.keep, codeAny_func ?_⟩
  obtain ⟨t, ht, hq⟩ := hbody cdv A outer s H vs Q p cls d hz hf (hr.deeper _) hsp
  have I := L2H.inv_startH (CX := CX0) (E := E0) S hpin e0 hl r x
  refine wpAny_mono (ht.run [] s1 (start N vs) H _ I hq) (fun fl s' hs => ?_) fun e s' hs => hs
  cases fl with
  | ret u =>
    obtain ⟨v, τ, G, J, rv, q⟩ := hs
    exact ⟨v, G, J.os, J.bare, J.base, J.hok, rv, q⟩
  | next =>
    obtain ⟨τ, G, J, q⟩ := hs
    exact ⟨.non, G, J.os, J.bare, J.base, J.hok, rfl, q⟩
  | brk =>
    obtain ⟨_, _, _, q⟩ := hs
    exact q.elim
  | cont =>
    obtain ⟨_, _, _, q⟩ := hs
    exact q.elim
end
/-- f(e), e the error in hand: of the class cls, its dict d -/
def tCallP (sp : Addr → Value → Option Addr → Sp) (a : Addr) (cls : Value) (d : Option Addr) (t : TA) : TE := fun σ H Q => t σ H fun vs G => sp a cls d vs G Q E0
/-- e.f, e the error in hand -/
def tXp (K : PySem.W.Frag) (a : Addr) (cls : Value) (d : Option Addr) (f : Str) (te : TE) : TE := fun σ H Q => te σ H fun x G => ∃ (C dd : Addr) (fs : List (Str × V)) (v : V), x = .ref a ∧ cls = .ref C ∧ d = some dd ∧ XC K C ∧ PySem.W.findIn K (.ref C) f = some none ∧
  G dd = some (.xd fs) ∧ fs.lookup f = some v ∧ Q v G
section
variable {X : Cx} {e : Expr} {es : List Expr} {te : TE} {t : TA} {f x : Str} {p : Addr × Obj} {cls : Value} {d : Option Addr} {pos q : Pos} {k : Nat} {g : Addr} {fd : FuncData} {ps : List Str} {sp : Addr → Value → Option Addr → Sp}
theorem pe_xp (hp : p ∈ X.pn) (hz : Zc cls d p.2) (hf : ∃ fv, p.2.data = .fields fv) (he : PE X e te) (hb : attributeBase e f X.env (eval e X.env) = eval e X.env := by rfl) : PE X (.Attribute e f pos) (tXp X.K p.1 cls d f te) := by
  refine ⟨fun pins s σ H Q I h => ?_⟩
  refine attr_of hb (thn (he.run pins s σ H _ I h) fun u s1 hh => ?_)
  obtain ⟨x, G, I1, rx, C, dd, fs, v, ex, ec, ed, T, hno, ea, l, q⟩ := hh
  subst ex ec ed
  obtain rfl : u = Value.ref p.1 := rx
  obtain ⟨ha, _⟩ := I1.pin p (List.mem_append_left _ hp)
  obtain ⟨fv, hd⟩ := hf
  obtain ⟨mA, hns, hr⟩ := (show ObjOk X.prog X.w G s1.heap dd (.xd fs) from I1.hok dd _ ea)
  obtain ⟨od, ho, hl⟩ := lookIn_ns hns
  obtain ⟨u, hu, ru⟩ := RelO.some_of (v := v) (o := mA f) (by rw [← l]; exact hr f)
  have J : PySem.W.InstAt s1.heap p.1 p.2 C (some od) := ⟨ha, hz.1, by unfold PySem.W.notCls; rw [hd], by rw [hz.2]; exact ho⟩
  obtain ⟨cd, hcd, _, hdd⟩ := T.clsIn
  refine HandSPX.exc_get I1.kIn J T.ga T.gg T.exC (PySem.W.findObj_own (attr := none) ?_ hno rfl (by rw [hl, hu])) (handed_of ru) ⟨v, G, I1.tok _, ru, q⟩
  show (PySem.W.clsIn X.K C).any (·.hasDict) = true
  rw [hcd]
  exact hdd
theorem pe_callP (F : FnP X.prog X.w X.K X.mg X.base k g fd ps sp) (hr : L2H.RoomH k X.A) (hp : p ∈ X.pn) (hz : Zc cls d p.2) (hf : ∃ fv, p.2.data = .fields fv) (hg : Gl X x) (hm : X.mg x = some (.ref g))
    (hk : PySem.W.keepIn X.K (.ref g) = true) (hb : Binds X.K fd ps []) (ha : PA X (e :: es) t) (hdb : (x == ("__debug__" : Str)) = false := by decide)
    (he : starEach (e :: es) X.env = (false, eval e X.env) :: starEach es X.env := by rfl) (hpl : (backTo pos (starEach es X.env)).any (·.1) = false := by rfl) :
    PE X (.Call (.Name x q) (e :: es) [] pos) (tCallP sp p.1 cls d t) := by
  refine ⟨fun pins s σ H Q I h => ?_⟩
  refine wpAny_Call_Name_kw (ld_glob I hg hm ?_ hdb)
  refine PySem.W.callWith_K (h₀ := X.base) I.ok.mod.kin hk (thn (ha.run pos pins s σ H _ I h) fun us s1 ⟨vs, H1, I1, r, q1⟩ => ⟨I1.kIn, ?_⟩) he hpl
  have hl : us.length = ps.length := by
    rw [← r.length]
    exact F.len _ _ _ _ _ _ _ q1
  have b := hb s1 us I1.kIn (by rw [List.append_nil]; exact hl)
  rw [List.append_nil] at b
  have P1 := I1.pin p (List.mem_append_left _ hp)
  refine wpAny_call (codeAny_mono (F.run X.A X.stack s1 H1 ⟨us, []⟩ us vs Q p cls d hr ⟨P1.1, P1.2.1, fun hm => ?_, P1.2.2.2.2⟩ hz hf I1.env0 b r q1) fun r s' hq => ?_)
  · exact (List.mem_cons.mp (I1.stkSub p.1 hm)).elim P1.2.2.1 P1.2.2.2.1
  cases r with
  | error e => exact (show False from hq).elim
  | ok fl =>
    cases fl with
    | ret u => exact I1.after hq
    | next => exact hq.elim
    | brk => exact hq.elim
    | cont => exact hq.elim
end
end Bl
/-! an own error made to be raised, over any of the three bases -/
namespace Bl
open PySem L2 PySem.Spec PyProof.Rows
theorem XC.ty {K : PySem.W.Frag} {C : Addr} (T : XC K C) : PySem.W.typeIn K (.ref C) = some (.type "type") := by
  obtain ⟨_, _, _, _, _, _, _, _, _, _, _, _, _, _, _, _, _, _, _, _, _, _, hC⟩ := T.cls
  show (K.lookup C).map (·.cls) = _
  rw [hC]
  rfl
/-- C(e, ..), to be raised -/
def tMkX (C : Addr) (sp : Sp) (ta : TA) : L2.St → Hp → XK → Prop := fun σ H Q => ta σ H fun vs G => vs.length ≤ 1000 ∧ ∀ a, G a = none → sp (.ref a :: vs) (upd G a (exo a C none))
  (fun v G2 => v = .non ∧ ∃ (d : Addr) (fs : List (Str × V)), G2 a = some (exo a C (some d)) ∧ G2 d = some (exd d fs) ∧ G d = none ∧ Q (.ref C) (some d) (upd (del G2 a) d (.xd fs))) (fun _ _ _ => False)
section
variable {X : Cx} {CX : CXT} {e : Expr} {es : List Expr} {ta : TA} {x : Str} {C fI : Addr} {k : Nat} {fd : FuncData} {ps : List Str} {sp : Sp} {p pos : Pos}
theorem run_mkx {pins : List (Addr × Obj)} {σ : L2.St} {H : Hp} {s : Shared} {Q : XK} {us : List Value} {vs : List V} (T : XC X.K C) (iC : PySem.W.findIn X.K (.ref C) "__init__" = some (some (.ref fI))) (tI : PySem.W.typeIn X.K (.ref fI) = some (.type "function"))
    (F1 : FnOk X.prog X.w X.K X.mg X.base CX k fI fd ps sp) (hr : Room (k + 1) X.A) (hb : Binds X.K fd ps []) (hx : Passes CX X (fun _ _ _ => False)) (I : Inv X pins σ H s) (r : Vals vs us) (hz : vs.length ≤ 1000)
    (h : ∀ a, H a = none → sp (.ref a :: vs) (upd H a (exo a C none)) (fun v G2 => v = .non ∧ ∃ (d : Addr) (fs : List (Str × V)), G2 a = some (exo a C (some d)) ∧ G2 d = some (exd d fs) ∧ H d = none ∧ Q (.ref C) (some d) (upd (del G2 a) d (.xd fs))) (fun _ _ _ => False)) :
    wpAny (model X.prog X.w) X.A (call (.ref C) us) (MkP X pins σ Q) X.xe s := by
  obtain ⟨B, newId, initId, bmB, nm, q, N, bs, bm, sn, sub, ab, col, dd, k0, k1, k2, k3, k5, F, hT, hm, hC⟩ := id T.cls
  obtain ⟨hp, g, dr, tk, os⟩ := s
  have hsz : hp.objs.size ≤ hp.objs.size + 1 := Nat.le_succ _
  have hq := h (hp.objs.size + 1) (I.hok.fresh hsz)
  have kk : ∀ b o, hp.get? b = some o → ((hp.push (PySem.W.kdv_tup us)).push (PySem.HandSPX.excO C hp.objs.size)).get? b = some o := fun b o e =>
    Heap.get?_push_of_some _ (Heap.get?_push_of_some _ e)
  have hget : ((hp.push (PySem.W.kdv_tup us)).push (PySem.HandSPX.excO C hp.objs.size)).get? (hp.objs.size + 1) = some (PySem.HandSPX.excO C hp.objs.size) := by
    heap_get
  have I2 : Inv X pins σ (upd H (hp.objs.size + 1) (exo (hp.objs.size + 1) C none)) ⟨(hp.push (PySem.W.kdv_tup us)).push (PySem.HandSPX.excO C hp.objs.size), g, dr, tk, os⟩ := by
    refine I.laid (t' := tk) ?_ ?_ ?_
    · exact kk
    · exact hsz
    · exact exo_ok hget
  have hl : (Value.ref (hp.objs.size + 1) :: us ++ []).length = ps.length := by
    rw [List.append_nil, List.length_cons, ← r.length]
    exact F1.len _ _ _ _ hq
  have hus : us.length ≤ sizeLine := by
    rw [← Paired.length r]
    exact small (by omega)
  refine wpAny_call (PySem.HandSPX.call_own F hT (I.kIn _ _ hC) (PySem.W.looks_findIn I.kIn iC) (fun self => PySem.W.bind_fn I.kIn self tI) hus ?_)
  refine codeAny_mono (F1.run _ X.stack _ _ ⟨Value.ref (hp.objs.size + 1) :: us, []⟩ (Value.ref (hp.objs.size + 1) :: us) (V.ref (hp.objs.size + 1) :: vs) _ (fun _ _ _ => False) (hr.make C us []) (I2.env0.make C us []) ?_ (.cons rfl r) hq) fun r s' hq' => ?_
  · have := hb _ (Value.ref (hp.objs.size + 1) :: us) I2.kIn hl
    rw [List.append_nil] at this
    exact this
  cases r with
  | error er => exact hx pins σ _ _ er s' I2 hq'
  | ok fl =>
    cases fl with
    | ret u =>
      obtain ⟨v, G2, os2, bare2, un2, hok2, rv, ev, d, fs, ea, ed, hd1, q2⟩ := hq'
      subst ev
      obtain ⟨h2, g2, d2, t2, os'⟩ := s'
      exact ⟨rv, mk_end (raises_own T.exC T.ty) I hsz kk un2 hok2 os2 bare2 ea ed hd1 q2⟩
    | next => exact hq'.elim
    | brk => exact hq'.elim
    | cont => exact hq'.elim
theorem pmk_xc (T : XC X.K C) (iC : PySem.W.findIn X.K (.ref C) "__init__" = some (some (.ref fI))) (tI : PySem.W.typeIn X.K (.ref fI) = some (.type "function"))
    (F1 : FnOk X.prog X.w X.K X.mg X.base CX k fI fd ps sp) (hr : Room (k + 1) X.A) (hb : Binds X.K fd ps []) (hx : Passes CX X (fun _ _ _ => False)) (hg : Gl X x) (hm : X.mg x = some (.ref C)) (ha : PA X (e :: es) ta)
    (hdb : (x == ("__debug__" : Str)) = false := by decide) (he : starEach (e :: es) X.env = (false, eval e X.env) :: starEach es X.env := by rfl) (hpl : (backTo pos (starEach es X.env)).any (·.1) = false := by rfl) :
    PMk X (.Call (.Name x p) (e :: es) [] pos) (tMkX C sp ta) := by
  intro pins s σ H Q I h
  refine wpAny_Call_Name_kw (ld_glob I hg hm ?_ hdb)
  refine PySem.W.callWith_K (h₀ := X.base) I.ok.mod.kin T.kC (thn (ha.run pos pins s σ H _ I h) fun us s1 ⟨vs, H1, I1, r1, hz, q1⟩ => ⟨I1.kIn, ?_⟩) he hpl
  exact run_mkx T iC tI F1 hr hb hx I1 r1 hz q1
theorem pmk_xc0 (T : XC X.K C) (iC : PySem.W.findIn X.K (.ref C) "__init__" = some (some (.ref fI))) (tI : PySem.W.typeIn X.K (.ref fI) = some (.type "function"))
    (F1 : FnOk X.prog X.w X.K X.mg X.base CX k fI fd ps sp) (hr : Room (k + 1) X.A) (hb : Binds X.K fd ps []) (hx : Passes CX X (fun _ _ _ => False)) (hg : Gl X x) (hm : X.mg x = some (.ref C))
    (hdb : (x == ("__debug__" : Str)) = false := by decide) : PMk X (.Call (.Name x p) [] [] pos) (tMkX C sp tNil) := by
  intro pins s σ H Q I h
  refine wpAny_Call_Name_kw (ld_glob I hg hm ?_ hdb)
  exact PySem.W.callWith_K0 I.kIn T.kC (run_mkx (us := []) (vs := []) T iC tI F1 hr hb hx I .nil h.1 h.2)
end
end Bl
/-! a def whose own code object is known -/
namespace Bl
open PySem L2 PySem.Spec PyProof.Rows
section
variable {P : Program} {w : World} {K : PySem.W.Frag} {mg : Str → Option Value} {base : Heap} {k : Nat} {f : Addr} {fd : FuncData} {N ps : List Str} {sp : Sp} {x qual : Str} {st : Stmt}
theorem okC (F : Fun K x qual st f fd) (S : FnScope N ps (defScope st)) (len : ∀ vs H Q E, sp vs H Q E → vs.length = ps.length)
    (hbody : ∀ (cdv : Value) (A : Around) (outer : List Env) (s : Shared) (H : Hp) (vs : List V) (Q : VK) (E : XK), fd.code = cdv → Room k (A.deeper (envOfC qual (defScope st) s.heap.objs.size f cdv)) → sp vs H Q E →
      ∃ t, PSs (cxOf CX0 P w K mg base N qual (defScope st) f cdv A outer s H E).nox (defBody st) t ∧
        t { nx := fun _ G => Q .non G, rt := Q } (start N vs) H) : FnOk P w K mg base CX0 (k + 1) f fd ps sp := by
  obtain ⟨oc, od, kV, doc, pm, an, cdv, ct, osl, rfl, lk, hcd⟩ := F.ex
  refine fn_of lk hcd S len fun A outer s H vs Q E hr hsp => ?_
  obtain ⟨t, h, q⟩ := hbody cdv A outer s H vs Q E rfl hr hsp
  exact ⟨t, h.nox, q⟩
end
end Bl
namespace Bl
open PySem L2 PySem.Spec PyProof.Rows
/-- what a lambda's body may let out -/
theorem passes_lam {X : Cx} {A : Around} {outer : List Env} {s : Shared} {H : Hp} {E : XK} {scope : Scope} {f c' : Addr} : Passes (L2.CX X.prog X.w) (LamX.lamCx X A outer s H E scope f c') E :=
  passes_call (takes_of rfl rfl rfl rfl) fun _ _ _ _ h => h
/-- what a raising def's body may let out -/
theorem takes_ok {P : Program} {w : World} {K : PySem.W.Frag} {mg : Str → Option Value} {base : Heap} {N : List Str} {qual : Str} {scope : Scope} {f : Addr} {cd : Value} {A : Around} {outer : List Env} {s : Shared} {H : Hp} {E : XK} :
    Takes (cxOf (L2.CX P w) P w K mg base N qual scope f cd A outer s H E) (fun cls d _ G => E cls d G) := takes_of rfl rfl rfl rfl
theorem passes_ok {P : Program} {w : World} {K : PySem.W.Frag} {mg : Str → Option Value} {base : Heap} {N : List Str} {qual : Str} {scope : Scope} {f : Addr} {cd : Value} {A : Around} {outer : List Env} {s : Shared} {H : Hp} {E : XK} :
    Passes (L2.CX P w) (cxOf (L2.CX P w) P w K mg base N qual scope f cd A outer s H E) E := passes_call takes_ok fun _ _ _ _ h => h
end Bl

/-! an own error that is raised: what is known of its class, what the def's caller gets -/
namespace Bl
open PySem L2
def xqB (K : PySem.W.Frag) (C L M N : Addr) (fs : List Str) : Bool :=
  decide (PySem.W.findIn K (.ref C) "code" = some none) && (fs.all (fun f => decide (PySem.W.findIn K (.ref C) f = some none)) && decide (PySem.W.exmAny K (.ref C) [.ref L, .ref M, .ref N] = some true))
theorem xq_nof {K : PySem.W.Frag} {C L M N : Addr} {c : Str} {fs : List Str} (h : xqB K C L M N fs = true) : NoF K C (c, fs) := by
  obtain ⟨h1, h2⟩ := Bool.and_eq_true_iff.mp h
  obtain ⟨h2, _⟩ := Bool.and_eq_true_iff.mp h2
  exact ⟨of_decide_eq_true h1, fun f hf => of_decide_eq_true (List.all_eq_true.mp h2 f hf)⟩
theorem xq_any {K : PySem.W.Frag} {C L M N : Addr} {fs : List Str} (h : xqB K C L M N fs = true) : PySem.W.exmAny K (.ref C) [.ref L, .ref M, .ref N] = some true := by
  obtain ⟨_, h2⟩ := Bool.and_eq_true_iff.mp h
  obtain ⟨_, h3⟩ := Bool.and_eq_true_iff.mp h2
  exact of_decide_eq_true h3
/-- an error of the row r, made of ys, of one of the three bases, in flight -/
structure Rsd (K : PySem.W.Frag) (L M N : Addr) (H : Hp) (cls : Value) (d : Option Addr) (r : Str × List Str) (ys : List V) : Prop where
  hand : InHand K H cls d r ys
  any : PySem.W.exmAny K cls [.ref L, .ref M, .ref N] = some true
theorem del_ne {H : Hp} {a b : Addr} (h : b ≠ a) : del H a b = H b := if_neg h
theorem del_new {G : Hp} {a : Addr} {o : HO} (ha : G a = none) : ∀ b, b ≠ a → del (upd G a o) a b = G b := fun b hb => by
  rw [del_ne hb, upd_ne hb]
/-- what is left to be shown where an own error is raised -/
theorem raise_end {K : PySem.W.Frag} {C L M N a dx : Addr} {c : Str} {fs : List Str} {G G2 : Hp} {ys : List V} {E : XK} (T : XC K C) (q : xqB K C L M N fs = true) (hr : (c, fs) ∈ rows) (hl : ys.length = fs.length) (ha : G a = none)
    (D : InitD (upd G a (exo a C none)) G2 a C dx (mkF (c, fs) ys)) (k : ∀ cls d H', Rsd K L M N H' cls d (c, fs) ys → Same G H' → E cls d H') :
    ∃ (d : Addr) (fs : List (Str × V)), G2 a = some (exo a C (some d)) ∧ G2 d = some (exd d fs) ∧ G d = none ∧ E (.ref C) (some d) (upd (del G2 a) d (.xd fs)) := by
  have hd : G dx = none := by
    have := D.fr
    rwa [upd_ne D.ne] at this
  refine ⟨dx, _, D.oa, D.od, hd, k _ _ _ ⟨⟨C, dx, rfl, rfl, T, xq_nof q, hr, hl, upd_same⟩, xq_any q⟩ fun b o hb => ?_⟩
  have b1 : b ≠ a := ne_of_none hb ha
  have b2 : b ≠ dx := ne_of_none hb hd
  rw [upd_ne b2, del_ne b1, D.el b b1 b2, upd_ne b1]
  exact hb
theorem raise_full {K : PySem.W.Frag} {C L M N : Addr} {c : Str} {fs : List Str} {G : Hp} {ys : List V} {E : XK} (T : XC K C) (q : xqB K C L M N fs = true) (hr : (c, fs) ∈ rows) (hl : ys.length = fs.length) (k : ∀ cls d H', Rsd K L M N H' cls d (c, fs) ys → Same G H' → E cls d H') :
    ys.length ≤ 1000 ∧ ∀ a, G a = none → spI K C (c, fs) (.ref a :: ys) (upd G a (exo a C none))
      (fun v G2 => v = .non ∧ ∃ (d : Addr) (fs : List (Str × V)), G2 a = some (exo a C (some d)) ∧ G2 d = some (exd d fs) ∧ G d = none ∧ E (.ref C) (some d) (upd (del G2 a) d (.xd fs))) (fun _ _ _ => False) := by
  refine ⟨?_, fun a ha => ⟨a, ys, rfl, hl, upd_same, fun dx H' D => ⟨rfl, raise_end T q hr hl ha D k⟩⟩⟩
  rw [hl]
  have h2 : rows.all (fun r => decide (r.2.length ≤ 1000)) = true := by decide +kernel
  exact of_decide_eq_true (List.all_eq_true.mp h2 _ hr)
end Bl

/-! laws that make lambdas: the heap without the box and without tables -/
namespace Bl
open PySem L2
def noT (H : Hp) : Hp := fun b => match H b with
  | some (.tbl _) => none
  | o => o
theorem noT_le {H : Hp} : Same (noT H) H := fun b o h => by
  unfold noT at h
  split at h
  · cases h
  · exact h
theorem noT_of {H : Hp} {b : Addr} {o : HO} (h : H b = some o) (n : ∀ ps, o ≠ .tbl ps) : noT H b = some o := by
  unfold noT
  split
  · rename_i ps e
    rw [h] at e
    exact absurd (Option.some.inj e) (n ps)
  · exact h
theorem noT_no {H : Hp} {b : Addr} {o : HO} (h : noT H b = some o) : ∀ ps, o ≠ .tbl ps := fun ps e => by
  subst e
  unfold noT at h
  split at h
  · cases h
  · rename_i hn
    exact hn ps h
/-- all but the box at p and the tables -/
def hn (p : Addr) (H : Hp) : Hp := hide p (noT H)
theorem hn_le {p : Addr} {H : Hp} : Same (hn p H) H := hide_le.trans noT_le
theorem hn_hide {p : Addr} {H : Hp} : Same (hn p H) (hide p H) := hide_mono noT_le
abbrev Kp (p : Addr) (H H' : Hp) : Prop := Same (hn p H) (hn p H')
theorem Kp.but {p : Addr} {H H' : Hp} (e : But p H H') : Kp p H H' := fun b o h => by
  unfold hn at h ⊢
  by_cases f : b = p
  · subst f
    rw [hide_at] at h
    cases h
  · rw [hide_ne f] at h ⊢
    have h1 := e b o (by rw [hide_ne f]; exact noT_le _ _ h)
    rw [hide_ne f] at h1
    exact noT_of h1 (noT_no h)
theorem Kp.of {p : Addr} {H H' : Hp} (e : Same H H') : Kp p H H' := Kp.but (But.of e)
theorem Kp.new {p q : Addr} {H : Hp} (h : H q = none) (o : HO) : Kp p H (upd H q o) := Kp.of (same_new h o)
theorem Kp.ext {p : Addr} {H H' : Hp} (e : LamX.ExtN H H') : Kp p H H' := fun b o h => by
  unfold hn at h ⊢
  by_cases f : b = p
  · subst f
    rw [hide_at] at h
    cases h
  · rw [hide_ne f] at h ⊢
    exact noT_of (e b o (noT_le _ _ h) (noT_no h)) (noT_no h)
theorem BoxAt.ext {H H' : Hp} {p l : Addr} (b : BoxAt H p l) (e : LamX.ExtN H H') : BoxAt H' p l := by
  obtain ⟨ns, i, w, m, c, hp, hl, r⟩ := b
  have h1 : l ≠ p := by
    rintro rfl
    rw [hide_at] at hl
    cases hl
  rw [hide_ne h1] at hl
  exact ⟨ns, i, w, m, c, e _ _ hp (fun _ h => nomatch h), by rw [hide_ne h1]; exact e _ _ hl (fun _ h => nomatch h), r⟩
theorem tabs_of {Tb : List (Addr × Str)} {H H' : Hp} (t : LamX.Tabs Tb H) (e : Same H H') : LamX.Tabs Tb H' := t.ext e
theorem tabs_but {Tb : List (Addr × Str)} {p l : Addr} {H H' : Hp} (t : LamX.Tabs Tb H) (b : BoxAt H p l) (e : But p H H') : LamX.Tabs Tb H' := by
  obtain ⟨ns, i, w, m, c, hp, _⟩ := b
  have key : ∀ a o, H a = some o → (∀ xs, o ≠ .lst xs) → H' a = some o := fun a o h n => by
    have f : a ≠ p := by
      rintro rfl
      rw [hp] at h
      exact n _ (Option.some.inj h).symm
    have := e a o (by rw [hide_ne f]; exact h)
    rwa [hide_ne f] at this
  intro q hq
  obtain ⟨ps, h1, h2, h3⟩ := t q hq
  refine ⟨ps, key _ _ h1 (fun _ h => nomatch h), h2, fun pos cv hc => ?_⟩
  obtain ⟨c', e1, e2⟩ := h3 pos cv hc
  exact ⟨c', e1, key _ _ e2 (fun _ h => nomatch h)⟩
theorem hn_new {p q : Addr} {H : Hp} {o : HO} (h : q ≠ p) (n : ∀ ps, o ≠ .tbl ps) : hn p (upd H q o) q = some o := by
  unfold hn
  rw [hide_ne h]
  exact noT_of upd_same n
theorem hn_free {p q : Addr} {H : Hp} (h : H q = none) : hn p H q = none := by
  unfold hn
  refine hide_free ?_
  unfold noT
  rw [h]
theorem hn_of {p q : Addr} {H : Hp} {o : HO} (e : hide p H q = some o) (n : ∀ ps, o ≠ .tbl ps) : hn p H q = some o := by
  unfold hn
  by_cases f : q = p
  · subst f
    rw [hide_at] at e
    cases e
  · rw [hide_ne f] at e ⊢
    exact noT_of e n
theorem sql_hn {K : PySem.W.Frag} {p a : Addr} {H : Hp} {xs : List V} (h : SqL K (hide p H) a xs) : SqL K (hn p H) a xs := by
  rcases h with (h | ⟨o, h⟩) | h
  · exact .inl (.inl (hn_of h (fun _ h => nomatch h)))
  · exact .inl (.inr ⟨o, hn_of h (fun _ h => nomatch h)⟩)
  · exact .inr h
theorem sqt_hn {K : PySem.W.Frag} {p a : Addr} {H : Hp} {xs : List V} (h : SqT K (hide p H) a xs) : SqT K (hn p H) a xs := by
  rcases h with (h | ⟨o, h⟩) | h
  · exact .inl (.inl (hn_of h (fun _ h => nomatch h)))
  · exact .inl (.inr ⟨o, hn_of h (fun _ h => nomatch h)⟩)
  · exact .inr h
mutual
theorem Dp.hn {K : PySem.W.Frag} {p : Addr} {H : Hp} : ∀ (d : PyData) (v : V), Dp K (hide p H) v d → Dp K (hn p H) v d
  | .none, _, h => by cases h; exact .non
  | .bool _, _, h => by cases h; exact .bl _
  | .int _, _, h => by cases h; exact .int _
  | .str _, _, h => by cases h; exact .str _
  | .list ds, _, h => by
    cases h with
    | lst hs ha => exact .lst (sql_hn hs) (DpAll.hn ds _ ha)
  | .tuple ds, _, h => by
    cases h with
    | tup hs ha => exact .tup (sqt_hn hs) (DpAll.hn ds _ ha)
  | .dict _, _, h => by cases h
theorem DpAll.hn {K : PySem.W.Frag} {p : Addr} {H : Hp} : ∀ (ds : List PyData) (vs : List V), DpAll K (hide p H) vs ds → DpAll K (hn p H) vs ds
  | [], _, h => by cases h; exact .nil
  | d :: ds, _, h => by
    cases h with
    | cons h1 h2 => exact .cons (Dp.hn d _ h1) (DpAll.hn ds _ h2)
end
def lamQ : Str := "law.<locals>.<lambda>"
theorem lam_mem {P : Addr} {q r : Str} (h : q = r) : (P, q) ∈ [(P, r)] := by
  rw [h]
  exact List.mem_singleton.mpr rfl
theorem lam_only {P : Addr} {q r : Str} (h : r = q) : ∀ p ∈ [(P, r)], p.1 = P → p.2 = q := fun p hp _ => by
  rw [List.mem_singleton.mp hp]
  exact h
theorem passes_lamE {X : Cx} {P : Program} {w : World} {A : Around} {outer : List Env} {s : Shared} {H : Hp} {E : XK} {scope : Scope} {f c' : Addr} (h1 : X.prog = P) (h2 : X.w = w) : Passes (L2.CX P w) (LamX.lamCx X A outer s H E scope f c') E := by
  subst h1
  subst h2
  exact passes_lam
theorem noT_ext {H H' : Hp} (e : LamX.ExtN H H') : Same (noT H) (noT H') := fun _ _ h => noT_of (e _ _ (noT_le _ _ h) (noT_no h)) (noT_no h)
theorem hn_noT {p : Addr} {H : Hp} : Same (hn p H) (noT H) := hide_le
theorem seq_hn {K : PySem.W.Frag} {p q : Addr} {H : Hp} {xs : List V} (e : hn p H q = some (.lst xs)) : SqL K H q xs := SqL.of (hn_le _ _ e)
theorem tup_hn {K : PySem.W.Frag} {p q : Addr} {H : Hp} {xs : List V} (e : hn p H q = some (.tup xs)) : SqT K H q xs := SqT.of (hn_le _ _ e)
theorem dp_hn {K : PySem.W.Frag} {p : Addr} {H : Hp} {v : V} {d : PyData} (e : Dp K (hn p H) v d) : Dp K H v d := Dp.mono hn_le _ _ e
theorem hn_but {p q : Addr} {G H : Hp} {o : HO} (b : But p G H) (e : hn p G q = some o) : hn p H q = some o := Kp.but b _ _ e
theorem hn_tr {p q : Addr} {G H : Hp} {o : HO} (b : Same G H) (e : hn p G q = some o) : hn p H q = some o := Kp.of b _ _ e
theorem hn_nw {p q r : Addr} {G : Hp} {o o2 : HO} (b : G r = none) (e : hn p G q = some o) : hn p (upd G r o2) q = some o := Kp.new b o2 _ _ e
theorem dhn_but {K : PySem.W.Frag} {p : Addr} {G H : Hp} {v : V} {d : PyData} (b : But p G H) (e : Dp K (hn p G) v d) : Dp K (hn p H) v d := Dp.mono (Kp.but b) _ _ e
theorem dhn_tr {K : PySem.W.Frag} {p : Addr} {G H : Hp} {v : V} {d : PyData} (b : Same G H) (e : Dp K (hn p G) v d) : Dp K (hn p H) v d := Dp.mono (Kp.of b) _ _ e
theorem dhn_nw {K : PySem.W.Frag} {p r : Addr} {G : Hp} {o : HO} {v : V} {d : PyData} (b : G r = none) (e : Dp K (hn p G) v d) : Dp K (hn p (upd G r o)) v d := Dp.mono (Kp.new b o) _ _ e
theorem box_nw {p l r : Addr} {G : Hp} {o : HO} (b : G r = none) (e : BoxAt G p l) : BoxAt (upd G r o) p l := e.new b o
theorem box_tr {p l : Addr} {G H : Hp} (b : Same G H) (e : BoxAt G p l) : BoxAt H p l := e.mono b
theorem tabs_nw {Tb : List (Addr × Str)} {r : Addr} {G : Hp} {o : HO} (b : G r = none) (e : LamX.Tabs Tb G) : LamX.Tabs Tb (upd G r o) := tabs_of e (same_new b o)
theorem hn_get {p q : Addr} {H : Hp} {o : HO} (e : hn p H q = some o) : H q = some o := hn_le _ _ e
theorem gLam {Tb : List (Addr × Str)} {TT : (XK → Hp → VK → Prop) → Hp → VK → Prop} {t : XK → TE} {σ : L2.St} {H : Hp} {Q : VK} (h : LamX.tLam Tb TT t σ H Q) : LamX.tLam Tb TT t σ H Q := h
@[irreducible] def tCutI (t u : TS) : TS := C8.tCut t u
theorem pss_cutI {X : Cx} {st : Stmt} {rest : List Stmt} {t u : TS} (h1 : PS X st t) (h2 : PSs X rest u) : PSs X (st :: rest) (tCutI t u) := by
  unfold tCutI
  exact C8.pss_cut h1 h2
theorem cut_mk {t u : TS} {D : Ends} {σ : L2.St} {H : Hp} (Mid : L2.St → Hp → Prop) (h1 : t { D with nx := Mid } σ H) (h2 : ∀ σ' H', Mid σ' H' → u D σ' H') : tCutI t u D σ H := by
  unfold tCutI
  exact ⟨Mid, h1, h2⟩
end Bl

/-! own classes: methods called with keywords; == by the text's own __eq__, any answer; a field read in a comprehension; what is never reached -/
namespace Bl
open PySem L2 PySem.Spec PyProof.Rows
def tNoE : TE := fun _ _ _ => False
def tNoT : TT := fun _ _ _ => False
theorem pe_never {X : Cx} {e : Expr} : PE X e tNoE := ⟨fun _ _ _ _ _ _ h => h.elim⟩
theorem pt_never {X : Cx} {e : Expr} : PT X e tNoT := ⟨fun _ _ _ _ _ _ h => h.elim⟩
/-- e.m(.., k = v, ..) -/
def tMethK (C : Addr) (m : Str) (sp : Sp) (gV : List V → List V → List V) (E : XK) (ta : TE) (t tk : TA) : TE := fun σ H Q => ta σ H fun x H1 => ∃ a dx fs, x = .ref a ∧ H1 a = some (.ins C dx fs) ∧ fs.lookup m = none ∧
  t σ H1 fun vs H2 => tk σ H2 fun zs H3 => sp (gV (x :: vs) zs) H3 Q E
section
variable {X : Cx} {CX : CXT} {k : Nat} {C f : Addr} {fd : FuncData} {ps ks : List Str} {sp : Sp} {E : XK} {o e : Expr} {es : List Expr} {kws : List Keyword} {m : Str} {pos apos : Pos} {ta : TE} {t tk : TA}
  {g : List Value → List Value → List Value} {gV : List V → List V → List V}
theorem pe_methK {pl : Sem Bool} (he : PE X o ta) (c : Cls X.K C) (hm : Meth X.K C m f) (F : FnOk X.prog X.w X.K X.mg X.base CX k f fd ps sp) (hr : Room k X.A) (hb : KBinds X.K fd ps ks g gV) (hx : Passes CX X E) (ha : PA X (e :: es) t) (hkw : PK X kws tk)
    (hall : (backToKw pos (keywordEach kws X.env)).all (·.1.isSome) = true := by rfl) (hks : (backToKw pos (keywordEach kws X.env)).filterMap (·.1) = ks := by rfl)
    (hst : starEach (e :: es) X.env = (false, eval e X.env) :: starEach es X.env := by rfl)
    (hpl : ((backTo pos (starEach (e :: es) X.env)).any (·.1) || (backToKw pos (keywordEach kws X.env)).any (·.1.isNone)) = false := by rfl)
    (ht : eval (.Call (.Attribute o m apos) (e :: es) kws pos) X.env = (do
      let ov ← eval o X.env
      standAt apos.atName
      let (f, first) ← holding [ov] (getMethod ov m pl)
      callWith pos f first (backTo pos (starEach (e :: es) X.env)) (backToKw pos (keywordEach kws X.env))) := by rfl) :
    PE X (.Call (.Attribute o m apos) (e :: es) kws pos) (tMethK C m sp gV E ta t tk) := by
  refine ⟨fun pins s σ H Q I h => ?_⟩
  refine PySem.W.methodCall_KW (pl := pl) (thn (he.run pins s σ H _ I h) fun u s1 ⟨x, H1, I1, rx, a, dx, fs, ex, ea, l, q⟩ => ?_) ht
  subst ex
  obtain rfl : u = Value.ref a := rx
  refine getmeth_ok I1 ea c hm l ?_
  refine PySem.W.callWith_KW (first := [.ref a]) (h₀ := X.base) I.ok.mod.kin hm.kp hall (thn (ha.run pos pins s1 σ H1 _ I1 q) fun us s2 ⟨vs, H2, I2, r, q2⟩ => ?_) hpl hst
  refine thn (hkw.run pos pins s2 σ H2 _ I2 q2) fun ws s3 ⟨zs, H3, I3, rz, q3⟩ => ⟨I3.kIn, ?_⟩
  rw [hks]
  exact run_fnk (us := .ref a :: us) (vs := .ref a :: vs) F hr hb hx I3 (.cons rfl r) rz q3
/-- a field, within a comprehension -/
theorem pe_fldC {K : PySem.W.Frag} (hK : X.K = K) (he : PE X e ta) (hb : attributeBase e m X.env (eval e X.env) = eval e X.env := by rfl) : PE X (.Attribute e m pos) (tFld K ta m) := by
  subst hK
  exact pe_fld he hb
/-- x == y, x an instance of the class at C whose __eq__ is at g -/
@[irreducible] def rOwnI (K : PySem.W.Frag) (C : Addr) (sp : Sp) (E : XK) : R2 := fun x y H Q => ∃ a dx fs t, x = .ref a ∧ H a = some (.ins C dx fs) ∧ TyX K H y t ∧ PySem.W.notFirst K C t = true ∧ sp [x, y] H Q E
theorem op_ownI (hs : PySem.W.findIn X.K (.ref C) "__eq__" = some (some (.ref f))) (hf : PySem.W.isFn X.K (.ref f) = true) (F : FnOk X.prog X.w X.K X.mg X.base CX k f fd ps sp) (hb : Binds X.K fd ps [])
    (hr : Room k X.A) (hx : Passes CX X E) : OpR X (compareOp .Eq) (rOwnI X.K C sp E) := by
  intro pins s σ H x y v u Q I rx ry h
  unfold rOwnI at h
  obtain ⟨a, dx, fs, t, rfl, ha, hy, hn, q⟩ := h
  cases (show v = Value.ref a from rx)
  obtain ⟨mA, J, _⟩ := ins_get I.hok ha
  obtain ⟨od, J, _⟩ := J.look
  obtain ⟨PP, kx, hP, _⟩ := kit_of I ry hy
  obtain ⟨m, hF⟩ := I.fr
  show wpAny (model X.prog X.w) X.A (richCompare .Eq (.ref a) u) (EP X pins σ Q) X.xe s
  refine PySem.W.cmp_K (op := .Eq) (tb := t) hr.units0 hF I.ok.mod.kin J (kx.ty _ _ I.kIn hP) hn hs hf ?_
  refine wpAny_mono (run_fn (us := [.ref a, u]) (vs := [.ref a, y]) F hr hb .nil hx I (.cons rfl (.cons ry .nil)) (by exact q)) (fun w s' z => ?_) fun _ _ x => x
  obtain ⟨z', H', I', rz, qz⟩ := z
  exact SlX.cmpback rz ⟨z', H', I', rz, qz⟩
end
end Bl
namespace Bl
open PySem L2
def ownTys : List String := ["list", "tuple", "dict", "str", "int", "bool", "NoneType"]
/-- a class that no built-in one is under, whose == goes first -/
def ownB (K : PySem.W.Frag) (C : Addr) : Bool := PySem.W.notFirst K C (.ref C) && ownTys.all fun t => decide (PySem.W.kitOne K (.type t) (.ref C) = some false) && PySem.W.notFirst K C (.type t)
theorem own_me {K : PySem.W.Frag} {C : Addr} (h : ownB K C = true) : PySem.W.notFirst K C (.ref C) = true := (Bool.and_eq_true_iff.mp h).1
theorem own_kit {K : PySem.W.Frag} {C : Addr} (h : ownB K C = true) {t : String} (ht : t ∈ ownTys) : PySem.W.kitOne K (.type t) (.ref C) = some false :=
  of_decide_eq_true (Bool.and_eq_true_iff.mp (List.all_eq_true.mp (Bool.and_eq_true_iff.mp h).2 t ht)).1
theorem own_nf {K : PySem.W.Frag} {C : Addr} (h : ownB K C = true) {t : String} (ht : t ∈ ownTys) : PySem.W.notFirst K C (.type t) = true :=
  (Bool.and_eq_true_iff.mp (List.all_eq_true.mp (Bool.and_eq_true_iff.mp h).2 t ht)).2
theorem ty_own {K : PySem.W.Frag} {H : Hp} {a C dx : Addr} {fs : List (Str × V)} (c : C8.InsC K C) (e : H a = some (.ins C dx fs)) : TyX K H (.ref a) (.ref C) := .base (.ins e c.cl c.ha c.hn c.htk c.hm)
/-- all but what stands at some places is as it was -/
def Fr (S : List Addr) (H H' : Hp) : Prop := ∀ b o, H b = some o → b ∉ S → H' b = some o
theorem Fr.of {S : List Addr} {H H' : Hp} (h : Same H H') : Fr S H H' := fun b o e _ => h b o e
theorem Fr.trans {S : List Addr} {H G H' : Hp} (a : Fr S H G) (b : Fr S G H') : Fr S H H' := fun x o e n => b x o (a x o e n) n
theorem Fr.sub {S T : List Addr} {H H' : Hp} (a : Fr S H H') (h : ∀ x ∈ S, x ∈ T) : Fr T H H' := fun x o e n => a x o e fun k => n (h x k)
theorem Fr.put {S : List Addr} {H H' : Hp} {p : Addr} {o : HO} (a : Fr S H H') (h : p ∈ S) : Fr S H (upd H' p o) := fun x u e n => by
  rw [upd_ne (by
    rintro rfl
    exact n h)]
  exact a x u e n
theorem Fr.new {S : List Addr} {H H' : Hp} {p : Addr} {o : HO} (a : Fr S H H') (h : H' p = none) : Fr S H (upd H' p o) := fun x u e n => by
  have := a x u e n
  rw [upd_ne (ne_of_none this h)]
  exact this
theorem Fr.free {S : List Addr} {H H' : Hp} {a : Addr} (f : Fr S H H') (h : H' a = none) (n : a ∉ S) : H a = none := by
  cases e : H a with
  | none => rfl
  | some o => rw [f a o e n] at h; cases h
/-- a heap without some places -/
def cutH (S : List Addr) (H : Hp) : Hp := fun b => if b ∈ S then none else H b
theorem cutH_le {S : List Addr} {H : Hp} : Same (cutH S H) H := fun b o h => by
  unfold cutH at h
  by_cases e : b ∈ S
  · rw [if_pos e] at h
    cases h
  · rw [if_neg e] at h
    exact h
theorem cutH_no {S : List Addr} {H : Hp} {b : Addr} {o : HO} (h : cutH S H b = some o) : b ∉ S := fun e => by
  unfold cutH at h
  rw [if_pos e] at h
  cases h
theorem cutH_ne {S : List Addr} {H : Hp} {b : Addr} (h : b ∉ S) : cutH S H b = H b := if_neg h
theorem cutH_fr {S T : List Addr} {H H' : Hp} (f : Fr T H H') : Same (cutH (S ++ T) H) (cutH (S ++ T) H') := fun b o h => by
  have n := cutH_no h
  rw [cutH_ne n] at h ⊢
  exact f b o h fun k => n (List.mem_append_right _ k)
end Bl

/-! a ledger as it stands -/
namespace Bl
open PySem L2
abbrev Row := List (Str × Str)
/-- a row as a dict -/
def rowK (r : Row) : List (Key × V) := r.map fun q => (Sum.inr q.1, V.str q.2)
structure LFt where
  (dx th ro si un : Addr)
structure LSt where
  things : List (List Str)
  rows : List Row
  sides : List Str
  undone : List (Row × Str)
def LFt.fs (f : LFt) : List (Str × V) := [("_things", .ref f.th), ("_rows", .ref f.ro), ("_sides", .ref f.si), ("_undone", .ref f.un)]
/-- the places of a ledger that its methods write -/
def LFt.wr (f : LFt) (p : Addr) : List Addr := [p, f.ro, f.si, f.un]
def LFt.all (f : LFt) (p : Addr) : List Addr := [p, f.th, f.ro, f.si, f.un]
def ThOk (K : PySem.W.Frag) (H : Hp) (t : Addr) (ns : List Str) : Prop := SqT K H t (ns.map V.str)
def LRowOk (H : Hp) (r : Addr) (w : Row) : Prop := H r = some (.dK (rowK w))
def UndOk (K : PySem.W.Frag) (H : Hp) (u : Addr) (x : Row × Str) : Prop := ∃ r, SqT K H u [.ref r, .str x.2] ∧ LRowOk H r x.1
structure LedAt (K : PySem.W.Frag) (C : Addr) (H : Hp) (p : Addr) (f : LFt) (L : LSt) : Prop where
  ins : H p = some (.ins C f.dx f.fs)
  th : ∃ ts : List Addr, H f.th = some (.lst (ts.map V.ref)) ∧ Paired (ThOk K H) ts L.things
  ro : ∃ rs : List Addr, H f.ro = some (.lst (rs.map V.ref)) ∧ Paired (LRowOk H) rs L.rows
  si : H f.si = some (.lst (L.sides.map V.str))
  un : ∃ us : List Addr, H f.un = some (.lst (us.map V.ref)) ∧ Paired (UndOk K H) us L.undone
  nd : (f.all p).Nodup
theorem LRowOk.mono {H H' : Hp} {r : Addr} {w : Row} (e : Same H H') (h : LRowOk H r w) : LRowOk H' r w := e _ _ h
theorem ThOk.mono {K : PySem.W.Frag} {H H' : Hp} {r : Addr} {w : List Str} (e : Same H H') (h : ThOk K H r w) : ThOk K H' r w := Same.tup e h
theorem UndOk.mono {K : PySem.W.Frag} {H H' : Hp} {r : Addr} {w : Row × Str} (e : Same H H') (h : UndOk K H r w) : UndOk K H' r w := let ⟨r, a, b⟩ := h; ⟨r, Same.tup e a, b.mono e⟩
theorem prMp {α β : Type} {R S : α → β → Prop} {l : List α} {m : List β} (p : PySem.Paired R l m) (h : ∀ a b, R a b → S a b) : PySem.Paired S l m := L2.Paired.mapP p h
theorem LedAt.mono {K : PySem.W.Frag} {C p : Addr} {H H' : Hp} {f : LFt} {L : LSt} (e : Same H H') (h : LedAt K C H p f L) : LedAt K C H' p f L :=
  ⟨e _ _ h.ins, let ⟨ts, a, b⟩ := h.th; ⟨ts, e _ _ a, prMp b fun _ _ x => x.mono e⟩, let ⟨ts, a, b⟩ := h.ro; ⟨ts, e _ _ a, prMp b fun _ _ x => x.mono e⟩, e _ _ h.si, let ⟨ts, a, b⟩ := h.un; ⟨ts, e _ _ a, prMp b fun _ _ x => x.mono e⟩, h.nd⟩
/-- a list or an instance -/
def ListIns (H : Hp) (x : Addr) : Prop := (∃ xs, H x = some (.lst xs)) ∨ ∃ C dx fs, H x = some (.ins C dx fs)
theorem fr_tup {K : PySem.W.Frag} {S : List Addr} {H H' : Hp} {t : Addr} {xs : List V} (e : Fr S H H') (hS : ∀ x ∈ S, ListIns H x) (h : SqT K H t xs) : SqT K H' t xs := by
  have key : ∀ o, H t = some o → (∀ xs, o ≠ .lst xs) → (∀ C dx fs, o ≠ .ins C dx fs) → H' t = some o := fun o ho n1 n2 => e t o ho fun hm => by
    rcases hS t hm with ⟨ys, h1⟩ | ⟨C, dx, fs, h1⟩
    · rw [ho] at h1
      exact n1 _ (Option.some.inj h1)
    · rw [ho] at h1
      exact n2 _ _ _ (Option.some.inj h1)
  rcases h with (h | ⟨o, h⟩) | h
  · exact .inl (.inl (key _ h (fun _ z => nomatch z) fun _ _ _ z => nomatch z))
  · exact .inl (.inr ⟨o, key _ h (fun _ z => nomatch z) fun _ _ _ z => nomatch z⟩)
  · exact .inr h
theorem fr_dk {S : List Addr} {H H' : Hp} {t : Addr} {kvs : List (Key × V)} (e : Fr S H H') (hS : ∀ x ∈ S, ListIns H x) (h : H t = some (.dK kvs)) : H' t = some (.dK kvs) := e t _ h fun hm => by
  rcases hS t hm with ⟨ys, h1⟩ | ⟨C, dx, fs, h1⟩
  · rw [h] at h1
    cases h1
  · rw [h] at h1
    cases h1
theorem fr_th {K : PySem.W.Frag} {S : List Addr} {H H' : Hp} (e : Fr S H H') (hS : ∀ x ∈ S, ListIns H x) {ts : List Addr} {ws : List (List Str)} (h : Paired (ThOk K H) ts ws) : Paired (ThOk K H') ts ws := prMp h fun _ _ x => fr_tup e hS x
theorem fr_ro {S : List Addr} {H H' : Hp} (e : Fr S H H') (hS : ∀ x ∈ S, ListIns H x) {ts : List Addr} {ws : List Row} (h : Paired (LRowOk H) ts ws) : Paired (LRowOk H') ts ws := prMp h fun _ _ x => fr_dk e hS x
theorem fr_un {K : PySem.W.Frag} {S : List Addr} {H H' : Hp} (e : Fr S H H') (hS : ∀ x ∈ S, ListIns H x) {ts : List Addr} {ws : List (Row × Str)} (h : Paired (UndOk K H) ts ws) : Paired (UndOk K H') ts ws :=
  prMp h fun _ _ x => let ⟨r, a, b⟩ := x; ⟨r, fr_tup e hS a, fr_dk e hS b⟩
/-- another ledger's change -/
theorem LedAt.frame {K : PySem.W.Frag} {C p : Addr} {S : List Addr} {H H' : Hp} {f : LFt} {L : LSt} (h : LedAt K C H p f L) (e : Fr S H H') (hS : ∀ x ∈ S, ListIns H x) (hn : ∀ x ∈ f.all p, x ∉ S) : LedAt K C H' p f L := by
  have m : ∀ x ∈ f.all p, ∀ o, H x = some o → H' x = some o := fun x hx o ho => e x o ho (hn x hx)
  refine ⟨m _ (by simp [LFt.all]) _ h.ins, ?_, ?_, m _ (by simp [LFt.all]) _ h.si, ?_, h.nd⟩
  · obtain ⟨ts, a, b⟩ := h.th
    exact ⟨ts, m _ (by simp [LFt.all]) _ a, fr_th e hS b⟩
  · obtain ⟨ts, a, b⟩ := h.ro
    exact ⟨ts, m _ (by simp [LFt.all]) _ a, fr_ro e hS b⟩
  · obtain ⟨ts, a, b⟩ := h.un
    exact ⟨ts, m _ (by simp [LFt.all]) _ a, fr_un e hS b⟩
theorem LedAt.li {K : PySem.W.Frag} {C p : Addr} {H : Hp} {f : LFt} {L : LSt} (h : LedAt K C H p f L) : ∀ x ∈ f.all p, ListIns H x := by
  intro x hx
  simp only [LFt.all, List.mem_cons, List.not_mem_nil, or_false] at hx
  rcases hx with rfl | rfl | rfl | rfl | rfl
  · exact .inr ⟨_, _, _, h.ins⟩
  · exact .inl ⟨_, h.th.choose_spec.1⟩
  · exact .inl ⟨_, h.ro.choose_spec.1⟩
  · exact .inl ⟨_, h.si⟩
  · exact .inl ⟨_, h.un.choose_spec.1⟩
theorem LFt.wr_all {f : LFt} {p x : Addr} (h : x ∈ f.wr p) : x ∈ f.all p := by
  simp only [LFt.wr, LFt.all, List.mem_cons, List.not_mem_nil, or_false] at h ⊢
  rcases h with h | h | h | h <;> simp [h]
theorem lk_eq {x : Str} {v : V} {l : List (Str × V)} : ((x, v) :: l).lookup x = some v := by
  rw [List.lookup_cons, beq_self_eq_true]
theorem lk_ne {x y : Str} {v : V} {l : List (Str × V)} (h : (y == x) = false) : ((x, v) :: l).lookup y = l.lookup y := by
  rw [List.lookup_cons, h]
theorem LFt.lkT {f : LFt} : f.fs.lookup ("_things" : Str) = some (.ref f.th) := lk_eq
theorem LFt.lkR {f : LFt} : f.fs.lookup ("_rows" : Str) = some (.ref f.ro) := (lk_ne (by decide +kernel)).trans lk_eq
theorem LFt.lkS {f : LFt} : f.fs.lookup ("_sides" : Str) = some (.ref f.si) := (lk_ne (by decide +kernel)).trans ((lk_ne (by decide +kernel)).trans lk_eq)
theorem LFt.lkU {f : LFt} : f.fs.lookup ("_undone" : Str) = some (.ref f.un) := (lk_ne (by decide +kernel)).trans ((lk_ne (by decide +kernel)).trans ((lk_ne (by decide +kernel)).trans lk_eq))
theorem LFt.lkN {f : LFt} {m : Str} (h : (["_things", "_rows", "_sides", "_undone"] : List Str).all (fun x => !(m == x)) = true) : f.fs.lookup m = none := by
  simp only [List.all_cons, List.all_nil, Bool.and_true, Bool.and_eq_true, Bool.not_eq_true'] at h
  obtain ⟨h1, h2, h3, h4⟩ := h
  unfold LFt.fs
  rw [lk_ne h1, lk_ne h2, lk_ne h3, lk_ne h4]
  rfl
theorem pf_eq {x : Str} {v y : V} {l : List (Str × V)} : putF x y ((x, v) :: l) = (x, y) :: l := by
  show (if x = x then _ else _) = _
  rw [if_pos rfl]
theorem pf_ne {x z : Str} {v y : V} {l : List (Str × V)} (h : ¬ z = x) : putF x y ((z, v) :: l) = (z, v) :: putF x y l := by
  show (if z = x then _ else _) = _
  rw [if_neg h]
theorem LFt.putU {f : LFt} {a : Addr} : putF "_undone" (.ref a) f.fs = ({ f with un := a } : LFt).fs := by
  unfold LFt.fs
  rw [pf_ne (by decide +kernel), pf_ne (by decide +kernel), pf_ne (by decide +kernel), pf_eq]
theorem LFt.made {a b c d dx : Addr} : putF "_undone" (.ref d) (putF "_sides" (.ref c) (putF "_rows" (.ref b) (putF "_things" (.ref a) []))) = (⟨dx, a, b, c, d⟩ : LFt).fs := by
  show putF "_undone" (.ref d) (putF "_sides" (.ref c) (putF "_rows" (.ref b) [(("_things" : Str), V.ref a)])) = _
  rw [pf_ne (by decide +kernel)]
  show putF "_undone" (.ref d) (putF "_sides" (.ref c) [(("_things" : Str), V.ref a), ("_rows", V.ref b)]) = _
  rw [pf_ne (by decide +kernel), pf_ne (by decide +kernel)]
  show putF "_undone" (.ref d) [(("_things" : Str), V.ref a), ("_rows", V.ref b), ("_sides", V.ref c)] = _
  rw [pf_ne (by decide +kernel), pf_ne (by decide +kernel), pf_ne (by decide +kernel)]
  rfl
theorem rowK_get {w : Row} : ∀ {i : Nat} {q : Str × Str}, (w.map (·.1)).Nodup → w[i]? = some q → valV (rowK w) (Sum.inr q.1) = some (.str q.2) := by
  induction w with
  | nil => intro i q _ h; simp at h
  | cons p w ih =>
    intro i q nd h
    rw [List.map_cons, List.nodup_cons] at nd
    show valV ((Sum.inr p.1, V.str p.2) :: rowK w) (Sum.inr q.1) = _
    match i, h with
    | 0, h =>
      obtain rfl : p = q := Option.some.inj h
      simp [valV]
    | i + 1, h =>
      have hm : q ∈ w := List.mem_of_getElem? h
      have hne : ¬ (Sum.inr p.1 : Key) = Sum.inr q.1 := fun e => nd.1 (by
        rw [Sum.inr.inj e]
        exact List.mem_map_of_mem hm)
      have := ih nd.2 h
      simpa [valV, hne] using this
theorem ref_get {ts : List Addr} {i : Nat} {x : V} (h : (ts.map V.ref)[i]? = some x) : ∃ a, ts[i]? = some a ∧ x = .ref a := by
  rw [List.getElem?_map] at h
  cases e : ts[i]? with
  | none => rw [e] at h; cases h
  | some a =>
    rw [e] at h
    exact ⟨a, rfl, (Option.some.inj h).symm⟩
theorem str_get {ts : List Str} {i : Nat} {x : V} (h : (ts.map V.str)[i]? = some x) : ∃ a, ts[i]? = some a ∧ x = .str a := by
  rw [List.getElem?_map] at h
  cases e : ts[i]? with
  | none => rw [e] at h; cases h
  | some a =>
    rw [e] at h
    exact ⟨a, rfl, (Option.some.inj h).symm⟩
theorem LedAt.ne {K : PySem.W.Frag} {C p : Addr} {H : Hp} {f : LFt} {L : LSt} (h : LedAt K C H p f L) : p ≠ f.th ∧ p ≠ f.ro ∧ p ≠ f.si ∧ p ≠ f.un ∧ f.th ≠ f.ro ∧ f.th ≠ f.si ∧ f.th ≠ f.un ∧ f.ro ≠ f.si ∧ f.ro ≠ f.un ∧ f.si ≠ f.un := by
  have := h.nd
  simp only [LFt.all, List.nodup_cons, List.mem_cons, List.not_mem_nil, or_false, not_or, List.nodup_nil, not_false_eq_true, and_true] at this
  obtain ⟨⟨a, b, c, d⟩, ⟨e, g, i⟩, ⟨j, k⟩, l⟩ := this
  exact ⟨a, b, c, d, e, g, i, j, k, l⟩
/-! data of names and of lots -/
theorem eqv_str {a b : Str} : PyData.eqv (.str a) (.str b) = decide (a = b) := by
  rw [PyData.eqv]
  try rfl
theorem eqvAll_cons {a b : PyData} {as bs : List PyData} : PyData.eqvAll (a :: as) (b :: bs) = (PyData.eqv a b && PyData.eqvAll as bs) := by
  rw [PyData.eqvAll]
theorem eqvAll_map {α : Type} [DecidableEq α] {g : α → PyData} (h : ∀ a b, PyData.eqv (g a) (g b) = decide (a = b)) : ∀ as bs : List α, PyData.eqvAll (as.map g) (bs.map g) = decide (as = bs)
  | [], [] => by simp [PyData.eqvAll]
  | [], _ :: _ => by simp [PyData.eqvAll]
  | _ :: _, [] => by simp [PyData.eqvAll]
  | a :: as, b :: bs => by
    rw [List.map_cons, List.map_cons, eqvAll_cons, h, eqvAll_map h as bs]
    simp
def tupD (th : List Str) : PyData := .tuple (th.map .str)
def thD (ths : List (List Str)) : PyData := .list (ths.map tupD)
def siD (ss : List Str) : PyData := .list (ss.map .str)
theorem eqv_tup (a b : List Str) : PyData.eqv (tupD a) (tupD b) = decide (a = b) := by
  unfold tupD
  rw [PyData.eqv, eqvAll_map fun _ _ => eqv_str]
theorem eqv_th (a b : List (List Str)) : PyData.eqv (thD a) (thD b) = decide (a = b) := by
  unfold thD
  rw [PyData.eqv, eqvAll_map eqv_tup]
theorem eqv_si (a b : List Str) : PyData.eqv (siD a) (siD b) = decide (a = b) := by
  unfold siD
  rw [PyData.eqv, eqvAll_map fun _ _ => eqv_str]
theorem canAll_map {α : Type} {g : α → PyData} : ∀ {as : List α}, (∀ a ∈ as, PyData.canLay0 (g a) = true) → PyData.canLayAll0 (as.map g) = true
  | [], _ => by simp [PyData.canLayAll0]
  | a :: as, h => by
    rw [List.map_cons, PyData.canLayAll0, h a List.mem_cons_self, canAll_map fun b hb => h b (List.mem_cons_of_mem _ hb)]
    rfl
theorem depthAll_map {α : Type} {g : α → PyData} {n : Nat} : ∀ {as : List α}, (∀ a ∈ as, PyData.depth (g a) ≤ n) → PyData.depthAll (as.map g) ≤ n
  | [], _ => by simp [PyData.depthAll]
  | a :: as, h => by
    rw [List.map_cons, PyData.depthAll]
    exact Nat.max_le.mpr ⟨h a List.mem_cons_self, depthAll_map fun b hb => h b (List.mem_cons_of_mem _ hb)⟩
def okS (z : Str) : Prop := PyData.canLay0 (.str z) = true
theorem shaped_si {ss : List Str} (h : ∀ z ∈ ss, okS z) : SeqAt.shaped (siD ss) = true := by
  unfold SeqAt.shaped siD
  rw [PyData.canLay0, canAll_map h, Bool.true_and]
  refine decide_eq_true ?_
  rw [PyData.depth]
  have := depthAll_map (g := PyData.str) (as := ss) (n := 1) fun a _ => by rw [PyData.depth]; try omega
  omega
theorem shaped_th {ths : List (List Str)} (h : ∀ th ∈ ths, ∀ z ∈ th, okS z) : SeqAt.shaped (thD ths) = true := by
  unfold SeqAt.shaped thD
  rw [PyData.canLay0, canAll_map (fun th ht => by unfold tupD; rw [PyData.canLay0, canAll_map (h th ht)]), Bool.true_and]
  refine decide_eq_true ?_
  rw [PyData.depth]
  have := depthAll_map (g := tupD) (as := ths) (n := 2) fun a _ => by
    unfold tupD
    rw [PyData.depth]
    have := depthAll_map (g := PyData.str) (as := a) (n := 1) fun a _ => by rw [PyData.depth]; try omega
    omega
  omega
theorem dpa_str {K : PySem.W.Frag} {H : Hp} : ∀ ns : List Str, DpAll K H (ns.map V.str) (ns.map .str)
  | [] => .nil
  | n :: ns => .cons (.str n) (dpa_str ns)
theorem dp_si {K : PySem.W.Frag} {H : Hp} {a : Addr} {ss : List Str} (h : SqL K H a (ss.map V.str)) : Dp K H (.ref a) (siD ss) := .lst h (dpa_str ss)
theorem dpa_th {K : PySem.W.Frag} {H : Hp} {ts : List Addr} {ths : List (List Str)} (p : PySem.Paired (ThOk K H) ts ths) : DpAll K H (ts.map V.ref) (ths.map tupD) := by
  induction p with
  | nil => exact .nil
  | cons r _ ih => exact .cons (.tup r (dpa_str _)) ih
theorem dp_th {K : PySem.W.Frag} {H : Hp} {a : Addr} {ts : List Addr} {ths : List (List Str)} (h : SqL K H a (ts.map V.ref)) (p : PySem.Paired (ThOk K H) ts ths) : Dp K H (.ref a) (thD ths) := .lst h (dpa_th p)
theorem okS_name {z : Str} (h : nameB z = true) : okS z := by
  unfold okS
  show z.cps.all (· < 0x110000) = true
  rw [← Array.all_toList, List.all_eq_true]
  intro c hc
  have h2 := List.all_eq_true.mp (Bool.and_eq_true_iff.mp h).2 c hc
  have hm := of_decide_eq_true h2
  have hall : alpha.all (fun c => decide (c < 1114112)) = true := by decide
  exact decide_eq_true (of_decide_eq_true (List.all_eq_true.mp hall c hm))
def lotB (z : Str) : Bool := decide (z = "learn") || decide (z = "judge")
theorem okS_lot {z : Str} (h : lotB z = true) : okS z := by
  rcases Bool.or_eq_true_iff.mp h with h | h
  · rw [of_decide_eq_true h]
    unfold okS
    decide +kernel
  · rw [of_decide_eq_true h]
    unfold okS
    decide +kernel
/-- equal rows, by == of lists of dicts -/
theorem rows_eq {K : PySem.W.Frag} {H : Hp} {a b : Addr} {rs qs : List Addr} {rows : List Row} (ha : SqL K H a (rs.map V.ref)) (hb : SqL K H b (qs.map V.ref)) (hr : PySem.Paired (LRowOk H) rs rows) (hq : PySem.Paired (LRowOk H) qs rows)
    (nd : ∀ w ∈ rows, (w.map (·.1)).Nodup) : EqR K H (EqV K H 3) (.ref a) (.ref b) := by
  refine .inl ⟨a, b, rs.map V.ref, qs.map V.ref, rfl, rfl, ha, hb, ?_⟩
  clear ha hb
  induction hr generalizing qs with
  | nil =>
    cases hq
    exact .nil
  | @cons r w rs rows h _ ih =>
    cases hq with
    | @cons q _ qs _ h2 k2 =>
      refine .cons (.inr (.inr (.inr ⟨r, q, rowK w, rowK w, rfl, rfl, h, h2, rfl, fun p hp => ?_⟩))) (ih k2 fun w hw => nd w (List.mem_cons_of_mem _ hw))
      obtain ⟨x, hx, rfl⟩ := List.mem_map.mp hp
      obtain ⟨i, hi⟩ := List.mem_iff_getElem?.mp hx
      exact ⟨_, rowK_get (nd w List.mem_cons_self) hi, .inl ⟨rfl, rfl⟩⟩
theorem box_fr {S : List Addr} {H H' : Hp} {p l : Addr} (B : BoxAt H p l) (e : Fr S H H') (hp : p ∉ S) (hl : l ∉ S) : BoxAt H' p l := by
  obtain ⟨ns, i, w, m, c, h1, h2, r⟩ := B
  have n : l ≠ p := by
    rintro rfl
    rw [hide_at] at h2
    cases h2
  rw [hide_ne n] at h2
  exact ⟨ns, i, w, m, c, e _ _ h1 hp, by rw [hide_ne n]; exact e _ _ h2 hl, r⟩
theorem box_two {H : Hp} {p l : Addr} (B : BoxAt H p l) : (∃ o, H p = some o) ∧ ∃ o, H l = some o := by
  obtain ⟨ns, i, w, m, c, h1, h2, r⟩ := B
  exact ⟨⟨_, h1⟩, ⟨_, hide_le _ _ h2⟩⟩
/-- tracked -/
def Tr (H : Hp) (W : List Addr) : Prop := ∀ x ∈ W, ∃ o, H x = some o
def Out (W S : List Addr) : Prop := ∀ x ∈ W, x ∉ S
theorem Tr.cons {H : Hp} {W : List Addr} {x : Addr} {o : HO} (h : H x = some o) (t : Tr H W) : Tr H (x :: W) := fun y hy => by
  rcases List.mem_cons.mp hy with rfl | hy
  · exact ⟨o, h⟩
  · exact t y hy
theorem Tr.nil {H : Hp} : Tr H [] := fun _ h => nomatch h
theorem Tr.app {H : Hp} {W V : List Addr} (h : Tr H W) (k : Tr H V) : Tr H (W ++ V) := fun y hy => (List.mem_append.mp hy).elim (h y) (k y)
theorem Tr.mono {H H' : Hp} {W : List Addr} (h : Tr H W) (e : Same H H') : Tr H' W := fun y hy => let ⟨o, q⟩ := h y hy; ⟨o, e _ _ q⟩
theorem Tr.fr {H H' : Hp} {W S : List Addr} (h : Tr H W) (e : Fr S H H') (n : Out W S) : Tr H' W := fun y hy => let ⟨o, q⟩ := h y hy; ⟨o, e _ _ q (n y hy)⟩
theorem LedAt.tr {K : PySem.W.Frag} {C p : Addr} {H : Hp} {f : LFt} {L : LSt} (h : LedAt K C H p f L) : Tr H (f.all p) := fun x hx => by
  rcases h.li x hx with ⟨xs, e⟩ | ⟨C, dx, fs, e⟩
  · exact ⟨_, e⟩
  · exact ⟨_, e⟩
theorem Out.fresh {H : Hp} {W S : List Addr} (t : Tr H W) (d : ∀ x ∈ S, H x = none) : Out W S := fun x hx hs => by
  obtain ⟨o, e⟩ := t x hx
  rw [d x hs] at e
  cases e
theorem Out.wr {W : List Addr} {f : LFt} {p : Addr} (h : Out W (f.all p)) : Out W (f.wr p) := fun x hx hs => h x hx (LFt.wr_all hs)
theorem Out.un {H : Hp} {W : List Addr} {f : LFt} {p au : Addr} (t : Tr H W) (h : H au = none) (o : Out W (f.wr p)) : Out W (({ f with un := au } : LFt).wr p) := fun x hx hs => by
  simp only [LFt.wr, List.mem_cons, List.not_mem_nil, or_false] at hs
  have hn := o x hx
  simp only [LFt.wr, List.mem_cons, List.not_mem_nil, or_false, not_or] at hn
  rcases hs with k | k | k | k
  · exact hn.1 k
  · exact hn.2.1 k
  · exact hn.2.2.1 k
  · subst k
    obtain ⟨_, e⟩ := t _ hx
    rw [h] at e
    cases e
theorem Out.cons {W S : List Addr} {x : Addr} (h : x ∉ S) (o : Out W S) : Out (x :: W) S := fun y hy => by
  rcases List.mem_cons.mp hy with rfl | hy
  · exact h
  · exact o y hy
theorem Out.sub {W V S : List Addr} (o : Out W S) (h : ∀ x ∈ V, x ∈ W) : Out V S := fun y hy => o y (h y hy)
theorem LedAt.fr {K : PySem.W.Frag} {C p q : Addr} {H H' : Hp} {f g : LFt} {L M : LSt} (h : LedAt K C H p f L) (o : LedAt K C H q g M) (e : Fr (g.wr q) H H') (d : Out (f.all p) (g.wr q)) : LedAt K C H' p f L :=
  h.frame e (fun x hx => o.li x (LFt.wr_all hx)) d
theorem Out.unA {H : Hp} {W : List Addr} {f : LFt} {p au : Addr} (t : Tr H W) (h : H au = none) (o : Out W (f.all p)) : Out W (({ f with un := au } : LFt).all p) := fun x hx hs => by
  simp only [LFt.all, List.mem_cons, List.not_mem_nil, or_false] at hs
  have hn := o x hx
  simp only [LFt.all, List.mem_cons, List.not_mem_nil, or_false, not_or] at hn
  rcases hs with k | k | k | k | k
  · exact hn.1 k
  · exact hn.2.1 k
  · exact hn.2.2.1 k
  · exact hn.2.2.2.1 k
  · subst k
    obtain ⟨_, e⟩ := t _ hx
    rw [h] at e
    cases e
theorem Out.symm {W S : List Addr} (h : Out W S) : Out S W := fun x hx hw => h x hw hx
theorem Out.app {W V S : List Addr} (h : Out W S) (k : Out V S) : Out (W ++ V) S := fun x hx => (List.mem_append.mp hx).elim (h x) (k x)
theorem Out.wrL {S : List Addr} {f : LFt} {p : Addr} (h : Out (f.all p) S) : Out (f.wr p) S := fun x hx => h x (LFt.wr_all hx)
/-- one of a ledger's lists is replaced: another ledger stays, so do the box and what else is named -/
structure Kept (S : List Addr) (H H' : Hp) : Prop where
  fr : Fr S H H'
  li : ∀ x ∈ S, ListIns H x
theorem Kept.get {S : List Addr} {H H' : Hp} {x : Addr} {o : HO} (k : Kept S H H') (h : H x = some o) (n : x ∉ S) : H' x = some o := k.fr x o h n
theorem Kept.led {K : PySem.W.Frag} {C p : Addr} {S : List Addr} {H H' : Hp} {f : LFt} {L : LSt} (k : Kept S H H') (h : LedAt K C H p f L) (n : Out (f.all p) S) : LedAt K C H' p f L := h.frame k.fr k.li n
theorem kept_led {K : PySem.W.Frag} {C p : Addr} {H H' : Hp} {f : LFt} {L : LSt} (h : LedAt K C H p f L) (e : Fr (f.wr p) H H') : Kept (f.wr p) H H' := ⟨e, fun x hx => h.li x (LFt.wr_all hx)⟩
theorem kept_list {H : Hp} {x : Addr} {xs : List V} {o : HO} (h : H x = some (.lst xs)) : Kept [x] H (upd H x o) := ⟨(Fr.of (Same.refl H)).put (List.mem_singleton.mpr rfl), fun y hy => by
  rw [List.mem_singleton.mp hy]
  exact .inl ⟨_, h⟩⟩
end Bl

/-! pairs of lists, fields that grow -/
namespace Bl
open PySem L2
theorem pr_len {α β : Type} {R : α → β → Prop} {l : List α} {m : List β} (p : PySem.Paired R l m) : l.length = m.length := by
  induction p with
  | nil => rfl
  | cons _ _ ih => rw [List.length_cons, List.length_cons, ih]
theorem pr_get {α β : Type} {R : α → β → Prop} {l : List α} {m : List β} (p : PySem.Paired R l m) : ∀ {i : Nat} {a : α}, l[i]? = some a → ∃ b, m[i]? = some b ∧ R a b := by
  induction p with
  | nil => intro i a h; simp at h
  | cons r _ ih =>
    intro i a h
    cases i with
    | zero =>
      simp at h
      subst h
      exact ⟨_, rfl, r⟩
    | succ i =>
      simp at h
      obtain ⟨b, h1, h2⟩ := ih h
      exact ⟨b, by simpa using h1, h2⟩
theorem pfl {x : Str} {v : V} {n : Nat} : ∀ {l : List (Str × V)}, l.length < n → (putF x v l).length < n + 1
  | [], h => by
    show 1 < n + 1
    have : 0 < n := h
    omega
  | (y, z) :: l, h => by
    show (if y = x then (y, v) :: l else (y, z) :: putF x v l).length < n + 1
    have h' : l.length < n - 1 := by have : l.length + 1 < n := h; omega
    split
    · exact Nat.lt_succ_of_lt h
    · have := pfl (x := x) (v := v) h'
      show (putF x v l).length + 1 < n + 1
      omega
theorem pf1 {x : Str} {v : V} : (putF x v []).length < 1000 := Nat.lt_of_lt_of_le (pfl (n := 1) Nat.zero_lt_one) (by decide)
theorem pf2 {x x2 : Str} {v v2 : V} : (putF x2 v2 (putF x v [])).length < 1000 := Nat.lt_of_lt_of_le (pfl (pfl (n := 1) Nat.zero_lt_one)) (by decide)
theorem pf3 {x x2 x3 : Str} {v v2 v3 : V} : (putF x3 v3 (putF x2 v2 (putF x v []))).length < 1000 := Nat.lt_of_lt_of_le (pfl (pfl (pfl (n := 1) Nat.zero_lt_one))) (by decide)
theorem pr_map1 {α β γ : Type} {R : α → γ → Prop} {g : β → γ} {l : List α} {m : List β} (p : PySem.Paired (fun a b => R a (g b)) l m) : PySem.Paired R l (m.map g) := by
  induction p with
  | nil => exact .nil
  | cons r _ ih => exact .cons r ih
theorem pr_snoc {α β : Type} {R : α → β → Prop} {b : β} : ∀ {m : List β} {l : List α}, PySem.Paired R l (m ++ [b]) → ∃ l' a, l = l' ++ [a] ∧ PySem.Paired R l' m ∧ R a b
  | [], l, h => by
    cases h with
    | cons r t =>
      cases t
      exact ⟨[], _, rfl, .nil, r⟩
  | c :: m, l, h => by
    cases h with
    | cons r t =>
      obtain ⟨l', a, rfl, h1, h2⟩ := pr_snoc t
      exact ⟨_ :: l', a, rfl, .cons r h1, h2⟩
theorem pr_app {α β : Type} {R : α → β → Prop} {l l' : List α} {m m' : List β} (h : PySem.Paired R l m) (k : PySem.Paired R l' m') : PySem.Paired R (l ++ l') (m ++ m') := by
  induction h with
  | nil => exact k
  | cons r _ ih => exact .cons r ih
theorem last_get {α : Type} {l : List α} {a : α} : (l ++ [a])[(l ++ [a]).length - 1]? = some a := by
  rw [List.length_append]
  simp
theorem rowK_none {w : Row} {n : Str} (h : n ∉ w.map (·.1)) : valV (rowK w) (Sum.inr n) = none := by
  cases e : valV (rowK w) (Sum.inr n) with
  | none => rfl
  | some v =>
    have := valV_in e
    rw [rowK, List.map_map] at this
    obtain ⟨q, h1, h2⟩ := List.mem_map.mp this
    exact absurd (List.mem_map.mpr ⟨q, h1, Sum.inr.inj h2⟩) h
theorem pr_getR {α β : Type} {R : α → β → Prop} {l : List α} {m : List β} (p : PySem.Paired R l m) : ∀ {i : Nat} {b : β}, m[i]? = some b → ∃ a, l[i]? = some a ∧ R a b := by
  induction p with
  | nil => intro i a h; simp at h
  | cons r _ ih =>
    intro i a h
    cases i with
    | zero =>
      simp at h
      subst h
      exact ⟨_, rfl, r⟩
    | succ i =>
      simp at h
      obtain ⟨b, h1, h2⟩ := ih h
      exact ⟨b, by simpa using h1, h2⟩
end Bl

/-! dicts whose keys are tuples of ints, texts, None and tuples of such -/
namespace Bl
open PySem L2 PySem.Spec PyProof.Rows
mutual
/-- the value is the key -/
inductive NV (K : PySem.W.Frag) (H : Hp) : NestedKey → V → Prop
  | non : NV K H .none .non
  | int (i : Int) : NV K H (.num i) (.int i)
  | str (z : Str) : NV K H (.text z) (.str z)
  | tup {a : Addr} {vs : List V} {ks : List NestedKey} (h : SqT K H a vs) (k : NVs K H ks vs) : NV K H (.tup ks) (.ref a)
inductive NVs (K : PySem.W.Frag) (H : Hp) : List NestedKey → List V → Prop
  | nil : NVs K H [] []
  | cons {k : NestedKey} {v : V} {ks : List NestedKey} {vs : List V} (h : NV K H k v) (t : NVs K H ks vs) : NVs K H (k :: ks) (v :: vs)
end
mutual
theorem NV.mono {K : PySem.W.Frag} {H H' : Hp} (e : Same H H') : ∀ (k : NestedKey) (v : V), NV K H k v → NV K H' k v
  | .none, _, h => by cases h; exact .non
  | .num _, _, h => by cases h; exact .int _
  | .text _, _, h => by cases h; exact .str _
  | .tup ks, _, h => by
    cases h with
    | tup h1 h2 => exact .tup (Same.tup e h1) (NVs.mono e ks _ h2)
theorem NVs.mono {K : PySem.W.Frag} {H H' : Hp} (e : Same H H') : ∀ (ks : List NestedKey) (vs : List V), NVs K H ks vs → NVs K H' ks vs
  | [], _, h => by cases h; exact .nil
  | k :: ks, _, h => by
    cases h with
    | cons h1 h2 => exact .cons (NV.mono e k _ h1) (NVs.mono e ks _ h2)
end
mutual
theorem NV.is {X : Cx} {pins : List (Addr × Obj)} {σ : L2.St} {H : Hp} {s : Shared} (I : Inv X pins σ H s) : ∀ (k : NestedKey) (v : V) (u : Value), NV X.K H k v → RelV v u → NestedIs s.heap k u
  | .none, _, u, h, r => by
    cases h
    cases (show u = Value.none from r)
    exact .none
  | .num i, _, u, h, r => by
    cases h
    obtain ⟨t, q⟩ := (show ∃ t, u = Value.int i t from r)
    cases q
    exact .int i t
  | .text z, _, u, h, r => by
    cases h
    obtain ⟨t, q⟩ := (show ∃ t, u = Value.str z t from r)
    cases q
    exact .text z t
  | .tup ks, _, u, h, r => by
    cases h with
    | @tup a vs _ h1 h2 =>
      cases (show u = Value.ref a from r)
      obtain ⟨its, rv, ⟨o, ho, hc, n, hd⟩, _⟩ := I.tuple h1
      exact .tup ho hc hd (by simpa using NVs.is I ks vs its h2 rv)
theorem NVs.is {X : Cx} {pins : List (Addr × Obj)} {σ : L2.St} {H : Hp} {s : Shared} (I : Inv X pins σ H s) : ∀ (ks : List NestedKey) (vs : List V) (us : List Value), NVs X.K H ks vs → Vals vs us → NestedAll s.heap ks us
  | [], _, _, h, r => by
    cases h
    cases r
    exact .nil
  | k :: ks, _, _, h, r => by
    cases h with
    | cons h1 h2 =>
      cases r with
      | cons r1 r2 => exact .cons (NV.is I k _ _ h1 r1) (NVs.is I ks _ _ h2 r2)
end
mutual
theorem NV.tr {K : PySem.W.Frag} {H H' : Hp} (e : ∀ a xs, SqT K H a xs → SqT K H' a xs) : ∀ (k : NestedKey) (v : V), NV K H k v → NV K H' k v
  | .none, _, h => by cases h; exact .non
  | .num _, _, h => by cases h; exact .int _
  | .text _, _, h => by cases h; exact .str _
  | .tup ks, _, h => by
    cases h with
    | tup h1 h2 => exact .tup (e _ _ h1) (NVs.tr e ks _ h2)
theorem NVs.tr {K : PySem.W.Frag} {H H' : Hp} (e : ∀ a xs, SqT K H a xs → SqT K H' a xs) : ∀ (ks : List NestedKey) (vs : List V), NVs K H ks vs → NVs K H' ks vs
  | [], _, h => by cases h; exact .nil
  | k :: ks, _, h => by
    cases h with
    | cons h1 h2 => exact .cons (NV.tr e k _ h1) (NVs.tr e ks _ h2)
end
/-- a thing that is no tuple is replaced -/
theorem sqt_but {K : PySem.W.Frag} {H H' : Hp} {d : Addr} {o : HO} (hd : H d = some o) (n1 : ∀ xs, o ≠ .tup xs) (n2 : ∀ f xs, o ≠ .frz f (.tup xs)) (e : ∀ c u, c ≠ d → H c = some u → H' c = some u) : ∀ a xs, SqT K H a xs → SqT K H' a xs := fun a xs h => by
  have key : ∀ u, H a = some u → ((∃ xs, u = .tup xs) ∨ ∃ f xs, u = .frz f (.tup xs)) → H' a = some u := fun u hu k => e a u (by
    rintro rfl
    rw [hd] at hu
    cases hu
    rcases k with ⟨xs, rfl⟩ | ⟨f, xs, rfl⟩
    · exact n1 xs rfl
    · exact n2 f xs rfl) hu
  rcases h with (h | ⟨f, h⟩) | h
  · exact .inl (.inl (key _ h (.inl ⟨_, rfl⟩)))
  · exact .inl (.inr ⟨f, key _ h (.inr ⟨_, _, rfl⟩)⟩)
  · exact .inr h
/-- what is true of the dict's object: xs its keys, the keys' objects, its values -/
def dRaw (P : Program) (w : World) (a : Addr) (xs : List (NestedKey × Addr × Value)) (h : Heap) : Prop :=
  (a == sysModules) = false ∧ ∃ o es ep, h.get? a = some o ∧ o.ExactDict ∧ o.data = .dict es ep ∧ es.toList = xs.map (entryOfKey (nestedKind P w)) ∧ (xs.map (·.1)).Nodup
def NO (P : Program) (w : World) (a : Addr) (xs : List (NestedKey × Addr × Value)) : HO := .ext (dRaw P w a xs)
abbrev KN (K : PySem.W.Frag) (H : Hp) : List (NestedKey × V) → List (NestedKey × Addr × Value) → Prop :=
  PySem.Paired fun p q => p.1 = q.1 ∧ (NV K H p.1 (.ref q.2.1) ∧ p.1.depth ≤ 8) ∧ RelV p.2 q.2.2
/-- a dict with the pairs kvs; Rd: it may be locked -/
def ND (P : Program) (w : World) (K : PySem.W.Frag) (H : Hp) (a : Addr) (kvs : List (NestedKey × V)) : Prop := kvs.length ≤ 100000 ∧ ∃ xs, H a = some (NO P w a xs) ∧ KN K H kvs xs
def NDr (P : Program) (w : World) (K : PySem.W.Frag) (H : Hp) (a : Addr) (kvs : List (NestedKey × V)) : Prop := kvs.length ≤ 100000 ∧ ∃ xs, Rd H a (NO P w a xs) ∧ KN K H kvs xs
theorem ND.r {P : Program} {w : World} {K : PySem.W.Frag} {H : Hp} {a : Addr} {kvs : List (NestedKey × V)} (h : ND P w K H a kvs) : NDr P w K H a kvs := ⟨h.1, let ⟨xs, e, k⟩ := h.2; ⟨xs, .inl e, k⟩⟩
theorem KN.mono {K : PySem.W.Frag} {H H' : Hp} (e : Same H H') {kvs : List (NestedKey × V)} {xs : List (NestedKey × Addr × Value)} (h : KN K H kvs xs) : KN K H' kvs xs :=
  L2.Paired.mapP h fun _ _ ⟨a, ⟨b, d⟩, c⟩ => ⟨a, ⟨NV.mono e _ _ b, d⟩, c⟩
theorem ND.mono {P : Program} {w : World} {K : PySem.W.Frag} {H H' : Hp} {a : Addr} {kvs : List (NestedKey × V)} (e : Same H H') (h : ND P w K H a kvs) : ND P w K H' a kvs := ⟨h.1, let ⟨xs, q, k⟩ := h.2; ⟨xs, e _ _ q, KN.mono e k⟩⟩
theorem NDr.mono {P : Program} {w : World} {K : PySem.W.Frag} {H H' : Hp} {a : Addr} {kvs : List (NestedKey × V)} (e : Same H H') (h : NDr P w K H a kvs) : NDr P w K H' a kvs :=
  ⟨h.1, let ⟨xs, q, k⟩ := h.2; ⟨xs, q.elim (fun q => .inl (e _ _ q)) fun ⟨o, q⟩ => .inr ⟨o, e _ _ q⟩, KN.mono e k⟩⟩
section
variable {K : PySem.W.Frag} {H : Hp}
theorem kn_len {kvs : List (NestedKey × V)} {xs : List (NestedKey × Addr × Value)} (h : KN K H kvs xs) : kvs.length = xs.length := by
  induction h with
  | nil => rfl
  | cons _ _ ih => rw [List.length_cons, List.length_cons, ih]
theorem kn_at {kvs : List (NestedKey × V)} {xs : List (NestedKey × Addr × Value)} (h : KN K H kvs xs) (k : NestedKey) : RelO (valV kvs k) ((atKey xs k).map (·.2)) := by
  induction h with
  | nil => exact True.intro
  | @cons p q ps qs hq t ih =>
    by_cases e : p.1 = k
    · rw [valV_pos e]
      have e2 : q.1 = k := hq.1 ▸ e
      have : atKey (q :: qs) k = some q.2 := by simp [atKey, List.find?_cons, e2]
      rw [this]
      exact hq.2.2
    · rw [valV_neg e]
      have e2 : ¬ q.1 = k := hq.1 ▸ e
      have : atKey (q :: qs) k = atKey qs k := by simp [atKey, List.find?_cons, e2]
      rw [this]
      exact ih
end
section
variable {X : Cx} {pins : List (Addr × Obj)} {σ : L2.St} {H : Hp} {s : Shared} {a b : Addr} {kvs : List (NestedKey × V)} {k : NestedKey} {A : Around} {E : Value → Shared → Prop}
theorem nd_raw {P : Program} {w : World} {h : Heap} {xs : List (NestedKey × Addr × Value)} (ok : HOk P w H h) (e : Rd H a (NO P w a xs)) : dRaw P w a xs h := (show ObjOk P w H h a (.ext (dRaw P w a xs)) from Rd.ok e ok).1
theorem nd_of {xs : List (NestedKey × Addr × Value)} (I : Inv X pins σ H s) (e : Rd H a (NO X.prog X.w a xs)) (q : KN X.K H kvs xs) : (a == sysModules) = false ∧ s.heap.DictOfH (nestedKind X.prog X.w) a xs := by
  obtain ⟨hs, o, es, ep, h1, h2, h3, h4, h5⟩ := nd_raw I.hok e
  refine ⟨hs, o, es, ep, h1, h2, h3, h4, ?_, h5⟩
  clear e h4 h5
  induction q with
  | nil => intro x hx; exact nomatch hx
  | @cons p q ps qs hq t ih =>
    intro x hx
    rcases List.mem_cons.mp hx with rfl | hx
    · have := hq.2.1
      rw [hq.1] at this
      exact ⟨NV.is I _ _ _ this.1 rfl, this.2⟩
    · exact ih x hx
theorem nd_new {P : Program} {w : World} {H' : Hp} {h : Heap} {xs : List (NestedKey × Addr × Value)} (r : dRaw P w a xs h) : ObjOk P w H' h a (NO P w a xs) := by
  obtain ⟨hs, o, es, ep, ho, r1⟩ := id r
  exact ⟨r, ⟨o, ho⟩, fun h1 h2 p k => let ⟨hs, o, es, ep, ho, r1⟩ := p; ⟨hs, o, es, ep, k o ho, r1⟩⟩
theorem raw_of {P : Program} {w : World} {h : Heap} {xs : List (NestedKey × Addr × Value)} (hs : (a == sysModules) = false) (r : h.DictOfH (nestedKind P w) a xs) : dRaw P w a xs h :=
  let ⟨o, es, ep, h1, h2, h3, h4, _, h6⟩ := r; ⟨hs, o, es, ep, h1, h2, h3, h4, h6⟩
theorem room8 (hu : X.A.units + 9 < cLine) : (nestedKind X.prog X.w).room X.A.in1 := by
  show X.A.units + 1 + 8 < cLine
  omega
theorem room8' (hu : X.A.units + 9 < cLine) : (nestedKind X.prog X.w).room X.A := by
  show X.A.units + 8 < cLine
  omega
theorem key_is (I : Inv X pins σ H s) (h : NV X.K H k (.ref b)) (hd : k.depth ≤ 8) : (nestedKind X.prog X.w).is s.heap k b := ⟨NV.is I _ _ _ h rfl, hd⟩
end
theorem KN.tr {K : PySem.W.Frag} {H H' : Hp} (e : ∀ a xs, SqT K H a xs → SqT K H' a xs) {kvs : List (NestedKey × V)} {xs : List (NestedKey × Addr × Value)} (h : KN K H kvs xs) : KN K H' kvs xs :=
  L2.Paired.mapP h fun _ _ ⟨a, ⟨b, d⟩, c⟩ => ⟨a, ⟨NV.tr e _ _ b, d⟩, c⟩
theorem KN.repl {K : PySem.W.Frag} {H : Hp} {kvs : List (NestedKey × V)} {xs : List (NestedKey × Addr × Value)} (r : KN K H kvs xs) (k : NestedKey) {y : V} {u : Value} (ry : RelV y u) :
    KN K H (kvs.map fun kv => if kv.1 = k then (kv.1, y) else kv) (xs.map (putAt k u)) := by
  induction r with
  | nil => exact .nil
  | @cons p q ps qs h t ih =>
    rw [List.map_cons, List.map_cons]
    refine .cons ?_ ih
    obtain ⟨h1, h2, h3⟩ := h
    unfold putAt
    by_cases e : p.1 = k
    · rw [if_pos e, if_pos (h1.symm.trans e)]; exact ⟨h1, h2, ry⟩
    · rw [if_neg e, if_neg (fun z => e (h1.trans z))]; exact ⟨h1, h2, h3⟩
theorem KN.put {K : PySem.W.Frag} {H : Hp} {kvs : List (NestedKey × V)} {xs : List (NestedKey × Addr × Value)} (r : KN K H kvs xs) (k : NestedKey) {b : Addr} {y : V} {u : Value} (hb : NV K H k (.ref b)) (hd : k.depth ≤ 8) (ry : RelV y u) :
    KN K H (putK kvs k y) (storedH xs k b u) := by
  have e : (kvs.any fun kv => decide (kv.1 = k)) = (atKey xs k).isSome := by
    rw [valV_any, (kn_at r k).isSome_eq, Option.isSome_map]
  unfold putK storedH
  rw [e]
  by_cases q : (atKey xs k).isSome = true
  · rw [if_pos q, if_pos q]; exact r.repl k ry
  · rw [if_neg q, if_neg q]; exact Paired.snoc r ⟨rfl, ⟨hb, hd⟩, ry⟩
/-! readings -/
def tNGet (P : Program) (w : World) (K : PySem.W.Frag) (td ty : TE) : TE := fun σ H Q => td σ H fun x H1 => ty σ H1 fun y H2 => ∃ a b kvs k v, x = .ref a ∧ y = .ref b ∧ NDr P w K H2 a kvs ∧ NV K H2 k (.ref b) ∧ k.depth ≤ 8 ∧ valV kvs k = some v ∧ Q v H2
def tNIn (P : Program) (w : World) (K : PySem.W.Frag) (ty td : TE) : TE := fun σ H Q => ty σ H fun y H1 => td σ H1 fun x H2 => ∃ a b kvs k, x = .ref a ∧ y = .ref b ∧ NDr P w K H2 a kvs ∧ NV K H2 k (.ref b) ∧ k.depth ≤ 8 ∧ Q (.bl (valV kvs k).isSome) H2
def sNPut (P : Program) (w : World) (K : PySem.W.Frag) (td ty tv : TE) : TS := fun D σ H => tv σ H fun v H1 => td σ H1 fun x H2 => ty σ H2 fun y H3 => ∃ a b kvs k, x = .ref a ∧ y = .ref b ∧ ND P w K H3 a kvs ∧ NV K H3 k (.ref b) ∧ k.depth ≤ 8 ∧ kvs.length < 100000 ∧
  ∀ o, (∀ G, (∀ c u, c ≠ a → H3 c = some u → G c = some u) → G a = some o → ND P w K G a (putK kvs k v)) → D.nx σ (upd H3 a o)
def tNGet2 (P : Program) (w : World) (K : PySem.W.Frag) (td ty tx : TE) : TE := fun σ H Q => td σ H fun x H1 => ∃ a, x = .ref a ∧ (∃ kvs, NDr P w K H1 a kvs) ∧ ty σ H1 fun y H2 => tx σ H2 fun z H3 => ∃ b kvs k, y = .ref b ∧ NDr P w K H3 a kvs ∧ NV K H3 k (.ref b) ∧ k.depth ≤ 8 ∧ Q ((valV kvs k).getD z) H3
def tNNew (P : Program) (w : World) (K : PySem.W.Frag) : TE := fun _ H Q => ∀ p, H p = none → (∀ G, G p = some (NO P w p []) → ND P w K G p []) → Q (.ref p) (upd H p (NO P w p []))
/-- the keys of the locked dict -/
def Itn (P : Program) (w : World) (K : PySem.W.Frag) (d : Addr) (o : Obj) (xs : List (NestedKey × Addr × Value)) : It :=
  ⟨fun i H => H d = some (.frz o (NO P w d xs)) ∧ i < xs.length, fun i H x H' => H' = H ∧ ∃ q, xs[i]? = some q ∧ x = .ref q.2.1, fun i H => H d = some (.frz o (NO P w d xs)) ∧ xs.length ≤ i⟩
def iNKeys (P : Program) (w : World) (K : PySem.W.Frag) (td : TE) : TI := fun σ H R => td σ H fun x H1 => ∃ d o xs, x = .ref d ∧ H1 d = some (.frz o (NO P w d xs)) ∧ R (Itn P w K d o xs) H1
section
variable {X : Cx} {o i e f value : Expr} {pos pos' apos cpos : Pos} {td ty tv tx : TE}
theorem nd_ty {pins : List (Addr × Obj)} {σ : L2.St} {H : Hp} {s : Shared} {a : Addr} {kvs : List (NestedKey × V)} (I : Inv X pins σ H s) (h : NDr X.prog X.w X.K H a kvs) : s.TypeIs (.ref a) "dict" := by
  obtain ⟨_, xs, e, q⟩ := h
  exact (nd_of I e q).2.typeIs
theorem pe_nget (hu : X.A.units + 9 < cLine) (ho : PE X o td) (hi : PE X i ty) (hs : NoSl i) : PE X (.Subscript o i pos) (tNGet X.prog X.w X.K td ty) := by
  refine ⟨fun pins s σ H Q I h => ?_⟩
  refine subD_of PySem.F.slot_dict_getitem.lookup hs (thn (ho.run pins s σ H _ I h) fun u s1 ⟨x, H1, I1, rx, q1⟩ => thn (hi.run pins s1 σ H1 _ I1 q1) fun iv s2 ⟨y, H2, I2, ry, a, b, kvs, k, v, ex, ey, g, nk, dk, hv, q2⟩ => ?_)
  subst ex ey
  obtain rfl : u = Value.ref a := rx
  obtain rfl : iv = Value.ref b := ry
  refine ⟨nd_ty I2 g, ?_⟩
  obtain ⟨_, xs, e, q⟩ := g
  obtain ⟨hsm, hm⟩ := nd_of I2 e q
  obtain ⟨w', hw, rw'⟩ := RelO.some_of (v := v) (o := (atKey xs k).map (·.2)) (by rw [← hv]; exact kn_at q k)
  obtain ⟨p, hp, hp2⟩ := Option.map_eq_some_iff.mp hw
  refine wpAny_getItem_heap (room8 hu) (key_is I2 nk dk) hm hp ?_
  rw [hp2]
  exact ⟨v, H2, I2.tok _, rw', q2⟩
theorem pc_nin (hu : X.A.units + 9 < cLine) (hi : PE X i ty) (ho : PE X o td) : PC X .In i o (tNIn X.prog X.w X.K ty td) := by
  refine ⟨fun pins s σ H Q I h => ?_⟩
  refine thn (hi.run pins s σ H _ I h) fun iv s1 ⟨y, H1, I1, ry, q1⟩ => thn (ho.run pins s1 σ H1 _ I1 q1) fun u s2 ⟨x, H2, I2, rx, a, b, kvs, k, ex, ey, g, nk, dk, q2⟩ => ?_
  subst ex ey
  obtain rfl : u = Value.ref a := rx
  obtain rfl : iv = Value.ref b := ry
  obtain ⟨_, xs, e, q⟩ := g
  obtain ⟨hsm, hm⟩ := nd_of I2 e q
  refine wpAny_in_heap (room8 hu) (key_is I2 nk dk) hsm hm ?_
  have z := (kn_at q k).isSome_eq
  rw [Option.isSome_map] at z
  rw [← z]
  exact ⟨.bl _, H2, I2.tok _, rfl, q2⟩
theorem pc_ninC {P : Program} {w : World} {K : PySem.W.Frag} (h1 : X.prog = P) (h2 : X.w = w) (h3 : X.K = K) (hu : X.A.units + 9 < cLine) (hi : PE X i ty) (ho : PE X o td) : PC X .In i o (tNIn P w K ty td) := by
  subst h1 h2 h3
  exact pc_nin hu hi ho
theorem big {n : Nat} (h : n ≤ 100000) : n ≤ sizeLine := small (by omega)
theorem ps_nput (hu : X.A.units + 9 < cLine) (ho : PE X o td) (hi : PE X i ty) (hv : PE X value tv) (hs : swapsWith value (some (.Subscript o i pos')) pos.line X.env = pure false) :
    PS X (.Assign [.Subscript o i pos'] value pos) (sNPut X.prog X.w X.K td ty tv) := by
  refine ⟨fun pins s σ H D I h => ?_⟩
  refine wpAny_Assign_Subscript (thn (hv.run pins s σ H _ I h) fun r s1 ⟨v, H1, I1, rv, q1⟩ => thn (ho.run pins s1 σ H1 _ I1 q1) fun u s2 ⟨x, H2, I2, rx, q2⟩ => thn (hi.run pins s2 σ H2 _ I2 q2) fun iv s3 ⟨y, H3, I3, ry, a, b, kvs, k, ex, ey, g, nk, dk, hl, q3⟩ => ?_) hs
  subst ex ey
  obtain rfl : u = Value.ref a := rx
  obtain rfl : iv = Value.ref b := ry
  obtain ⟨_, xs, e, q⟩ := g
  obtain ⟨hsm, hm⟩ := nd_of I3 (.inl e) q
  have hz : xs.length ≤ sizeLine := big (by rw [← kn_len q]; omega)
  refine wpAny_setItem_heap (hsz := hz) (room8 hu) (key_is I3 nk dk) hm fun h' dd' hs' => ?_
  have r1 := raw_of hsm dd'
  have he : ∃ q, h'.get? a = some q := let ⟨_, o, _, _, ho, _⟩ := r1; ⟨o, ho⟩
  refine ⟨σ, _, d_write I3 (by rw [e]; exact True.intro) hs' he (nd_new r1), q3 _ fun G hG hGa => ⟨?_, _, hGa, ?_⟩⟩
  · have := length_putK kvs k v
    omega
  · exact KN.tr (sqt_but e (fun _ z => nomatch z) (fun _ _ z => nomatch z) hG) (q.put k nk dk rv)
theorem pe_nget2 (hu : X.A.units + 9 < cLine) (ho : PE X o td) (he : PE X e ty) (hf : PE X f tx) (m : M2 X o "get" apos e f cpos) : PE X (.Call (.Attribute o "get" apos) [e, f] [] cpos) (tNGet2 X.prog X.w X.K td ty tx) := by
  refine ⟨fun pins s σ H Q I h => ?_⟩
  refine wpAny_Call_method m.base m.few m.line PySem.F.plainAttrs_dict PySem.F.slot_dict_get PySem.F.type_dict_get (thn (ho.run pins s σ H _ I h) fun u s1 ⟨x, H1, I1, rx, a, ex, ⟨kv0, d⟩, q1⟩ => ?_)
  subst ex
  obtain rfl : u = Value.ref a := rx
  refine ⟨nd_ty I1 d, ?_, ?_⟩
  · obtain ⟨_, xs, e, _⟩ := d
    obtain ⟨_, ob, _, _, h1, h2, _⟩ := nd_raw I1.hok e
    intro b q
    cases q
    exact ⟨ob, h1, h2.2.1⟩
  rw [m.trees]
  refine Calls.callWith_builtin rfl (Calls.evalArgs_plain (Calls.spliced_cons (thn (he.run pins s1 σ H1 _ I1 q1) fun iv s2 ⟨y, H2, I2, ry, q2⟩ =>
    Calls.spliced_cons (thn (hf.run pins s2 σ H2 _ I2 q2) fun fv s3 ⟨z, H3, I3, rz, b, kvs, k, ey, g, nk, dk, q3⟩ => Calls.spliced_nil ?_))))
  subst ey
  obtain rfl : iv = Value.ref b := ry
  obtain ⟨_, xs, e, q⟩ := g
  obtain ⟨hsm, hm⟩ := nd_of I3 e q
  refine call_meetsIn PySem.F.slot_dict_get hm.typeIs PySem.F.entry_dict_get (PySem.F.args_dict_get_3 _ _ _) (meetsH_dict_get_default (nestedKind X.prog X.w) a b hsm fv) ⟨room8 hu, k, xs, key_is I3 nk dk, hm, ?_⟩
  exact ⟨_, H3, I3.tok _, (kn_at q k).getD rz, q3⟩
theorem pe_nnew : PE X (.Dict [] [] pos) (tNNew X.prog X.w X.K) := ⟨fun pins s σ H Q I h => by
  have hr : dRaw X.prog X.w s.heap.objs.size [] (s.heap.push { cls := .type "dict", data := .dict #[] }) :=
    ⟨beq_eq_false_iff_ne.mpr (Ne.symm (Nat.ne_of_lt I.big)), _, #[], 0, Heap.get?_push_size _ rfl, ⟨rfl, rfl, rfl⟩, rfl, rfl, List.nodup_nil⟩
  exact wpAny_Dict_empty ⟨.ref s.heap.objs.size, _, I.laid (a := s.heap.objs.size) (o := NO X.prog X.w s.heap.objs.size []) (t' := s.toks) (fun _ _ q => Heap.get?_push_of_some _ q) (Nat.le_refl _) (nd_new hr), rfl, h _ (I.hok.fresh (Nat.le_refl _)) fun G hG => ⟨Nat.zero_le _, [], hG, .nil⟩⟩⟩
end
/-! walks -/
theorem Inv.frzN {X : Cx} {pins : List (Addr × Obj)} {σ : L2.St} {H : Hp} {s : Shared} {d : Addr} {o : Obj} {xs : List (NestedKey × Addr × Value)} (I : Inv X pins σ H s) (h : H d = some (.frz o (NO X.prog X.w d xs))) :
    (d == sysModules) = false ∧ s.heap.get? d = some o ∧ o.ExactDict ∧ ∃ (es : Array DictEntry) (ep : Nat), o.data = .dict es ep ∧ es.size = xs.length ∧
      ∀ (i : Nat) (q : NestedKey × Addr × Value), xs[i]? = some q → ∃ en : DictEntry, es[i]? = some en ∧ en.key = .ref q.2.1 := by
  obtain ⟨hd, hr, _⟩ := (show ObjOk X.prog X.w H s.heap d (.frz o (NO X.prog X.w d xs)) from I.hok d _ h)
  obtain ⟨hs, o', es, ep, ho, hx, hdt, he, _⟩ := hr
  rw [hd] at ho
  cases ho
  refine ⟨hs, hd, hx, es, ep, hdt, size_of_entries he, fun i q e => ?_⟩
  have z := entry_at he i
  rw [e] at z
  exact ⟨_, z, rfl⟩
section
variable {P : Program} {w : World} {K : PySem.W.Frag} {tg : Expr} {d : Addr} {o : Obj} {es : Array DictEntry} {ep : Nat}
theorem turn_keysN {xs : List (NestedKey × Addr × Value)} (it : Addr) (hod : o.data = .dict es ep) : Turn P w K tg (Itn P w K d o xs) [it] it (fun i h => h.IsKeyIter it d i xs.length ep) where
  mem := by simp
  obj := fun i h st b hb => by
    have e : b = it := by simpa using hb
    subst e
    obtain ⟨oi, e, c, dd⟩ := st
    exact ⟨oi, e, fun v z => by rw [dd] at z; cases z⟩
  keep := fun i h h' st k => st.at fun oi e => k it (by simp) oi e
  item := by
    intro X hP hw hK hc i pins s σ H E I hf st hg
    subst hP hw hK
    obtain ⟨hd, hi⟩ := hg
    obtain ⟨f0, f1, f2, f3, f4, f5⟩ := hf it (by simp)
    obtain ⟨hs, hgd, hx, es', ep', hdt, hsz, ent⟩ := Inv.frzN I hd
    obtain ⟨rfl, rfl⟩ := dict_ep hod hdt
    obtain ⟨q, hq⟩ : ∃ p, xs[i]? = some p := ⟨xs[i], List.getElem?_eq_getElem hi⟩
    obtain ⟨en, hen, hkey⟩ := ent i q hq
    refine next_key_item st hgd hdt hsz hen fun h' st' sb => ?_
    have I1 : Inv X pins σ H { s with heap := h' } := I.turned (t' := s.toks) (fun b ob hb e => (sb.2 b hb).trans e) f0 f1 f3 f4 f5
    obtain ⟨oi, e, c, dd⟩ := id st'
    exact ⟨en.key, rfl, go_of (s := { s with heap := h' }) e c dd (by decide) ⟨.ref q.2.1, H, I1, hkey, ⟨rfl, q, hq, rfl⟩, st', fun b hb => (hf b hb).1⟩⟩
  done := by
    intro X hP hw hK hc i pins s σ H E I hf st hg
    subst hP hw hK
    obtain ⟨hd, hi⟩ := hg
    obtain ⟨f0, f1, f2, f3, f4, f5⟩ := hf it (by simp)
    obtain ⟨hs, hgd, hx, es', ep', hdt, hsz, ent⟩ := Inv.frzN I hd
    obtain ⟨rfl, rfl⟩ := dict_ep hod hdt
    exact next_key_end (I.ok.hd hc) st hgd hdt hsz hi fun h' eb => ⟨rfl, I.turned (t' := s.toks) (fun b ob hb e => eb b ob hb e) f0 f1 f3 f4 f5⟩
  self := fun A i s Q E st h => by
    refine wpAny_pyIter_slot st.typeIs PySem.F.slot_dict_keyiterator_iter (wpAny_call_entry PySem.F.slot_dict_keyiterator_iter st.typeIs PySem.F.entry_dict_keyiterator_iter ?_ (PySem.F.args_dict_keyiterator_iter_1 _))
    show wpAny _ _ (ret (.ref it)) _ _ s
    exact wpAny_pure ⟨_, rfl, "dict_keyiterator", _, st.typeIs, PySem.F.slot_dict_keyiterator_next.lookup, h⟩
end
theorem pi_nkeys {X : Cx} {tg e : Expr} {td : TE} (he : PE X e td) : PI X tg e (iNKeys X.prog X.w X.K td) := by
  refine ⟨fun pins s σ H R I h => ?_⟩
  refine thn (he.run pins s σ H _ I h) fun u s1 ⟨x, H1, I1, rx, d, o, xs, ex, hd, q⟩ => ?_
  subst ex
  obtain rfl : u = Value.ref d := rx
  obtain ⟨hs, hgd, hx, es, ep, hdt, hsz, ent⟩ := Inv.frzN I1 hd
  refine iter_keys hs hgd hx hdt (pi_one (tk := s1.toks) I1 _ (turn_keysN _ hdt) ⟨_, Heap.get?_push_size _ rfl, rfl, ?_⟩ q)
  rw [hsz] <;> rfl
theorem walk_keysN {P : Program} {w : World} {K : PySem.W.Frag} {d : Addr} {o : Obj} {xs : List (NestedKey × Addr × Value)} : Walk (Itn P w K d o xs) xs.length (fun H => H d = some (.frz o (NO P w d xs)))
    (fun i H x H' => H' = H ∧ ∃ q, xs[i]? = some q ∧ x = .ref q.2.1) :=
  ⟨fun _ _ hi q => ⟨q, hi⟩, fun _ q => ⟨q, Nat.le_refl _⟩, fun _ _ _ _ _ _ y => y⟩
end Bl

/-! rows that are alike: the marks of rows, and the plain rule -/
namespace Bl
open PySem L2
def look (r : Row) (f : Str) : Option Str := (r.find? fun q => decide (q.1 = f)).map (·.2)
theorem look_rowK (r : Row) (f : Str) : valV (rowK r) (Sum.inr f) = (look r f).map V.str := by
  induction r with
  | nil => rfl
  | cons p r ih =>
    show valV ((Sum.inr p.1, V.str p.2) :: rowK r) (Sum.inr f) = _
    by_cases e : p.1 = f
    · rw [valV_pos (by show (Sum.inr p.1 : Key) = _; rw [e])]
      simp [look, e]
    · rw [valV_neg (by
        intro h
        exact e (Sum.inr.inj h)), ih]
      simp [look, List.find?_cons, e]
def vals (r : Row) : List Str → Option (List Str)
  | [] => some []
  | f :: fs => match look r f, vals r fs with
    | some x, some xs => some (x :: xs)
    | _, _ => none
theorem vals_some {r : Row} : ∀ {th : List Str}, (∀ f ∈ th, (look r f).isSome = true) → ∃ vs : List Str, vals r th = some vs ∧ vs.length = th.length ∧ ∀ (i : Nat) (f : Str), th[i]? = some f → ∃ x : Str, vs[i]? = some x ∧ look r f = some x
  | [], _ => ⟨[], rfl, rfl, fun i f h => by simp at h⟩
  | f :: th, h => by
    obtain ⟨x, hx⟩ := Option.isSome_iff_exists.mp (h f List.mem_cons_self)
    obtain ⟨vs, h1, h2, h3⟩ := vals_some (th := th) fun g hg => h g (List.mem_cons_of_mem _ hg)
    refine ⟨x :: vs, by simp [vals, hx, h1], by simp [h2], fun i g hg => ?_⟩
    cases i with
    | zero =>
      simp at hg
      subst hg
      exact ⟨x, by simp, hx⟩
    | succ i =>
      simp at hg
      obtain ⟨y, h4, h5⟩ := h3 i g hg
      exact ⟨y, by simpa using h4, h5⟩
theorem vals_none {r : Row} : ∀ {th : List Str}, (∃ f ∈ th, look r f = none) → vals r th = none
  | [], h => by
    obtain ⟨f, hf, _⟩ := h
    cases hf
  | f :: th, h => by
    obtain ⟨g, hg, hn⟩ := h
    rcases List.mem_cons.mp hg with rfl | hg
    · simp [vals, hn]
    · have := vals_none (th := th) ⟨g, hg, hn⟩
      unfold vals
      rw [this]
      split <;> simp_all
def mkey (n : Nat) (vs : List Str) : NestedKey := .tup [.num n, .tup (vs.map .text)]
theorem map_text_inj {a b : List Str} (h : a.map NestedKey.text = b.map NestedKey.text) : a = b := by
  induction a generalizing b with
  | nil =>
    cases b with
    | nil => rfl
    | cons _ _ => cases h
  | cons x a ih =>
    cases b with
    | nil => cases h
    | cons y b =>
      rw [List.map_cons, List.map_cons] at h
      injection h with h1 h2
      injection h1 with h1
      rw [h1, ih h2]
theorem mkey_inj {n m : Nat} {a b : List Str} (h : mkey n a = mkey m b) : n = m ∧ a = b := by
  unfold mkey at h
  injection h with h
  injection h with h1 h2
  injection h1 with h1
  injection h2 with h2 _
  injection h2 with h2
  exact ⟨by omega, map_text_inj h2⟩
def marks (r : Row) : Nat → List (List Str) → List NestedKey
  | _, [] => []
  | n, th :: ths => match vals r th with
    | some vs => mkey n vs :: marks r (n + 1) ths
    | none => marks r (n + 1) ths
theorem mem_marks {r : Row} {k : NestedKey} : ∀ {n : Nat} {ths : List (List Str)}, k ∈ marks r n ths ↔ ∃ j th vs, ths[j]? = some th ∧ vals r th = some vs ∧ k = mkey (n + j) vs
  | n, [] => by simp [marks]
  | n, th :: ths => by
    have ih := mem_marks (r := r) (k := k) (n := n + 1) (ths := ths)
    unfold marks
    constructor
    · intro h
      cases e : vals r th with
      | none =>
        rw [e] at h
        obtain ⟨j, t, vs, h1, h2, h3⟩ := ih.mp h
        exact ⟨j + 1, t, vs, by simpa using h1, h2, by rw [h3, show n + 1 + j = n + (j + 1) by omega]⟩
      | some vs =>
        rw [e] at h
        rcases List.mem_cons.mp h with rfl | h
        · exact ⟨0, th, vs, rfl, e, rfl⟩
        · obtain ⟨j, t, vs, h1, h2, h3⟩ := ih.mp h
          exact ⟨j + 1, t, vs, by simpa using h1, h2, by rw [h3, show n + 1 + j = n + (j + 1) by omega]⟩
    · rintro ⟨j, t, vs, h1, h2, h3⟩
      cases j with
      | zero =>
        simp at h1
        subst h1
        rw [h2]
        exact List.mem_cons.mpr (.inl h3)
      | succ j =>
        have : k ∈ marks r (n + 1) ths := ih.mpr ⟨j, t, vs, by simpa using h1, h2, by rw [h3, show n + 1 + j = n + (j + 1) by omega]⟩
        split
        · exact List.mem_cons_of_mem _ this
        · exact this
theorem marks_len {r : Row} : ∀ {n : Nat} {ths : List (List Str)}, (marks r n ths).length ≤ ths.length
  | n, [] => by simp [marks]
  | n, th :: ths => by
    have ih := marks_len (r := r) (n := n + 1) (ths := ths)
    unfold marks
    split
    · rw [List.length_cons, List.length_cons]
      omega
    · rw [List.length_cons]
      omega
theorem marks_app {r : Row} : ∀ {n : Nat} {as bs : List (List Str)}, marks r n (as ++ bs) = marks r n as ++ marks r (n + as.length) bs
  | n, [], bs => by simp [marks]
  | n, a :: as, bs => by
    have ih := marks_app (r := r) (n := n + 1) (as := as) (bs := bs)
    rw [List.cons_append, marks, marks, ih, List.length_cons, show n + 1 + as.length = n + (as.length + 1) by omega]
    split <;> simp
/-- alike in one thing -/
def same1 (a b : Row) (th : List Str) : Bool := th.all fun f => match look a f, look b f with
  | some x, some y => decide (x = y)
  | _, _ => false
def meet (ths : List (List Str)) (a b : Row) : Bool := ths.any (same1 a b)
theorem same1_iff {a b : Row} : ∀ {th : List Str}, same1 a b th = true ↔ ∃ vs, vals a th = some vs ∧ vals b th = some vs
  | [] => by simp [same1, vals]
  | f :: th => by
    have ih := same1_iff (a := a) (b := b) (th := th)
    unfold same1 at ih ⊢
    rw [List.all_cons, Bool.and_eq_true, ih]
    constructor
    · rintro ⟨h1, vs, h2, h3⟩
      cases e1 : look a f with
      | none => rw [e1] at h1; cases h1
      | some x =>
        cases e2 : look b f with
        | none => rw [e1, e2] at h1; cases h1
        | some y =>
          rw [e1, e2] at h1
          have := of_decide_eq_true h1
          subst this
          exact ⟨x :: vs, by simp [vals, e1, h2], by simp [vals, e2, h3]⟩
    · rintro ⟨vs, h2, h3⟩
      unfold vals at h2 h3
      cases e1 : look a f with
      | none => rw [e1] at h2; cases h2
      | some x =>
        cases e2 : look b f with
        | none => rw [e2] at h3; cases h3
        | some y =>
          rw [e1] at h2
          rw [e2] at h3
          cases e3 : vals a th with
          | none => rw [e3] at h2; cases h2
          | some us =>
            cases e4 : vals b th with
            | none => rw [e4] at h3; cases h3
            | some ws =>
              rw [e3] at h2
              rw [e4] at h3
              injection h2 with h2
              injection h3 with h3
              rw [← h2] at h3
              injection h3 with h5 h6
              subst h5 h6
              exact ⟨decide_eq_true rfl, _, rfl, rfl⟩
theorem has_one {a b : Row} {n : Nat} {ths : List (List Str)} : (marks a n ths).any (fun m => decide (m ∈ marks b n ths)) = meet ths a b := by
  rw [Bool.eq_iff_iff, List.any_eq_true]
  unfold meet
  rw [List.any_eq_true]
  constructor
  · rintro ⟨m, h1, h2⟩
    obtain ⟨j, th, vs, e1, e2, e3⟩ := mem_marks.mp h1
    obtain ⟨j', th', vs', f1, f2, f3⟩ := mem_marks.mp (of_decide_eq_true h2)
    obtain ⟨g1, g2⟩ := mkey_inj (e3.symm.trans f3)
    obtain rfl : j = j' := by omega
    rw [e1] at f1
    cases f1
    subst g2
    exact ⟨th, List.mem_of_getElem? e1, same1_iff.mpr ⟨vs, e2, f2⟩⟩
  · rintro ⟨th, h1, h2⟩
    obtain ⟨vs, e1, e2⟩ := same1_iff.mp h2
    obtain ⟨j, hj⟩ := List.mem_iff_getElem?.mp h1
    exact ⟨mkey (n + j) vs, mem_marks.mpr ⟨j, th, vs, hj, e1, rfl⟩, decide_eq_true (mem_marks.mpr ⟨j, th, vs, hj, e2, rfl⟩)⟩
theorem same1_comm {a b : Row} {th : List Str} : same1 a b th = same1 b a th := by
  rw [Bool.eq_iff_iff, same1_iff, same1_iff]
  exact ⟨fun ⟨vs, h, k⟩ => ⟨vs, k, h⟩, fun ⟨vs, h, k⟩ => ⟨vs, k, h⟩⟩
theorem meet_comm {ths : List (List Str)} {a b : Row} : meet ths a b = meet ths b a := by
  unfold meet
  congr 1
  funext th
  exact same1_comm
/-- the elder rows that are alike with a row, ascending -/
def alikes (ths : List (List Str)) (rows : List Row) (w : Row) : List Nat := (List.range rows.length).filter fun i => match rows[i]? with
  | some e => meet ths e w
  | none => false
def inLot (sides : List Str) (z : Str) (is : List Nat) : List Nat := is.filter fun i => decide (sides[i]? = some z)
end Bl

/-! len(set(t)), t a tuple of any texts: how many different ones -/
namespace Bl
open PySem PySem.Spec PyProof.Rows L2
/-- the different ones among the first i -/
def nDiff (xs : List Str) : Nat → Nat
  | 0 => 0
  | i + 1 => if ((xs.take i).any (· == xs.getD i Str.empty)) = true then nDiff xs i else nDiff xs i + 1
theorem nDiff_le (xs : List Str) : ∀ i, nDiff xs i ≤ i
  | 0 => Nat.le_refl _
  | i + 1 => by
    have := nDiff_le xs i
    unfold nDiff
    split <;> omega
theorem take_any {xs : List Str} {i : Nat} (h : i < xs.length) (k : Str) : (xs.take (i + 1)).any (· == k) = ((xs.take i).any (· == k) || decide (k = xs.getD i Str.empty)) := by
  rw [List.take_add_one, List.getElem?_eq_getElem h, List.any_append, List.getD_eq_getElem?_getD, List.getElem?_eq_getElem h]
  congr 1
  show (xs[i] == k || false) = decide (k = xs[i])
  rw [Bool.or_false]
  by_cases e : k = xs[i]
  · rw [e, decide_eq_true rfl]
    exact beq_self_eq_true _
  · rw [decide_eq_false e]
    exact beq_eq_false_iff_ne.mpr fun h => e h.symm
/-- as many as there are, where none stands twice -/
theorem nDiff_nodup {xs : List Str} (nd : xs.Nodup) : ∀ i, i ≤ xs.length → nDiff xs i = i
  | 0, _ => rfl
  | i + 1, h => by
    have hi : i < xs.length := h
    unfold nDiff
    rw [nDiff_nodup nd i (by omega), if_neg]
    rw [List.any_eq_true]
    rintro ⟨x, hx, e⟩
    have e1 : x = xs[i] := by
      have := eq_of_beq e
      rw [this, List.getD_eq_getElem?_getD, List.getElem?_eq_getElem hi]
      rfl
    obtain ⟨j, hj, e2⟩ := List.getElem_of_mem hx
    rw [List.length_take] at hj
    rw [List.getElem_take] at e2
    have := (List.getElem_inj nd).mp (e2.trans e1)
    omega
theorem nDiff_lt {xs : List Str} : ∀ i, i ≤ xs.length → (∃ a b, a < b ∧ b < i ∧ xs.getD a Str.empty = xs.getD b Str.empty) → nDiff xs i < i
  | 0, _, ⟨a, b, h1, h2, _⟩ => by omega
  | i + 1, h, ⟨a, b, h1, h2, h3⟩ => by
    have := nDiff_le xs i
    unfold nDiff
    by_cases e : b = i
    · subst e
      rw [if_pos]
      · omega
      · rw [List.any_eq_true]
        have ha : a < xs.length := by omega
        refine ⟨xs[a], ?_, ?_⟩
        · refine List.mem_iff_getElem.mpr ⟨a, by rw [List.length_take]; omega, by rw [List.getElem_take]⟩
        · rw [← h3, List.getD_eq_getElem?_getD, List.getElem?_eq_getElem ha]
          exact beq_self_eq_true _
    · have := nDiff_lt i (by omega) ⟨a, b, h1, by omega, h3⟩
      split <;> omega
section
variable {prog : Program} {w : World} {A : Around} {R : Result → Shared → Prop} {it : Addr} {fp wr : List Addr} {G : Array GenState → Array GenState → Prop} {n : Nat} {P : Nat → Value → Prop} {St : Nat → Shared → Prop}
/-- the loop that puts the items in -/
theorem put_all (W : WalksS prog w A.in1 it fp wr G n P St) (S : Addr) (out : S ∉ fp) (xs : List Str) (hx : xs.length = n) (small : n + 1 < scanBound) (hv : ∀ i v, P i v → ∃ t, v = .str (xs.getD i Str.empty) t) (m : Nat) :
    ∀ (i : Nat) (s : Shared), n - i = m → i ≤ n → St i s → s.heap.SetOf (PySem.strKind prog w) S (fun k => (xs.take i).any (· == k)) (nDiff xs i) →
      (∀ s', Moved (S :: wr) G s s' → s'.heap.SetOf (PySem.strKind prog w) S (fun k => (xs.take n).any (· == k)) (nDiff xs n) → R (.ok (.ret .none)) s') → codeAny (model prog w) A (.builtin "set.update.loop" ⟨[.ref S, .ref it], []⟩) R s := by
  have outw : S ∉ wr := fun h => out (W.sub _ h)
  have keep : ∀ {s s' : Shared} {T : Str → Bool} {c : Nat}, Moved wr G s s' → s.heap.SetOf (PySem.strKind prog w) S T c → s'.heap.SetOf (PySem.strKind prog w) S T c := fun mv ⟨o, es, ep, t, ho, r⟩ => ⟨o, es, ep, t, mv.heap S _ outw ho, r⟩
  have more : ∀ b ∈ wr, b ∈ S :: wr := fun b hb => List.mem_cons_of_mem _ hb
  induction m with
  | zero =>
    intro i s hm hi st hS k
    obtain rfl : i = n := by omega
    refine codeAny_builtin PyProof.Rows.F.entry_set_update_loop ?_
    rw [Around.under_plainId PyProof.Rows.F.plain_set_update_loop _]
    exact wpAny_bind (W.done s _ _ st fun s' mv => wpAny_pure (k s' (mv.mono more) (keep mv hS)))
  | succ m ih =>
    intro i s hm hi st hS k
    have hlt : i < n := by omega
    refine codeAny_builtin PyProof.Rows.F.entry_set_update_loop ?_
    rw [Around.under_plainId PyProof.Rows.F.plain_set_update_loop _]
    refine wpAny_bind (W.item i s _ _ hlt st fun v s' hP st' mv => ?_)
    obtain ⟨t, rfl⟩ := hv i v hP
    have hS' := keep mv hS
    have hle := nDiff_le xs i
    show wpAny _ A.in1 (holding [Value.str (xs.getD i Str.empty) t] (setAdd S (.str (xs.getD i Str.empty) t)) >>= _) _ _ s'
    refine wpAny_bind (wpAny_holding ?_)
    unfold setAdd
    refine wpAny_holding (wpAny_bind ((PySem.strKind prog w).pyHash (k := xs.getD i Str.empty) (strKind_is _ _ _ _) ?_))
    refine wpAny_setAddHashed_of (knd := PySem.strKind prog w) (s := { s' with toks := s'.toks + 1 }) (strKind_is _ _ _ _) rfl hS' (by omega) fun h' but hS2 => ?_
    have hS3 : h'.SetOf (PySem.strKind prog w) S (fun k => (xs.take (i + 1)).any (· == k)) (nDiff xs (i + 1)) := SetOf_congr hS2 (fun k => (take_any (by omega) k).symm) (by rw [nDiff])
    refine wpAny_pure ⟨plainId_quiet PyProof.Rows.F.plain_set_update_loop _, ih (i + 1) _ (by omega) hlt (W.frame _ s' _ _ st' (Nat.le_succ _) fun b hb o e => ?_) hS3 fun s'' mv2 hS4 => k s'' (Moved.trans W.gtrans ((mv.mono more).then_heap (Nat.le_succ _) fun b o hb e => ?_) mv2) hS4⟩
    · exact (but.2 b fun h => out (h ▸ hb)).trans e
    · exact (but.2 b fun h => hb (h ▸ List.mem_cons_self)).trans e
end
section
variable {prog : Program} {w : World} {A : Around} {E : Value → Shared → Prop} {s : Shared}
set_option maxHeartbeats 3200000 in
/-- set(t) -/
theorem set_of_tup {l : Addr} {items : Array Value} {xs : List Str} {Q : Value → Shared → Prop} (hh : A.handled = none) (ht : s.heap.IsTuple l items) (hi : PyProof.Rows.StrsAre items.toList xs) (few : xs.length + 1 < scanBound)
    (k : ∀ (h' : Heap) (tk : Nat), h'.SetOf (PySem.strKind prog w) s.heap.objs.size (fun k => (xs.take xs.length).any (· == k)) (nDiff xs xs.length) → (∀ b o, b < s.heap.objs.size → s.heap.get? b = some o → h'.get? b = some o) →
      Q (.ref s.heap.objs.size) { s with heap := h', toks := tk }) : wpAny (model prog w) A (call (.type "set") [.ref l]) Q E s := by
  obtain ⟨c, tl, hmro⟩ := PySem.F.called_set.mro
  have g1 := PySem.F.called_set.made
  have g2 := PySem.F.called_set.sub
  refine wpAny_call (codeAny_of_tree ?_)
  show wpAny _ _ (callAny (.type "set") _) _ _ _
  refine wpAny_pure ⟨Code.quiet_builtin _ (by decide +kernel), codeAny_builtin PySem.F.entry_type_call ?_⟩
  rw [Around.under_plain (weight_type_call_type "set" [.ref l] []) rfl]
  have g3 := PySem.F.called_set.notType
  have g4 := PySem.F.called_set.canCreate
  have g5 := PySem.F.typeCall_set_1 (.ref l)
  repeat (any_goals (first | assumption | wp_step))
  have hsz : xs.length = items.size := by rw [← StrsAre.len_eq hi, Array.length_toList]
  refine codeAny_mono (code_set_new_1 (.ref l) (E := E) (Q₁ := fun v s₁ => ∃ b : Bool, v = .ref s.heap.objs.size ∧ s₁ = { s with heap := s.heap.push { cls := .type "set", dict := none, data := .set #[] 0 (.fresh 0 0 b) } }) fun b => ⟨b, rfl, rfl⟩) fun r s₁ hr => ?_
  match r, hr with
  | .error _, hr => exact hr
  | .ok (.next), hr => exact hr.elim
  | .ok (.brk), hr => exact hr.elim
  | .ok (.cont), hr => exact hr.elim
  | .ok (.ret v), hr =>
    obtain ⟨b, rfl, rfl⟩ := hr
    generalize hp : s.heap.push { cls := .type "set", dict := none, data := .set #[] 0 (.fresh 0 0 b) } = hp1
    have at1 : hp1.get? s.heap.objs.size = some { cls := .type "set", dict := none, data := .set #[] 0 (.fresh 0 0 b) } := by
      rw [← hp]
      exact Heap.get?_push_size _ rfl
    have kp1 : ∀ c o, s.heap.get? c = some o → hp1.get? c = some o := fun c o e => by
      rw [← hp]
      exact Heap.get?_push_of_some _ e
    have sz1 : hp1.objs.size = s.heap.objs.size + 1 := by
      rw [← hp]
      exact Heap.size_push _ _
    have g6 : Shared.TypeIs { s with heap := hp1 } (.ref s.heap.objs.size) "set" := ⟨_, at1, rfl⟩
    have g7 := PySem.F.called_set.init.lookup
    have g8 := PySem.F.called_set.init.bind (.ref s.heap.objs.size)
    repeat (any_goals (first | assumption | wp_step))
    refine codeAny_mono (codeAny_call_builtin (R := wants (fun r s₂ => r = .none ∧ ∃ h' tk, s₂ = { s with heap := h', toks := tk } ∧ h'.SetOf (PySem.strKind prog w) s.heap.objs.size (fun k => (xs.take items.size).any (· == k)) (nDiff xs items.size) ∧
      (∀ b o, b < s.heap.objs.size → s.heap.get? b = some o → h'.get? b = some o)) E) PySem.F.called_set.init.plain PySem.F.entry_set_init (check_set_init_1 g6 ?_)) fun r₂ s₂ hr₂ => ?_
    · obtain ⟨⟨_, od, _, osl⟩, ho, rfl, nl, rfl⟩ := ht
      have lt := Heap.lt_size ho
      have ho1 := kp1 _ _ ho
      have t1 : hp1.IsTuple l items := ⟨_, ho1, rfl, nl, rfl⟩
      have g9 := PySem.F.sub_tuple_set
      have g10 := PySem.F.sub_tuple_frozenset
      have g11 : (Value.type "tuple" == Value.type "dict") = false := by decide
      unfold Builtin.«set.__init__» noKeywords Builtin.Frozenset.updateFrom
      generalize hPI : pyIter = PI
      wp_walk
      subst hPI
      refine wpAny_pyIter_tuple t1 (wpAny_bind (wpAny_runValue ?_))
      have hv : ∀ (i : Nat) (v : Value), items[i]? = some v → ∃ t, v = .str (xs.getD i Str.empty) t := fun i v e => SS.strs_at hi i v (by rw [Array.getElem?_toList]; exact e)
      refine put_all ((Walks.tuple (by simp [hh]) _ l (by rw [sz1]; exact Nat.ne_of_lt (Nat.lt_succ_of_lt lt)) items).toS) s.heap.objs.size (by
        simp only [List.mem_cons, List.not_mem_nil, or_false, not_or]
        exact ⟨by rw [sz1]; exact Nat.ne_of_lt (Nat.lt_succ_self _), Nat.ne_of_gt lt⟩) xs hsz (by rw [← hsz]; exact few) hv (items.size - 0) 0 _ rfl (Nat.zero_le _) ⟨⟨_, Heap.get?_push_size _ rfl, rfl, rfl⟩, t1.push _⟩ ?_ ?_
      · exact SetOf_congr ((setObjOf_fresh (knd := PySem.strKind prog w) b).setOf (Heap.get?_push_of_some _ at1) (by unfold scanBound; omega)) (fun _ => rfl) rfl
      · rintro ⟨h', g', d', tk', os'⟩ mv hS
        obtain rfl : g' = s.gens := mv.gens
        obtain rfl : d' = s.drawn := mv.drawn
        obtain rfl : os' = s.os := mv.os
        refine wpAny_pure ?_
        show wpAny _ _ (ret Value.none) _ _ _
        refine wpAny_pure ⟨rfl, h', tk', rfl, hS, fun c o hc e => mv.heap c o ?_ (Heap.get?_push_of_some _ (kp1 _ _ e))⟩
        simp only [List.mem_cons, List.not_mem_nil, or_false, not_or]
        exact ⟨Nat.ne_of_lt hc, by rw [sz1]; exact Nat.ne_of_lt (Nat.lt_succ_of_lt hc)⟩
    · match r₂, hr₂ with
      | .error _, hr₂ => exact hr₂
      | .ok (.next), hr₂ => exact hr₂.elim
      | .ok (.brk), hr₂ => exact hr₂.elim
      | .ok (.cont), hr₂ => exact hr₂.elim
      | .ok (.ret r), hr₂ =>
        obtain ⟨rfl, h', tk, rfl, hS, hk⟩ := hr₂
        repeat (any_goals (first | assumption | wp_step))
        rw [← hsz] at hS
        exact k _ _ hS hk
end
/-- len(set(t)) -/
def tLenSetN (K : PySem.W.Frag) (ta : TE) : TE := fun σ H Q => ta σ H fun x H1 => ∃ (l : Addr) (xs : List Str), x = .ref l ∧ SqT K H1 l (xs.map V.str) ∧ xs.length ≤ 300 ∧ Q (.int (nDiff xs xs.length : Nat)) H1
theorem pe_lenSetN {X : Cx} {a : Expr} {ta : TE} {p p2 q pos : Pos} (hc : X.calm = true) (hg : Gl X "len") (hm : X.mg "len" = none) (hg2 : Gl X "set") (hm2 : X.mg "set" = none) (ha : PE X a ta)
    (na : starEach [a] X.env = (false, eval a X.env) :: starEach [] X.env := by rfl) : PE X (.Call (.Name "len" p) [.Call (.Name "set" p2) [a] [] q] [] pos) (tLenSetN X.K ta) := by
  refine ⟨fun pins s σ H Q I h => ?_⟩
  refine Call_ (ld_blt I hg hm boot_len (PyProof.Rows.callWith_builtin1 (PyProof.Rows.args_cons ?_ rfl) rfl rfl))
  refine Call_ (ld_blt I hg2 hm2 boot_set (PyProof.Rows.callWith_type1 (PyProof.Rows.args_cons (thn (ha.run pins s σ H _ I h) fun v s1 ⟨x, H1, I1, r1, q1⟩ => PyProof.Rows.args_nil ?_) na) na rfl))
  obtain ⟨l, xs, rfl, hq, few, q1⟩ := q1
  cases r1
  obtain ⟨its, r, pl, _⟩ := I1.tuple hq
  refine set_of_tup (I1.ok.hd hc) pl (by simpa using strsAre_of r) (by unfold scanBound; omega) fun h' tk hS hk => PyProof.Rows.args_nil ?_
  obtain ⟨o, es, ep, t, ho, hex, hd, _, _, _, hf, hn⟩ := hS
  have I2 : Inv X pins σ H1 { s1 with heap := h', toks := tk } := I1.kept fun b o e => hk b o (Heap.lt_size e) e
  have := nDiff_le xs xs.length
  exact call_len_set ho hex hd hf (by rw [hn]; omega) ⟨.int (nDiff xs xs.length : Nat), H1, I2.tok _, ⟨_, by rw [hn]⟩, q1⟩
end Bl

/-! xs.count(z), xs a list of texts -/
namespace Bl
open PySem L2
theorem countIn_strs (k : Str) : ∀ ys : List Str, PySem.Spec.countIn (.str k) (ys.map PyData.str) = ((ys.count k : Nat) : Int)
  | [] => rfl
  | y :: ys => by
    rw [List.map_cons, PySem.Spec.countIn, countIn_strs k ys, List.count_cons]
    show (if (y == k) = true then _ else _) + _ = _
    rcases Bool.eq_false_or_eq_true (y == k) with hb | hb
    · rw [hb]
      simp only [if_true]
      push_cast
      omega
    · rw [hb]
      simp only [Bool.false_eq_true, if_false]
      push_cast
      omega
def rCntS (K : PySem.W.Frag) : V → List V → Hp → VK → Prop := fun x xs H Q => ∃ (p : Addr) (ns : List Str) (z : Str), x = .ref p ∧ xs = [.str z] ∧ SqL K H p (ns.map V.str) ∧ Q (.int (ns.count z : Nat)) H
theorem mt_lcountS {X : Cx} : MtR X "list.count" (rCntS X.K) := by
  intro pins s σ H x xs v us Q I rx rxs h
  obtain ⟨p, ns, z, rfl, rfl, hs, q⟩ := h
  cases rx
  obtain ⟨u, rfl, ru⟩ := rxs.one
  obtain ⟨t, rfl⟩ := ru
  obtain ⟨its, rv, pl, hlen⟩ := I.list hs
  refine PyProof.Rows.count_list_strs (pl.isList) (strsAre_of rv) ?_
  rw [countIn_strs]
  exact ⟨.int (ns.count z : Nat), H, I.tok _, ⟨s.toks, rfl⟩, q⟩
end Bl
namespace Bl
open PySem L2
def rTupOf (K : PySem.W.Frag) : List V → Hp → VK → Prop := fun xs H Q => ∃ p ys, xs = [V.ref p] ∧ ((SqL K H p ys ∧ ∀ l, H l = none → Q (.ref l) (upd H l (.tup ys))) ∨ (SqT K H p ys ∧ Q (.ref p) H))
end Bl
namespace Bl
open PySem L2
theorem pi_tupC {X : Cx} {K : PySem.W.Frag} {tg l : Expr} {tl : TE} (hK : X.K = K) (hl : PE X l tl) : PI X tg l (iTup K tl) := by
  subst hK
  exact pi_tup hl
theorem pi_listC {X : Cx} {K : PySem.W.Frag} {tg l : Expr} {tl : TE} (hK : X.K = K) (hl : PE X l tl) : PI X tg l (iList K tl) := by
  subst hK
  exact pi_list hl
end Bl

/-! a for loop whose body hands out (yield), in a generator -/
namespace Bl
open PySem PySem.Spec PyProof.Rows L2
section
variable {M : Model} {A : Around} {R : GenEnd} {Y : Protocol} {n : Nat} {s₀ : Shared} {c : Code} {fs : List Frame} {s : Shared} {env : Env}
  {K : Flow → Sem PySem.Fin} {J : Value → Sem PySem.Fin} {gd : Bool → Bool} {lv : List Value → List Value}
theorem seg_For {target iter : Expr} {body orelse : List Stmt} {pos : Pos} (hs : ∀ x, foldedSetIterable iter env x = pure x)
    (h : wpAny M (A.over c fs) (eval iter env) (fun x s₁ => wpAny M (A.over c fs) (pyIter x) (fun it s₂ =>
      ∀ p, Seg M A R Y n s₀ (.forLoop target it body orelse env) (M.den (.forLoop target it body orelse env))
        (.ret (fun r => ((match r with | .ok f => (.pure f : Sem Flow) | .error e => .raise e).onRaise fun (x : Value) => do
          if (← field x 1) == Value.none then unsupported "frame.own-activation:exception-without-traceback"
          setFlight x env.frame).wrap K J gd lv) none (gd false) (lv []) c p [] :: fs) s₂) (fun x s' => Seg M A R Y n s₀ c (J x) fs s') s₁) (fun x s' => Seg M A R Y n s₀ c (J x) fs s') s) :
    Seg M A R Y n s₀ c ((exec (.For target iter body orelse pos) env).wrap K J gd lv) fs s := by
  rw [exec_For]
  refine seg_bind_wrap (wpAny_standAt ?_)
  refine seg_bind_wrap (wpAny_mono h (fun x s₁ h₁ => ?_) fun _ _ e => e)
  refine seg_bind_wrap (wpAny_of_eq (hs x) ?_)
  refine seg_bind_wrap (wpAny_standAt ?_)
  refine seg_bind_wrap (wpAny_holding (wpAny_mono h₁ (fun it s₂ h₂ => ?_) fun _ _ e => e))
  exact seg_call h₂
end
section
variable {prog : Program} {w : World} {A : Around} {R : GenEnd} {Y : Protocol} {n : Nat} {s₀ : Shared} {fs : List Frame} {s : Shared} {env : Env}
abbrev ee (prog : Program) (w : World) (A : Around) (R : GenEnd) (Y : Protocol) (n : Nat) (s₀ : Shared) (c : Code) (env : Env) (fs : List Frame) : Value → Shared → Prop := fun x s' =>
  Seg (model prog w) A R Y n s₀ c ((do noteFrame x env; theTreesLotGoes x : Sem Unit).wrap (fun _ => .raise x) .raise id id) fs s'
theorem seg_forLoop {target : Expr} {it : Value} {body : List Stmt}
    (h : wpAny (model prog w) (A.over (.forLoop target it body [] env) fs) (pyNext it) (fun r s' => match r with
        | none => Seg (model prog w) A R Y n s₀ (.forLoop target it body [] env) (.pure (.again (.block [] env))) fs s'
        | some v => wpAny (model prog w) (A.over (.forLoop target it body [] env) fs) (letOwnedTupleGo target it v) (fun _ s1 =>
            wpAny (model prog w) (A.over (.forLoop target it body [] env) fs) (assign target env v) (fun _ s2 =>
              Seg (model prog w) A R Y n s₀ (.forLoop target it body [] env) ((execs body env).wrap (fun f => match f with
                | .next | .cont => .pure (.again (.forLoop target it body [] env))
                | .brk => .pure (.done .next)
                | .ret v => .pure (.done (.ret v))) (fun e => (do noteFrame e env; theTreesLotGoes e : Sem Unit).wrap (fun _ => .raise e) .raise id id) id id) fs s2)
              (ee prog w A R Y n s₀ (.forLoop target it body [] env) env fs) s1) (ee prog w A R Y n s₀ (.forLoop target it body [] env) env fs) s')
      (ee prog w A R Y n s₀ (.forLoop target it body [] env) env fs) s) :
    Seg (model prog w) A R Y n s₀ (.forLoop target it body [] env) ((model prog w).den (.forLoop target it body [] env)) fs s := by
  show Seg _ A R Y n s₀ _ ((forTurn target it body [] env).onRaise (fun x => do noteFrame x env; theTreesLotGoes x)) fs s
  rw [Sem.onRaise_eq_wrap]
  have he : ∀ x s', ee prog w A R Y n s₀ (.forLoop target it body [] env) env fs x s' → Seg (model prog w) A R Y n s₀ (.forLoop target it body [] env) ((do noteFrame x env; theTreesLotGoes x : Sem Unit).bind fun _ => .raise x) fs s' := fun x s' hx => by
    rw [Sem.bind_eq_wrap]
    exact hx
  simp only [forTurn]
  refine seg_bind_wrap (wpAny_standAt ?_)
  refine seg_bind_wrap (wpAny_onRaise (wpAny_mono h (fun r s' hr => ?_) fun x s' hx => wpAny_standAt (he x s' hx)))
  cases r with
  | none => exact hr
  | some v =>
    refine seg_bind_wrap (wpAny_mono hr (fun _ s1 h1 => ?_) fun x s' hx => he x s' hx)
    refine seg_bind_wrap (wpAny_mono h1 (fun _ s2 h2 => ?_) fun x s' hx => he x s' hx)
    rw [Sem.bind_eq_wrap', Sem.wrap_wrap]
    rw [Sem.wrap_congr (execs body env) _ _ (K' := fun f => match f with
            | .next | .cont => .pure (.again (.forLoop target it body [] env))
            | .brk => .pure (.done .next)
            | .ret v => .pure (.done (.ret v))) (H' := (fun e => (do noteFrame e env; theTreesLotGoes e : Sem Unit).wrap (fun _ => .raise e) .raise id id))
        (fun f => by cases f <;> rfl)
        (fun e => by first | exact Sem.bind_eq_wrap _ _ | (show (do noteFrame e env; theTreesLotGoes e : Sem Unit).bind (fun _ => .raise e) = _; rw [Sem.bind_eq_wrap]))]
    exact h2
end
def tGFor (wi : TI) (g : TG) (tb : TGn) : TGn := fun D ys σ H => wi σ H fun J H1 => ∃ W : Nat → Nat → List V → L2.St → Hp → Prop, (∃ m, W 0 m ys σ H1) ∧ ∀ i m ys σ H, W i m ys σ H →
  (J.stop i H ∧ D.nx ys σ H) ∨ (J.go i H ∧ ∃ N : List V → L2.St → Hp → Prop, (∀ ys' σ' H', N ys' σ' H' → ∃ m', m' < m ∧ W (i + 1) m' ys' σ' H') ∧ ∀ x H', J.yld i H x H' → g x σ H' fun σ2 H2 => tb { D with nx := N, ct := N, bk := D.nx } ys σ2 H2)
theorem gc_more {X : Cx} {S : Addr} {ip pl : List (Addr × Obj)} {A : Around} {c : Code} {fs : List Frame} {gd : Bool → Bool} (g : GC X S ip A c fs gd) (h : ∀ p ∈ pl, p.1 ≠ S) : GC X S (ip ++ pl) A c fs gd :=
  ⟨g.pn, fun p hp => (List.mem_append.mp hp).elim (g.ip p) (h p), g.apart, g.over, g.split, g.guard, g.gd⟩
theorem gs_for {X : Cx} {tg iter : Expr} {body : List Stmt} {wi : TI} {g : TG} {tb : TGn} {pos : Pos} (hp : PassesOwn (model X.prog X.w) X.A X.env X.xe) (hc : X.calm = true) (hi : PI X tg iter wi) (hg : PG X tg g) (hb : GSs X body tb)
    (hs : ∀ x, foldedSetIterable iter X.env x = pure x := by intro _; rfl) : GS X (.For tg iter body [] pos) (tGFor wi g tb) := by
  refine ⟨fun A S ip R n ys s₀ c fs K J gd lv s σ H D gc hn k hI ht => ?_⟩
  obtain ⟨acc, cc, r, I⟩ := hI
  refine seg_For hs ?_
  rw [gc.over]
  refine wpAny_mono (hi.run _ s σ H _ I ht) (fun v s1 h1 => wpAny_mono h1 (fun itv s2 h2 => ?_) fun x s' hx => k.exc n s₀ x s' hx) fun x s' hx => k.exc n s₀ x s' hx
  obtain ⟨it, fp, tn, Jt, H2, e, I2, T, st2, f2, W, ⟨m0, w0⟩, turn⟩ := h2
  subst e
  intro p
  have gl := fun (kk : Result → Sem PySem.Fin) => gc_loop (k := kk) (c' := .forLoop tg (.ref it) body [] X.env) (l := lv []) (kp := []) (p := p) gc rfl rfl
  have stat : ∀ {H' : Hp} (acc : Array Value) (cc : Nat), (∀ b ∈ fp, H' b = none) → ∀ b ∈ fp, FpOk X ((S, lstObj acc cc) :: ip) H' b := fun {H'} acc' cc' hn b hb => by
    obtain ⟨_, f1, f3, f4, f5, f6⟩ := f2 b hb
    refine ⟨hn b hb, f1, f3, f4, f5, fun q hq => ?_⟩
    rcases List.mem_append.mp hq with hq | hq
    · exact f6 q (List.mem_append_left _ hq)
    · rcases List.mem_cons.mp hq with rfl | hq
      · exact f6 (S, lstObj acc cc) (List.mem_append_right _ List.mem_cons_self)
      · exact f6 q (List.mem_append_right _ (List.mem_cons_of_mem _ hq))
  have nS : ∀ b ∈ fp, b ≠ S := fun b hb => (f2 b hb).2.2.2.2.2 (S, lstObj acc cc) (List.mem_append_right _ List.mem_cons_self) |>.symm
  have loop : ∀ (m i n : Nat) (ys : List V) (s₀ s : Shared) (σ : L2.St) (H : Hp), n + ys.length = sizeLine → W i m ys σ H → GI X S ip ys σ H s → tn i s.heap → (∀ b ∈ fp, H b = none) →
      Seg (model X.prog X.w) A R (GY X S) n s₀ (.forLoop tg (.ref it) body [] X.env) ((model X.prog X.w).den (.forLoop tg (.ref it) body [] X.env))
        (.ret (fun r => ((match r with | .ok f => (.pure f : Sem Flow) | .error e => .raise e).onRaise (cameBack X.env)).wrap K J gd lv) none (gd false) (lv []) c p [] :: fs) s := by
    intro m
    induction m using Nat.strongRecOn with
    | ind m ih =>
      intro i n ys s₀ s σ H hn w hI st fr
      have ee' : ∀ (n : Nat) (s₀ : Shared) (x : Value) (s' : Shared), X.xe x s' → Seg (model X.prog X.w) A R (GY X S) n s₀ (.forLoop tg (.ref it) body [] X.env)
          ((do noteFrame x X.env; theTreesLotGoes x : Sem Unit).wrap (fun _ => .raise x) .raise id id)
          (.ret (fun r => ((match r with | .ok f => (.pure f : Sem Flow) | .error e => .raise e).onRaise (cameBack X.env)).wrap K J gd lv) none (gd false) (lv []) c p [] :: fs) s' := fun n s₀ x s' hx => by
        refine seg_wrap ?_
        rw [(gl _).over]
        refine wpAny_bind (wpAny_mono (hp x s' hx) (fun _ s'' hcb => wpAny_theTreesLotGoes ?_) fun y s'' hcb => ?_)
        · exact seg_leaf (.error x) (seg_cameBack gc k hcb)
        · exact seg_leaf (.error y) (seg_cameBack gc k hcb)
      refine seg_forLoop ?_
      rw [(gl _).over]
      obtain ⟨acc, cc, r, I⟩ := hI
      rcases turn i m ys σ H w with ⟨stop, qn⟩ | ⟨go, N, hN, step⟩
      · refine wpAny_mono (T.done X rfl rfl rfl hc i _ s σ H X.xe I (stat acc cc fr) st stop) (fun q s4 h4 => ?_) fun x s' hx => ee' n s₀ x s' hx
        obtain ⟨rfl, I4⟩ := h4
        refine seg_again rfl ?_
        exact seg_leaf (.ok .next) (k.ok n ys s₀ s4 .next hn ⟨σ, H, ⟨acc, cc, r, I4⟩, qn⟩)
      · refine wpAny_mono (T.item X rfl rfl rfl hc i _ s σ H X.xe I (stat acc cc fr) st go) (fun q s4 h4 => ?_) fun x s' hx => ee' n s₀ x s' hx
        obtain ⟨u, rfl, h4⟩ := h4
        refine wpAny_mono h4 (fun _ s5 h5 => ?_) fun x s' hx => ee' n s₀ x s' hx
        obtain ⟨x, H5, I5, r5, y5, st5, fr5⟩ := h5
        have I5' := I5.pinned (stat acc cc fr5) (T.obj _ _ st5)
        refine wpAny_mono (hg.run _ s5 σ H5 x u _ I5' r5 (step x H5 y5)) (fun _ s6 h6 => ?_) fun x s' hx => ee' n s₀ x s' hx
        obtain ⟨σ6, H6, I6, q6⟩ := h6
        have hpl : ∀ q ∈ pinsAt fp s5.heap, q.1 ≠ S := fun q hq => nS _ (of_pinsAt hq).1
        have unpin : ∀ {ys' : List V} {σ' : L2.St} {H' : Hp} {s' : Shared}, GI X S (ip ++ pinsAt fp s5.heap) ys' σ' H' s' → GI X S ip ys' σ' H' s' := fun ⟨a', c', r', I'⟩ => ⟨a', c', r', Inv.unpinned (pins := (S, lstObj a' c') :: ip) I'⟩
        have again : ∀ {ys' : List V} {σ' : L2.St} {H' : Hp} {s' : Shared}, GI X S (ip ++ pinsAt fp s5.heap) ys' σ' H' s' → tn (i + 1) s'.heap ∧ ∀ b ∈ fp, H' b = none := fun ⟨a', c', r', I'⟩ => by
          have pin := fun (b : Addr) (hb : b ∈ fp) (o : Obj) (e : s5.heap.get? b = some o) => I'.pin (b, o) (List.mem_append_right _ (List.mem_cons_of_mem _ (List.mem_append_right _ (mem_pinsAt hb e))))
          refine ⟨T.keep _ _ _ st5 fun b hb o e => (pin b hb o e).1, fun b hb => ?_⟩
          obtain ⟨o, e, d⟩ := T.obj _ _ st5 b hb
          exact (pin b hb o e).2.1
        refine hb.run A S (ip ++ pinsAt fp s5.heap) R n ys s₀ _ _ _ _ id id s6 σ6 H6 { D with nx := N, ct := N, bk := D.nx } (gc_more (gl _) hpl) hn ⟨fun n' ys' s₀' s3 f hn' hs => ?_, fun n' s₀' x s3 hx => ee' n' s₀' x s3 hx⟩ ⟨acc, cc, r, I6⟩ q6
        cases f with
        | next =>
          obtain ⟨σ3, H3, I3, n3⟩ := hs
          obtain ⟨m', hm, w3⟩ := hN ys' σ3 H3 n3
          obtain ⟨a1, a2⟩ := again I3
          exact seg_again rfl (ih m' hm (i + 1) n' ys' s₀' s3 σ3 H3 hn' w3 (unpin I3) a1 a2)
        | cont =>
          obtain ⟨σ3, H3, I3, n3⟩ := hs
          obtain ⟨m', hm, w3⟩ := hN ys' σ3 H3 n3
          obtain ⟨a1, a2⟩ := again I3
          exact seg_again rfl (ih m' hm (i + 1) n' ys' s₀' s3 σ3 H3 hn' w3 (unpin I3) a1 a2)
        | brk =>
          obtain ⟨σ3, H3, I3, q3⟩ := hs
          exact seg_leaf (.ok .next) (k.ok n' ys' s₀' s3 .next hn' ⟨σ3, H3, unpin I3, q3⟩)
        | ret v =>
          obtain ⟨x3, σ3, H3, I3, r3, q3⟩ := hs
          exact seg_leaf (.ok (.ret v)) (k.ok n' ys' s₀' s3 (.ret v) hn' ⟨x3, σ3, H3, unpin I3, r3, q3⟩)
  exact loop m0 0 n ys s₀ s2 σ H2 hn w0 ⟨acc, cc, r, I2⟩ st2 fun b hb => (f2 b hb).1
theorem gfor_list {K : PySem.W.Frag} {a : Addr} {xs : List V} {g : TG} {tb : TGn} {D : GEnds} {ys : List V} {σ : L2.St} {H : Hp} (Pv : Nat → List V → L2.St → Hp → Prop) (h0 : Pv 0 ys σ H) (hl : ∀ i ys σ H, i ≤ xs.length → Pv i ys σ H → SqL K H a xs)
    (hs : ∀ i x ys σ H, xs[i]? = some x → Pv i ys σ H → g x σ H fun σ2 H2 => tb { D with nx := Pv (i + 1), ct := Pv (i + 1), bk := D.nx } ys σ2 H2) (hd : ∀ ys σ H, Pv xs.length ys σ H → D.nx ys σ H) :
    ∃ W : Nat → Nat → List V → L2.St → Hp → Prop, (∃ m, W 0 m ys σ H) ∧ ∀ i m ys σ H, W i m ys σ H →
      ((Itl K a).stop i H ∧ D.nx ys σ H) ∨ ((Itl K a).go i H ∧ ∃ N : List V → L2.St → Hp → Prop, (∀ ys' σ' H', N ys' σ' H' → ∃ m', m' < m ∧ W (i + 1) m' ys' σ' H') ∧ ∀ x H', (Itl K a).yld i H x H' → g x σ H' fun σ2 H2 => tb { D with nx := N, ct := N, bk := D.nx } ys σ2 H2) := by
  refine ⟨fun i m ys σ H => m = xs.length - i ∧ i ≤ xs.length ∧ Pv i ys σ H, ⟨xs.length, by simp, Nat.zero_le _, h0⟩, ?_⟩
  rintro i m ys σ H ⟨rfl, hi, p⟩
  have q := hl i ys σ H hi p
  by_cases hlt : i < xs.length
  · refine .inr ⟨⟨xs, xs[i], q, by simp [hlt]⟩, Pv (i + 1), fun ys' σ' H' p' => ⟨xs.length - (i + 1), by omega, rfl, hlt, p'⟩, fun x H' y => ?_⟩
    obtain ⟨e, y⟩ := y
    subst e
    exact hs i x ys σ _ (y xs q) p
  · have e : i = xs.length := by omega
    subst e
    exact .inl ⟨⟨xs, q, Nat.le_refl _⟩, hd ys σ H p⟩
end Bl

/-! len(x), repr(x), x[i], x of an own class with __len__, __repr__, __getitem__ of its own -/
namespace Bl
open PySem PySem.Spec PyProof.Rows L2
section
variable {X : Cx} {CX : CXT} {k : Nat} {C f : Addr} {fd : FuncData} {ps : List Str} {sp : Sp} {E : XK}
theorem run_fn1 {pins : List (Addr × Obj)} {σ : L2.St} {H : Hp} {s : Shared} {Q : VK} {us : List Value} {vs : List V} (F : FnOk X.prog X.w X.K X.mg X.base CX k f fd ps sp) (hr : Room k X.A.in1) (hb : Binds X.K fd ps []) (hx : Passes CX X E)
    (I : Inv X pins σ H s) (r : Vals vs us) (h : sp vs H Q E) : wpAny (model X.prog X.w) X.A.in1 (call (.ref f) us) (EP X pins σ Q) X.xe s := by
  have hl : us.length = ps.length := by rw [← r.length]; exact F.len _ _ _ _ h
  have b := hb s us I.kIn (by rw [List.append_nil]; exact hl)
  rw [List.append_nil] at b
  refine wpAny_call (codeAny_mono (F.run X.A.in1 X.stack s H ⟨us, []⟩ us vs Q E hr I.env0.in1 b r h) fun r s' hq => ?_)
  cases r with
  | error e => exact hx pins σ H s e s' I hq
  | ok fl =>
    cases fl with
    | ret u => exact I.after hq
    | next => exact False.elim hq
    | brk => exact False.elim hq
    | cont => exact False.elim hq
def rLenO (C : Addr) (sp : Sp) (E : XK) : List V → Hp → VK → Prop := fun xs H Q => ∃ a dx fs, xs = [.ref a] ∧ H a = some (.ins C dx fs) ∧ sp [.ref a] H (fun v H' => ∃ n : Int, v = .int n ∧ 0 ≤ n ∧ n < 2 ^ 63 ∧ Q (.int n) H') E
theorem call_lenO (hs : PySem.W.findIn X.K (.ref C) "__len__" = some (some (.ref f))) (hf : PySem.W.isFn X.K (.ref f) = true) (F : FnOk X.prog X.w X.K X.mg X.base CX k f fd ps sp) (hr : Room (k + 1) X.A) (hb : Binds X.K fd ps []) (hx : Passes CX X E) :
    CallR X (.builtin "len") (rLenO C sp E) := by
  intro pins s σ H xs us Q I r h
  obtain ⟨a, dx, fs, rfl, ha, q⟩ := h
  obtain ⟨u, rfl, rx⟩ := vals1 r
  cases rx
  obtain ⟨mA, J, _⟩ := ins_get I.hok ha
  obtain ⟨od, J, _⟩ := J.look
  obtain ⟨m, hF⟩ := I.fr
  refine PySem.W.len_K hF I.ok.mod.kin J hs hf (wpAny_mono (run_fn1 (us := [.ref a]) (vs := [.ref a]) F hr.in1 hb hx I (.cons rfl .nil) q) (fun v s' z => ?_) fun _ _ x => x)
  obtain ⟨y, H', I', rz, n, rfl, h0, h1, q⟩ := z
  obtain ⟨t, rfl⟩ := rz
  exact ⟨⟨h0, h1⟩, .int n, H', I'.tok _, ⟨_, rfl⟩, q⟩
def rReprO (C : Addr) (sp : Sp) (E : XK) : List V → Hp → VK → Prop := fun xs H Q => ∃ a dx fs, xs = [.ref a] ∧ H a = some (.ins C dx fs) ∧ sp [.ref a] H (fun v H' => ∃ z : Str, v = .str z ∧ Q (.str z) H') E
theorem call_reprO (hs : PySem.W.findIn X.K (.ref C) "__repr__" = some (some (.ref f))) (hf : PySem.W.isFn X.K (.ref f) = true) (F : FnOk X.prog X.w X.K X.mg X.base CX k f fd ps sp) (hr : Room (k + 1) X.A) (hb : Binds X.K fd ps []) (hx : Passes CX X E) :
    CallR X (.builtin "repr") (rReprO C sp E) := by
  intro pins s σ H xs us Q I r h
  obtain ⟨a, dx, fs, rfl, ha, q⟩ := h
  obtain ⟨u, rfl, rx⟩ := vals1 r
  cases rx
  obtain ⟨mA, J, _⟩ := ins_get I.hok ha
  obtain ⟨od, J, _⟩ := J.look
  obtain ⟨m, hF⟩ := I.fr
  refine PySem.W.repr_K hr.in1.units0 hF I.ok.mod.kin J hs hf (wpAny_mono (run_fn1 (us := [.ref a]) (vs := [.ref a]) F hr.in1 hb hx I (.cons rfl .nil) q) (fun v s' z => ?_) fun _ _ x => x)
  obtain ⟨y, H', I', rz, n, rfl, q⟩ := z
  obtain ⟨t, rfl⟩ := rz
  exact ⟨.str n, H', I', ⟨_, rfl⟩, q⟩
def tSubO (C : Addr) (sp : Sp) (E : XK) (ta tb : TE) : TE := fun σ H Q => ta σ H fun x H1 => tb σ H1 fun y H2 => ∃ a dx fs, x = .ref a ∧ H2 a = some (.ins C dx fs) ∧ sp [x, y] H2 Q E
theorem pe_subO {a b : Expr} {ta tb : TE} {pos : Pos} (hs : PySem.W.findIn X.K (.ref C) "__getitem__" = some (some (.ref f))) (hn : PySem.W.fnIn X.K f = true) (hf : PySem.W.isFn X.K (.ref f) = true) (F : FnOk X.prog X.w X.K X.mg X.base CX k f fd ps sp) (hr : Room (k + 1) X.A) (hb : Binds X.K fd ps [])
    (hx : Passes CX X E) (ea : PE X a ta) (eb : PE X b tb) (hsl : ∀ o i, subscripted b true o i = runValue (.builtin "lifetime.subscript" ⟨[o, i], []⟩) := by intro _ _; rfl) : PE X (.Subscript a b pos) (tSubO C sp E ta tb) := by
  refine ⟨fun pins s σ H Q I h => ?_⟩
  refine Subscript_ (thn (ea.run pins s σ H _ I h) fun v s1 ⟨x, H1, I1, r1, q1⟩ => thn (eb.run pins s1 σ H1 _ I1 q1) fun u s2 ⟨y, H2, I2, r2, p, dx, fs, ex, hp, q2⟩ => ?_)
  subst ex
  cases r1
  obtain ⟨mA, J, _⟩ := ins_get I2.hok hp
  obtain ⟨od, J, _⟩ := J.look
  obtain ⟨m, hF⟩ := I2.fr
  exact PySem.W.sub_K hF I2.ok.mod.kin J hs hn hf (run_fn1 (us := [.ref p, u]) (vs := [.ref p, y]) F hr.in1 hb hx I2 (.cons rfl (.cons r2 .nil)) q2) (hsl _ _)
end
end Bl
namespace Bl
open PySem L2
theorem fn_in {K : PySem.W.Frag} {x q : Str} {st : Stmt} {f : Addr} {fd : FuncData} (F : Fun K x q st f fd) : PySem.W.fnIn K f = true := by
  obtain ⟨oc, od, kV, doc, pm, an, cdv, ct, osl, rfl, lk, _⟩ := F.ex
  unfold PySem.W.fnIn
  rw [lk]
end Bl

/-! the end of a law in which more than one def makes lambdas -/
namespace Bl
open PySem PySem.Spec PyProof.Rows L2 LamX
theorem walk_ofOwnAll {l : PySem.W.OpenLaw} {n k : Nat} {q : Program} {loose : List Str} {XP : (Str → Option Value) → Heap → Prop} {YP : World → Heap → Prop} {d : DefRec} {K : Params → PySem.W.Frag} {CX : World → CXT} {x : Str}
    (hn : l.most = some n) (hn2 : n ≤ sizeLine) (hdf : d.params.defaults = []) (hr : Room k callerA) (hY : ∀ (w : World) (h : Heap), YP w h → (K w.params).In h)
    (F : ∀ (w : World) (mg : Str → Option Value) (fa : Addr) (h : Heap), YP w h → (K w.params).In h → h.Ns mainGlobals mg → mg d.name = some (.ref fa) →
      (∀ (nm : Str) (fb : Addr), ((recsOf q).any fun e => e.name == nm) = true → mg nm = some (.ref fb) → OwnTab (K w.params) fb h) → LawAtS l w (K w.params) (CX w) k n x mg fa h)
    (hCX : ∀ (w : World) (H : Hp) (s : Shared) (e : Value) (s' : Shared), CX w [] H s (fun _ _ _ => False) e s' → False) :
    PySem.W.WalkO q loose XP YP l.row.toRowW d [] (fun f vs => PySem.call f vs) := by
  refine Att.attach_callB hn hdf fun w s₀ s₁ mg mb fa o pm cd doc a vs ns G Y ho hd hcd hmg hobj hints hlen hbits hg => ?_
  have KX := hY w _ Y
  have own : ∀ (nm : Str) (fb : Addr), ((recsOf q).any fun e => e.name == nm) = true → mg nm = some (.ref fb) → OwnTab (K w.params) fb s₁.heap := fun nm fb hrec hmb c P o1 fd1 e dd vs1 sl k1 k2 k3 k4 k5 => by
    obtain ⟨dL, hm, hn1⟩ := List.any_eq_true.mp hrec
    have hn2 : dL.name = nm := beq_iff_eq.mp hn1
    obtain ⟨a', o', fd', c', P', h1, h2, h3, h4, h5, h6⟩ := G.T.tab dL hm
    rw [hn2, hmb] at h1
    cases h1
    have g1 := KX _ _ k1
    rw [g1] at h2
    cases h2
    rw [k2] at h3
    cases h3
    rw [k3] at h4
    cases h4
    obtain ⟨⟨oc, vc, e1, _, e3, e4⟩, hP⟩ := h6
    have g2 := KX _ _ k4
    rw [g2] at e1
    cases e1
    cases e3
    rw [k5] at e4
    cases e4
    exact hP
  obtain ⟨fd, cs, sp, hT, nT, C, hb, hsp, hF⟩ := F w mg fa _ Y KX G.T.g hmg own
  exact law_callTs KX G.T.g G.T.b G.T.builtins G.T.nolimit hg hT nT C G.T.bmain hobj hints (Nat.le_trans hlen hn2) hr hF hb (fun H hH hS => hsp H a ns hlen hbits hH hS) fun H e s' => hCX w H s₁ e s'
end Bl

/-! a ledger that lives in a law with a box and tables; what else there is stays -/
namespace Bl
open PySem L2
/-- the heap without some places and without tables -/
def hw (W : List Addr) (H : Hp) : Hp := cutH W (noT H)
theorem hw_le {W : List Addr} {H : Hp} : Same (hw W H) H := cutH_le.trans noT_le
theorem hw_of {W : List Addr} {H : Hp} {b : Addr} {o : HO} (h : H b = some o) (n : b ∉ W) (t : ∀ ps, o ≠ .tbl ps) : hw W H b = some o := by
  unfold hw
  rw [cutH_ne n]
  exact noT_of h t
theorem hw_get {W : List Addr} {H : Hp} {b : Addr} {o : HO} (h : hw W H b = some o) : H b = some o ∧ b ∉ W ∧ ∀ ps, o ≠ .tbl ps := by
  have n := cutH_no h
  unfold hw at h
  rw [cutH_ne n] at h
  exact ⟨noT_le _ _ h, n, noT_no h⟩
theorem hw_ext {W : List Addr} {H H' : Hp} (e : LamX.ExtN H H') : Same (hw W H) (hw W H') := fun b o h => by
  obtain ⟨h1, h2, h3⟩ := hw_get h
  exact hw_of (e b o h1 h3) h2 h3
theorem hw_same {W : List Addr} {H H' : Hp} (e : Same H H') : Same (hw W H) (hw W H') := hw_ext (LamX.ExtN.of e)
theorem hw_fr {W W' S : List Addr} {H H' : Hp} (e : Fr S H H') (hS : ∀ x ∈ S, x ∈ W) (hW : ∀ x ∈ W', x ∈ W ∨ H x = none) : Same (hw W H) (hw W' H') := fun b o h => by
  obtain ⟨h1, h2, h3⟩ := hw_get h
  refine hw_of (e b o h1 fun k => h2 (hS b k)) (fun k => ?_) h3
  rcases hW b k with q | q
  · exact h2 q
  · rw [h1] at q
    cases q
theorem fr_but {p : Addr} {H H' : Hp} (e : But p H H') : Fr [p] H H' := fun b o h n => by
  have f : b ≠ p := fun q => n (List.mem_singleton.mpr q)
  have := e b o (by rw [hide_ne f]; exact h)
  rwa [hide_ne f] at this
theorem hw_but {W : List Addr} {p : Addr} {H H' : Hp} (e : But p H H') (h : p ∈ W) : Same (hw W H) (hw W H') := hw_fr (fr_but e) (fun x hx => by rw [List.mem_singleton.mp hx]; exact h) fun x hx => .inl hx
theorem hw_new {W : List Addr} {H : Hp} {b : Addr} {o : HO} (h : H b = none) (w : ∀ x ∈ W, ∃ u, H x = some u) (t : ∀ ps, o ≠ .tbl ps) : hw W (upd H b o) b = some o := hw_of upd_same (fun k => by
  obtain ⟨u, q⟩ := w b k
  rw [h] at q
  cases q) t
theorem tabs_fr {Tb : List (Addr × Str)} {S : List Addr} {H H' : Hp} (t : LamX.Tabs Tb H) (e : Fr S H H') (hS : ∀ x ∈ S, ListIns H x) : LamX.Tabs Tb H' := by
  have key : ∀ a o, H a = some o → (∀ xs, o ≠ .lst xs) → (∀ C dx fs, o ≠ .ins C dx fs) → H' a = some o := fun a o h n1 n2 => e a o h fun hm => by
    rcases hS a hm with ⟨ys, h1⟩ | ⟨C, dx, fs, h1⟩
    · rw [h] at h1
      exact n1 _ (Option.some.inj h1)
    · rw [h] at h1
      exact n2 _ _ _ (Option.some.inj h1)
  intro q hq
  obtain ⟨ps, h1, h2, h3⟩ := t q hq
  refine ⟨ps, key _ _ h1 (fun _ h => nomatch h) (fun _ _ _ h => nomatch h), h2, fun pos cv hc => ?_⟩
  obtain ⟨c', e1, e2⟩ := h3 pos cv hc
  exact ⟨c', e1, key _ _ e2 (fun _ h => nomatch h) (fun _ _ _ h => nomatch h)⟩
theorem sqt_noT {K : PySem.W.Frag} {H : Hp} {a : Addr} {xs : List V} (h : SqT K H a xs) : SqT K (noT H) a xs := by
  rcases h with (h | ⟨o, h⟩) | h
  · exact .inl (.inl (noT_of h (fun _ h => nomatch h)))
  · exact .inl (.inr ⟨o, noT_of h (fun _ h => nomatch h)⟩)
  · exact .inr h
theorem LedAt.noT {K : PySem.W.Frag} {C p : Addr} {H : Hp} {f : LFt} {L : LSt} (h : LedAt K C H p f L) : LedAt K C (noT H) p f L := by
  have m : ∀ x o, H x = some o → (∀ ps, o ≠ .tbl ps) → Bl.noT H x = some o := fun x o ho t => noT_of ho t
  refine ⟨m _ _ h.ins (fun _ h => nomatch h), ?_, ?_, m _ _ h.si (fun _ h => nomatch h), ?_, h.nd⟩
  · obtain ⟨ts, a, b⟩ := h.th
    exact ⟨ts, m _ _ a (fun _ h => nomatch h), prMp b fun _ _ x => sqt_noT x⟩
  · obtain ⟨ts, a, b⟩ := h.ro
    exact ⟨ts, m _ _ a (fun _ h => nomatch h), prMp b fun _ _ x => m _ _ x (fun _ h => nomatch h)⟩
  · obtain ⟨ts, a, b⟩ := h.un
    exact ⟨ts, m _ _ a (fun _ h => nomatch h), prMp b fun _ _ ⟨r, x, y⟩ => ⟨r, sqt_noT x, m _ _ y (fun _ h => nomatch h)⟩⟩
theorem LedAt.ext {K : PySem.W.Frag} {C p : Addr} {H H' : Hp} {f : LFt} {L : LSt} (h : LedAt K C H p f L) (e : LamX.ExtN H H') : LedAt K C H' p f L := (h.noT.mono (noT_ext e)).mono noT_le
structure Liv (K : PySem.W.Frag) (C : Addr) (Tb : List (Addr × Str)) (H : Hp) (q b p : Addr) (f : LFt) (L : LSt) : Prop where
  box : BoxAt H q b
  led : LedAt K C H p f L
  tabs : LamX.Tabs Tb H
  ob : Out [q, b] (f.all p)
section
variable {K : PySem.W.Frag} {C : Addr} {Tb : List (Addr × Str)} {H H' : Hp} {q b p : Addr} {f : LFt} {L L' : LSt}
/-- what the ledger and the box may change -/
def Wb (q : Addr) (f : LFt) (p : Addr) : List Addr := q :: f.wr p
abbrev Im (q : Addr) (f : LFt) (p : Addr) (H : Hp) : Hp := hw (Wb q f p) H
theorem Liv.new (h : Liv K C Tb H q b p f L) (e : Same H H') : Liv K C Tb H' q b p f L := ⟨h.box.mono e, h.led.mono e, tabs_of h.tabs e, h.ob⟩
theorem box_list (B : BoxAt H q b) : ListIns H q := by
  obtain ⟨ns, i, w, m, c, h1, _⟩ := B
  exact .inl ⟨_, h1⟩
theorem Liv.draw (h : Liv K C Tb H q b p f L) (e : But q H H') (B : BoxAt H' q b) : Liv K C Tb H' q b p f L :=
  ⟨B, h.led.frame (fr_but e) (fun x hx => by rw [List.mem_singleton.mp hx]; exact box_list h.box) fun x hx hm => h.ob q (by simp) (by rw [List.mem_singleton.mp hm] at hx; exact hx), tabs_but h.tabs h.box e, h.ob⟩
theorem Liv.ext (h : Liv K C Tb H q b p f L) (e : LamX.ExtN H H') (t : LamX.Tabs Tb H') : Liv K C Tb H' q b p f L := ⟨h.box.ext e, h.led.ext e, t, h.ob⟩
theorem Liv.wrote {au : Addr} (h : Liv K C Tb H q b p f L) (l : LedAt K C H' p { f with un := au } L') (e : Fr (f.wr p) H H') (n : H au = none) : Liv K C Tb H' q b p { f with un := au } L' := by
  have nq : q ∉ f.wr p := fun k => h.ob q (by simp) (LFt.wr_all k)
  have nb : b ∉ f.wr p := fun k => h.ob b (by simp) (LFt.wr_all k)
  have li : ∀ x ∈ f.wr p, ListIns H x := fun x hx => h.led.li x (LFt.wr_all hx)
  have tr : Tr H [q, b] := Tr.cons (box_two h.box).1.choose_spec (Tr.cons (box_two h.box).2.choose_spec .nil)
  exact ⟨box_fr h.box e nq nb, l, tabs_fr h.tabs e li, Out.unA tr n h.ob⟩
theorem Liv.im_wrote {au : Addr} (e : Fr (f.wr p) H H') (n : H au = none) : Same (Im q f p H) (Im q { f with un := au } p H') := hw_fr e (fun x hx => List.mem_cons_of_mem _ hx) fun x hx => by
  rcases List.mem_cons.mp hx with rfl | hx
  · exact .inl List.mem_cons_self
  · simp only [LFt.wr, List.mem_cons, List.not_mem_nil, or_false] at hx
    rcases hx with k | k | k | k
    · exact .inl (by simp [Wb, LFt.wr, k])
    · exact .inl (by simp [Wb, LFt.wr, k])
    · exact .inl (by simp [Wb, LFt.wr, k])
    · exact .inr (k ▸ n)
theorem Liv.w (h : Liv K C Tb H q b p f L) : ∀ x ∈ Wb q f p, ∃ u, H x = some u := fun x hx => by
  rcases List.mem_cons.mp hx with rfl | hx
  · exact (box_two h.box).1
  · rcases h.led.li x (LFt.wr_all hx) with ⟨xs, e⟩ | ⟨C, dx, fs, e⟩
    · exact ⟨_, e⟩
    · exact ⟨_, e⟩
theorem Liv.fresh {x : Addr} {o : HO} (h : Liv K C Tb H q b p f L) (n : H x = none) (t : ∀ ps, o ≠ .tbl ps) : Im q f p (upd H x o) x = some o := hw_new n h.w t
theorem im_same (e : Same H H') : Same (Im q f p H) (Im q f p H') := hw_same e
theorem im_ext (e : LamX.ExtN H H') : Same (Im q f p H) (Im q f p H') := hw_ext e
theorem im_draw (e : But q H H') : Same (Im q f p H) (Im q f p H') := hw_but e List.mem_cons_self
theorem im_le : Same (Im q f p H) H := hw_le
/-- what is hidden from a ledger's heap is hidden from the box's -/
theorem im_hide : Same (Im q f p H) (hide q H) := fun x o h => by
  obtain ⟨h1, h2, _⟩ := hw_get h
  have n : x ≠ q := by
    rintro rfl
    exact h2 List.mem_cons_self
  rw [hide_ne n]
  exact h1
end
end Bl

/-! sorted(xs), xs a list of pairs of texts with different firsts -/
namespace Bl
open PySem PySem.Spec PyProof.Rows L2 SrtO
def IsKV (h : Heap) (v : Value) (x y : Str) : Prop := ∃ a o t u n, v = .ref a ∧ h.get? a = some o ∧ o.cls = .type "tuple" ∧ o.data = .seq #[.str x t, .str y u] n
theorem IsKV.keeps {h h' : Heap} {v : Value} {x y : Str} (p : IsKV h v x y) (k : ∀ b o, h.get? b = some o → o.cls = .type "tuple" → h'.get? b = some o) : IsKV h' v x y := by
  obtain ⟨a, o, t, u, n, e, ho, hc, hd⟩ := p
  exact ⟨a, o, t, u, n, e, k _ _ ho hc, hc, hd⟩
def strLt (a b : Str) : Bool := decide (a.cps.toList < b.cps.toList)
theorem strLt_swo {α : Type} (k : α → Str) : Swo fun v u => strLt (k v) (k u) := by
  refine ⟨fun x y h => ?_, fun x y z h1 h2 => ?_⟩
  · unfold strLt at *
    exact decide_eq_false (List.lt_asymm (of_decide_eq_true h))
  · unfold strLt at *
    have a : (k x).cps.toList ≤ (k y).cps.toList := of_decide_eq_false h1
    have b : (k y).cps.toList ≤ (k z).cps.toList := of_decide_eq_false h2
    exact decide_eq_false (List.le_trans a b)
theorem firsts_kv {h : Heap} : ∀ {vs : List Value}, (∀ v ∈ vs, ∃ x y, IsKV h v x y) → ∃ fs : List Value, PySem.W.KatTups h vs fs ∧ fs.length = vs.length ∧ ∀ f ∈ fs, ∃ x t, f = Value.str x t
  | [], _ => ⟨[], PySem.W.KatTups.nil, rfl, fun _ hm => by simp at hm⟩
  | v :: vs, hp => by
    obtain ⟨fs, h1, h2, h3⟩ := firsts_kv (vs := vs) fun v' hm => hp v' (List.mem_cons_of_mem _ hm)
    obtain ⟨x, y, a, o, t, u, n, e, ho, hc, hd⟩ := hp v (List.mem_cons_self ..)
    subst e
    refine ⟨.str x t :: fs, PySem.W.KatTups.cons ho hc hd rfl h1, by rw [List.length_cons, List.length_cons, h2], fun f hm => ?_⟩
    rcases List.mem_cons.mp hm with rfl | hm
    · exact ⟨x, t, rfl⟩
    · exact h3 f hm
section
variable {prog : Program} {w : World} {A : Around} {E : Value → Shared → Prop} {s : Shared}
theorem kv_cmp {vs : List Value} {k : Value → Str × Str} (hp : ∀ v ∈ vs, IsKV s.heap v (k v).1 (k v).2) (hi : ∀ v ∈ vs, ∀ u ∈ vs, (k v).1 = (k u).1 → (k v).2 = (k u).2) : Cmp prog w A s (tuples' true) (fun p => p.1 ∈ vs) (lt2 fun v u => strLt (k v).1 (k u).1) := by
  intro p q hm hm'
  have h1 := hp _ hm
  have h2 := hp _ hm'
  have hi := hi _ hm _ hm'
  show wpAny (model prog w) A (keyLt' (tuples' true) p.1 q.1) (fun r s' => s' = s ∧ r = strLt (k p.1).1 (k q.1).1) (fun _ _ => False) s
  generalize (k p.1).1 = x at h1 hi ⊢
  generalize (k p.1).2 = y at h1 hi ⊢
  generalize (k q.1).1 = x' at h2 hi ⊢
  generalize (k q.1).2 = y' at h2 hi ⊢
  obtain ⟨a, o, t, u, n, e, ho, hc, hd⟩ := h1
  obtain ⟨a', o', t', u', n', e', ho', hc', hd'⟩ := h2
  rw [e, e']
  refine PySem.W.kat_lt ho hd ho' hd' ?_
  show PySem.W.KatLex prog w A true (decide (2 < 2)) _ [(.str x t, .str x' t'), (.str y u, .str y' u')] 0 s
  refine PySem.W.kat_cons (SeqAt.EqAt.str_str x t x' t' prog w _ _ ?_)
  refine PySem.W.kat_go (fun e1 => ?_) (fun e1 => ?_)
  · have ex : x = x' := eq_of_beq e1
    refine PySem.W.kat_yes (PySem.W.kat_cons (SeqAt.EqAt.str_str y u y' u' prog w _ _ ?_))
    refine PySem.W.kat_go (fun e2 => ?_) (fun e2 => ?_)
    · have e3 : strLt x x' = false := by
        rw [ex]
        exact (strLt_swo (fun z : Str => z)).refl x'
      exact PySem.W.kat_yes (PySem.W.kat_nil ⟨rfl, e3.symm⟩)
    · rw [hi ex] at e2
      exact absurd e2 (by simp)
  · exact PySem.W.kat_no (oneLt_str ⟨rfl, rfl⟩)
theorem kv_sortableO {a : Addr} {vs : List Value} {k : Value → Str × Str} (h0 : 0 < vs.length) (hp : ∀ v ∈ vs, IsKV s.heap v (k v).1 (k v).2) (hi : ∀ v ∈ vs, ∀ u ∈ vs, (k v).1 = (k u).1 → (k v).2 = (k u).2) (ha : ∀ o, s.heap.get? a = some o → o.cls ≠ .type "tuple") : SortableO prog w A s a vs fun v u => strLt (k v).1 (k u).1 := by
  intro h' keep
  have hp' : ∀ v ∈ vs, IsKV h' v (k v).1 (k v).2 := fun v hm => (hp v hm).keeps fun b o e c => keep b o (fun z => by subst z; exact ha o e c) e
  obtain ⟨fs, h1, h2, h3⟩ := firsts_kv fun v hm => ⟨_, _, hp' v hm⟩
  refine ⟨tuples' true, fun Q E hq => ?_, kv_cmp hp' hi⟩
  refine PySem.W.kat_kind (T := .type "str") h1 (by omega) (fun f hm => ?_) (by rfl) ?_
  · obtain ⟨x, t, rfl⟩ := h3 f hm
    exact PySem.W.Looks.now
  · have e : (Value.type "str" != Value.type "tuple") = true := by first | decide +kernel | rfl | decide
    rw [e]
    exact hq
end
end Bl
namespace Bl
open PySem PySem.Spec PyProof.Rows L2 SrtO
theorem sorted_kv {prog : Program} {w : World} {A : Around} {E : Value → Shared → Prop} {s : Shared} {l : Addr} {vs : List Value} {k : Value → Str × Str} {Q : Value → Shared → Prop} (hl : s.heap.IsList l vs.toArray) (hz : vs.length ≤ sizeLine) (hp : ∀ v ∈ vs, IsKV s.heap v (k v).1 (k v).2)
    (hi : ∀ v ∈ vs, ∀ u ∈ vs, (k v).1 = (k u).1 → (k v).2 = (k u).2)
    (h : ∀ (h' : Heap) (d : Addr) (out : List Value), Srtd (fun v u => strLt (k v).1 (k u).1) out → Stb (fun v u => strLt (k v).1 (k u).1) out vs → (∀ b o, s.heap.get? b = some o → h'.get? b = some o) → s.heap.objs.size ≤ d → (∃ n, h'.get? d = some (seqObj "list" out.toArray n)) → Q (.ref d) { s with heap := h' }) :
    wpAny (model prog w) A (call (.builtin "sorted") [.ref l]) Q E s := by
  refine sorted_ord (strLt_swo fun v => (k v).1) hl hz (fun h2 h₁ a ha kk => ?_) fun out hs hb => ?_
  · refine kv_sortableO (s := { s with heap := h₁ }) (by omega) (fun v hm => (hp v hm).keeps fun b o e _ => (kk b o e).2) hi fun o e => ?_
    have e' : some o = some (seqObj "list" vs.toArray 0) := e.symm.trans ha
    cases e'
    intro c
    exact absurd (Value.type.inj c) (by decide)
  · exact h _ _ out hs hb (fun b o e => sortedAll_old e) (Nat.le_succ _) (sortedAll_at s.heap vs out.toArray)
@[irreducible] def rSortKV (K : PySem.W.Frag) : List V → Hp → VK → Prop := fun vs H Q => ∃ (a : Addr) (xs : List V) (k : V → Str × Str), vs = [V.ref a] ∧ SqL K H a xs ∧ (∀ x ∈ xs, ∃ t, x = V.ref t ∧ H t = some (.tup [.str (k x).1, .str (k x).2])) ∧
  (∀ x ∈ xs, ∀ y ∈ xs, (k x).1 = (k y).1 → (k x).2 = (k y).2) ∧ ∀ ys p, Srtd (fun x y => strLt (k x).1 (k y).1) ys → Stb (fun x y => strLt (k x).1 (k y).1) ys xs → H p = none → Q (.ref p) (upd H p (.lst ys))
theorem cr_sortedKV {X : Cx} : CallR X (.builtin "sorted") (rSortKV X.K) := by
  intro pins s σ H vs us Q I r h
  unfold rSortKV at h
  obtain ⟨a, xs, k, rfl, hs, hx, hi, q⟩ := h
  obtain ⟨its, rv, hl, hz⟩ := I.list hs
  obtain ⟨u, rfl, ru⟩ := vals1 r
  obtain rfl : u = Value.ref a := ru
  obtain ⟨e1, e2⟩ := refs_back rv fun x m => by
    obtain ⟨t, e, _⟩ := hx x m
    exact ⟨t, e⟩
  have mem : ∀ v ∈ its, backV v ∈ xs := fun v hv => by rw [e1]; exact List.mem_map.mpr ⟨_, hv, rfl⟩
  refine sorted_kv (k := fun u => k (backV u)) hl.isList (by rw [← rv.length]; exact hz) (fun v hv => ?_) (fun v hv u hu => hi _ (mem v hv) _ (mem u hu)) fun h' d out h1 h2 kp hd hn => ?_
  · obtain ⟨t, rfl⟩ := e2 v hv
    obtain ⟨t', e, ht⟩ := hx _ (mem _ hv)
    cases e
    obtain ⟨_, its2, r2, o, ho, hc, n, hd⟩ := I.hok _ _ ht
    obtain ⟨u1, u2, rfl, ri, rj⟩ := vals2 r2
    obtain ⟨t1, rfl⟩ := ri
    obtain ⟨t2, rfl⟩ := rj
    exact ⟨t, o, t1, t2, n, rfl, ho, hc, hd⟩
  · have h3 : ∀ u ∈ out, ∃ a, u = Value.ref a := fun u hu => e2 u (h2.perm.mem_iff.mp hu)
    obtain ⟨n, hn⟩ := hn
    have hb : SrtO.Stb (fun x y => strLt (k x).1 (k y).1) (out.map backV) xs := by
      rw [e1]
      exact SrtO.Stb.map (strLt_swo fun x => (k x).1) backV h2
    refine ⟨.ref d, upd H d (.lst (out.map backV)), I.laid (t' := s.toks) kp hd ⟨?_, out, n, vals_back h3, hn⟩, rfl, q _ d (SrtO.srtd_map h1) hb (I.hok.fresh hd)⟩
    rw [hb.len]
    exact hz
end Bl

/-! sorted(list(d.items())) of a row -/
namespace Bl
open PySem L2
def kvLt (x y : Str × Str) : Bool := strLt x.1 y.1
theorem kvLt_swo : SrtO.Swo kvLt := strLt_swo fun z : Str × Str => z.1
/-- the pair that a tuple's place holds -/
def pairAt (H : Hp) : V → Str × Str
  | .ref t => match H t with
    | some (.tup [.str x, .str y]) => (x, y)
    | _ => (Str.empty, Str.empty)
  | _ => (Str.empty, Str.empty)
theorem pairAt_of {H : Hp} {t : Addr} {x y : Str} (h : H t = some (.tup [.str x, .str y])) : pairAt H (.ref t) = (x, y) := by
  show (match H t with | some (.tup [.str x, .str y]) => (x, y) | _ => (Str.empty, Str.empty)) = (x, y)
  rw [h]
theorem stb_symm {α : Type} {lt : α → α → Bool} {l m : List α} (h : SrtO.Stb lt l m) : SrtO.Stb lt m l := ⟨h.perm.symm, fun x => (h.cls x).symm⟩
theorem pr_fn {α β : Type} {R : α → β → Prop} {g : α → β} : ∀ {us : List α}, (∀ u ∈ us, R u (g u)) → PySem.Paired R us (us.map g)
  | [], _ => .nil
  | _ :: us, h => .cons (h _ List.mem_cons_self) (pr_fn fun u hu => h u (List.mem_cons_of_mem _ hu))
theorem refs_of : ∀ {ys : List V}, (∀ y ∈ ys, ∃ a, y = V.ref a) → ∃ us : List Addr, ys = us.map V.ref
  | [], _ => ⟨[], rfl⟩
  | y :: ys, h => by
    obtain ⟨a, rfl⟩ := h y List.mem_cons_self
    obtain ⟨us, rfl⟩ := refs_of (ys := ys) fun z hz => h z (List.mem_cons_of_mem _ hz)
    exact ⟨a :: us, rfl⟩
/-- a row's pairs in order -/
structure SortOf (r zs : List (Str × Str)) : Prop where
  so : SrtO.Srtd kvLt zs
  st : SrtO.Stb kvLt zs r
theorem SortOf.uniq {r zs ys : List (Str × Str)} (a : SortOf r zs) (b : SortOf r ys) : zs = ys := SrtO.stb_uniq kvLt_swo a.so b.so (a.st.trans (stb_symm b.st))
abbrev ItAt (H : Hp) (ts : List Addr) (r : Row) : Prop := PySem.Paired (fun (t : Addr) (q : Str × Str) => H t = some (.tup [.str q.1, .str q.2])) ts r
theorem itAt_of {H1 : Hp} {ts : List Addr} {r : Row} (pr : PySem.Paired (fun (t : Addr) (q : Key × V) => H1 t = some (.tup [kV q.1, q.2])) ts (rowK r)) : ItAt H1 ts r := by
  unfold rowK at pr
  generalize hr : r.map (fun q => ((Sum.inr q.1 : Key), V.str q.2)) = l at pr
  induction pr generalizing r with
  | nil =>
    cases r with
    | nil => exact .nil
    | cons _ _ => cases hr
  | cons h _ ih =>
    cases r with
    | nil => cases hr
    | cons q r =>
      cases hr
      exact .cons h (ih rfl)
theorem items_go {H : Hp} {d : Addr} {r : Row} {Q : VK} (hd : H d = some (.dK (rowK r))) (k : ∀ (p : Addr) (ts : List Addr) (H1 : Hp), Same H H1 → H1 p = some (.lst (ts.map V.ref)) → ItAt H1 ts r → Q (.ref p) H1) : LiI.rItemsL (.ref d) H Q :=
  ⟨d, rowK r, rfl, hd, fun H1 p ts e fp fts np hp pr => k p ts H1 e hp (itAt_of pr)⟩
theorem sort_goF {K : PySem.W.Frag} {H1 : Hp} {p : Addr} {ts : List Addr} {r : Row} {Q : VK} (hp : H1 p = some (.lst (ts.map V.ref))) (hpr : ItAt H1 ts r) (nd : (r.map (·.1)).Nodup)
    (k : ∀ (p : Addr) (us : List Addr) (zs : List (Str × Str)) (H' : Hp), H1 p = none → Same H1 H' → SortOf r zs → H' p = some (.lst (us.map V.ref)) → PySem.Paired (fun t (z : Str × Str) => SqT K H' t [.str z.1, .str z.2]) us zs → Q (.ref p) H') :
    rSortKV K [.ref p] H1 Q := by
  have hmk : (ts.map V.ref).map (pairAt H1) = r := by
    clear k nd hp
    induction hpr with
    | nil => rfl
    | cons h _ ih =>
      rw [List.map_cons, List.map_cons, ih, pairAt_of h]
  have hin : ∀ x ∈ ts.map V.ref, ∃ t, x = V.ref t ∧ H1 t = some (.tup [.str (pairAt H1 x).1, .str (pairAt H1 x).2]) := fun x hx => by
    obtain ⟨t, ht, rfl⟩ := List.mem_map.mp hx
    obtain ⟨i, hi⟩ := List.getElem?_of_mem ht
    obtain ⟨q, _, hq⟩ := pr_get hpr hi
    exact ⟨t, rfl, by rw [pairAt_of hq]; exact hq⟩
  have hkey : ∀ x ∈ ts.map V.ref, ∀ y ∈ ts.map V.ref, (pairAt H1 x).1 = (pairAt H1 y).1 → (pairAt H1 x).2 = (pairAt H1 y).2 := fun x hx y hy q => by
    have mx : pairAt H1 x ∈ r := by rw [← hmk]; exact List.mem_map_of_mem hx
    have my : pairAt H1 y ∈ r := by rw [← hmk]; exact List.mem_map_of_mem hy
    clear hmk hin
    revert mx my
    generalize pairAt H1 x = u at *
    generalize pairAt H1 y = v at *
    intro mx my
    clear k hpr
    induction r with
    | nil => cases mx
    | cons z r ih =>
      rw [List.map_cons, List.nodup_cons] at nd
      rcases List.mem_cons.mp mx with rfl | mx'
      · rcases List.mem_cons.mp my with rfl | my'
        · rfl
        · exact absurd (List.mem_map.mpr ⟨v, my', q.symm⟩) nd.1
      · rcases List.mem_cons.mp my with rfl | my'
        · exact absurd (List.mem_map.mpr ⟨u, mx', q⟩) nd.1
        · exact ih nd.2 mx' my'
  unfold rSortKV
  refine ⟨p, ts.map V.ref, pairAt H1, rfl, SqL.of hp, hin, hkey, fun ys p2 hs hb fp2 => ?_⟩
  obtain ⟨us, rfl⟩ := refs_of (ys := ys) fun y hy => by
    obtain ⟨t, e, _⟩ := hin y (hb.perm.mem_iff.mp hy)
    exact ⟨t, e⟩
  have s2 := same_new fp2 (.lst (us.map V.ref))
  have hst : SrtO.Stb kvLt ((us.map V.ref).map (pairAt H1)) ((ts.map V.ref).map (pairAt H1)) := SrtO.Stb.map kvLt_swo (pairAt H1) hb
  rw [hmk] at hst
  refine k p2 us ((us.map V.ref).map (pairAt H1)) _ fp2 s2 ⟨SrtO.srtd_map hs, hst⟩ upd_same ?_
  rw [List.map_map]
  refine pr_fn fun u hu => ?_
  obtain ⟨t, e, ht⟩ := hin (V.ref u) (hb.perm.mem_iff.mp (List.mem_map_of_mem hu))
  cases e
  exact SqT.of (s2 _ _ ht)
theorem sort_go {K : PySem.W.Frag} {H1 : Hp} {p : Addr} {ts : List Addr} {r : Row} {Q : VK} (hp : H1 p = some (.lst (ts.map V.ref))) (hpr : ItAt H1 ts r) (nd : (r.map (·.1)).Nodup)
    (k : ∀ (p : Addr) (us : List Addr) (zs : List (Str × Str)) (H' : Hp), Same H1 H' → SortOf r zs → H' p = some (.lst (us.map V.ref)) → PySem.Paired (fun t (z : Str × Str) => SqT K H' t [.str z.1, .str z.2]) us zs → Q (.ref p) H') :
    rSortKV K [.ref p] H1 Q := sort_goF hp hpr nd fun p us zs H' _ a b c d => k p us zs H' a b c d
open Classical in
/-- a row's pairs in their order -/
noncomputable def srtOf (r : Row) : List (Str × Str) := if h : ∃ zs, SortOf r zs then h.choose else []
theorem srt_eq {r : Row} {zs : List (Str × Str)} (h : SortOf r zs) : zs = srtOf r := by
  unfold srtOf
  have hx : ∃ zs, SortOf r zs := ⟨zs, h⟩
  rw [dif_pos hx]
  exact h.uniq hx.choose_spec
def rowD (zs : List (Str × Str)) : PyData := .list (zs.map fun z => .tuple [.str z.1, .str z.2])
theorem dp_rows {K : PySem.W.Frag} {H : Hp} {us : List Addr} {zs : List (Str × Str)} (h : PySem.Paired (fun t (z : Str × Str) => SqT K H t [.str z.1, .str z.2]) us zs) : DpAll K H (us.map V.ref) (zs.map fun z => .tuple [.str z.1, .str z.2]) := by
  induction h with
  | nil => exact .nil
  | cons h _ ih => exact .cons (.tup h (.cons (.str _) (.cons (.str _) .nil))) ih
/-- a list hidden, what else there is stays -/
theorem hide_put {D : Addr} {H : Hp} {o : HO} : Same (hide D H) (hide D (upd H D o)) := fun b u hb => by
  by_cases q : b = D
  · subst q
    rw [hide_at] at hb
    cases hb
  · rw [hide_ne q] at hb ⊢
    rw [upd_ne q]
    exact hb
theorem tup_hide {K : PySem.W.Frag} {D t : Addr} {H : Hp} {xs ys : List V} (hD : H D = some (.lst ys)) (h : SqT K H t xs) : SqT K (hide D H) t xs := by
  have key : ∀ o, H t = some o → (∀ zs, o ≠ .lst zs) → hide D H t = some o := fun o ho n => by
    rw [hide_ne (by
      rintro rfl
      rw [hD] at ho
      exact n ys (Option.some.inj ho).symm)]
    exact ho
  rcases h with (h | ⟨o, h⟩) | h
  · exact .inl (.inl (key _ h (fun _ q => nomatch q)))
  · exact .inl (.inr ⟨o, key _ h (fun _ q => nomatch q)⟩)
  · exact .inr h
theorem dp_row {K : PySem.W.Frag} {H : Hp} {p : Addr} {us : List Addr} {zs : List (Str × Str)} (hp : H p = some (.lst (us.map V.ref))) (h : PySem.Paired (fun t (z : Str × Str) => SqT K H t [.str z.1, .str z.2]) us zs) : Dp K H (.ref p) (rowD zs) := .lst (SqL.of hp) (dp_rows h)
end Bl

/-! dicts with nested keys: setdefault, not in -/
namespace Bl
open PySem L2 PySem.Spec PyProof.Rows
def tNNotIn (P : Program) (w : World) (K : PySem.W.Frag) (ty td : TE) : TE := fun σ H Q => ty σ H fun y H1 => td σ H1 fun x H2 => ∃ a b kvs k, x = .ref a ∧ y = .ref b ∧ NDr P w K H2 a kvs ∧ NV K H2 k (.ref b) ∧ k.depth ≤ 8 ∧ Q (.bl (!(valV kvs k).isSome)) H2
def tNSetd (P : Program) (w : World) (K : PySem.W.Frag) (td ty tx : TE) : TE := fun σ H Q => td σ H fun x H1 => ∃ a, x = .ref a ∧ (∃ kvs, NDr P w K H1 a kvs) ∧ ty σ H1 fun y H2 => tx σ H2 fun z H3 => ∃ b kvs k, y = .ref b ∧ ND P w K H3 a kvs ∧ NV K H3 k (.ref b) ∧ k.depth ≤ 8 ∧ kvs.length < 100000 ∧
  (∀ v, valV kvs k = some v → Q v H3) ∧ (valV kvs k = none → ∀ o, (∀ G, (∀ c u, c ≠ a → H3 c = some u → G c = some u) → G a = some o → ND P w K G a (putK kvs k z)) → Q z (upd H3 a o))
section
variable {X : Cx} {o i e f value : Expr} {pos pos' apos cpos : Pos} {td ty tv tx : TE}
theorem pc_nnotin (hu : X.A.units + 9 < cLine) (hi : PE X i ty) (ho : PE X o td) : PC X .NotIn i o (tNNotIn X.prog X.w X.K ty td) := by
  refine ⟨fun pins s σ H Q I h => ?_⟩
  refine thn (hi.run pins s σ H _ I h) fun iv s1 ⟨y, H1, I1, ry, q1⟩ => thn (ho.run pins s1 σ H1 _ I1 q1) fun u s2 ⟨x, H2, I2, rx, a, b, kvs, k, ex, ey, g, nk, dk, q2⟩ => ?_
  subst ex ey
  obtain rfl : u = Value.ref a := rx
  obtain rfl : iv = Value.ref b := ry
  obtain ⟨_, xs, e, q⟩ := g
  obtain ⟨hsm, hm⟩ := nd_of I2 e q
  refine wpAny_notIn_heap (room8 hu) (key_is I2 nk dk) hsm hm ?_
  have z := (kn_at q k).isSome_eq
  rw [Option.isSome_map] at z
  rw [← z]
  exact ⟨.bl _, H2, I2.tok _, rfl, q2⟩
theorem pc_nnotinC {P : Program} {w : World} {K : PySem.W.Frag} (h1 : X.prog = P) (h2 : X.w = w) (h3 : X.K = K) (hu : X.A.units + 9 < cLine) (hi : PE X i ty) (ho : PE X o td) : PC X .NotIn i o (tNNotIn P w K ty td) := by
  subst h1 h2 h3
  exact pc_nnotin hu hi ho
theorem pe_nsetd (hu : X.A.units + 9 < cLine) (ho : PE X o td) (he : PE X e ty) (hf : PE X f tx) (m : M2 X o "setdefault" apos e f cpos) : PE X (.Call (.Attribute o "setdefault" apos) [e, f] [] cpos) (tNSetd X.prog X.w X.K td ty tx) := by
  refine ⟨fun pins s σ H Q I h => ?_⟩
  refine wpAny_Call_method m.base m.few m.line PySem.F.plainAttrs_dict PySem.F.slot_dict_setdefault PySem.F.type_dict_setdefault (thn (ho.run pins s σ H _ I h) fun u s1 ⟨x, H1, I1, rx, a, ex, ⟨kv0, d⟩, q1⟩ => ?_)
  subst ex
  obtain rfl : u = Value.ref a := rx
  refine ⟨nd_ty I1 d, ?_, ?_⟩
  · obtain ⟨_, xs, e, _⟩ := d
    obtain ⟨_, ob, _, _, h1, h2, _⟩ := nd_raw I1.hok e
    intro b q
    cases q
    exact ⟨ob, h1, h2.2.1⟩
  rw [m.trees]
  refine Calls.callWith_builtin rfl (Calls.evalArgs_plain (Calls.spliced_cons (thn (he.run pins s1 σ H1 _ I1 q1) fun iv s2 ⟨y, H2, I2, ry, q2⟩ =>
    Calls.spliced_cons (thn (hf.run pins s2 σ H2 _ I2 q2) fun fv s3 ⟨z, H3, I3, rz, b, kvs, k, ey, g, nk, dk, hl, q3, q4⟩ => Calls.spliced_nil ?_))))
  subst ey
  obtain rfl : iv = Value.ref b := ry
  obtain ⟨_, xs, e, q⟩ := g
  obtain ⟨hsm, hm⟩ := nd_of I3 (.inl e) q
  have hz : xs.length ≤ sizeLine := big (by rw [← kn_len q]; omega)
  refine call_setdefault_heap (hsz := hz) (room8 hu) (key_is I3 nk dk) hsm hm (fun p hp => ?_) fun hn h' dd' hs' => ?_
  · have hr := kn_at q k
    rw [hp] at hr
    cases hv : valV kvs k with
    | none =>
      rw [hv] at hr
      exact (show False from hr).elim
    | some v =>
      rw [hv] at hr
      exact ⟨v, H3, I3.tok _, hr, q3 v hv⟩
  · have hr := (kn_at q k).isSome_eq
    rw [hn] at hr
    have hv : valV kvs k = none := by
      cases hv : valV kvs k with
      | none => rfl
      | some v =>
        rw [hv] at hr
        cases hr
    have r1 := raw_of hsm dd'
    have he : ∃ q, h'.get? a = some q := let ⟨_, o, _, _, ho, _⟩ := r1; ⟨o, ho⟩
    refine ⟨z, _, d_write I3 (by rw [e]; exact True.intro) hs' he (nd_new r1), rz, q4 hv _ fun G hG hGa => ⟨?_, _, hGa, ?_⟩⟩
    · have := length_putK kvs k z
      omega
    · exact KN.tr (sqt_but e (fun _ z => nomatch z) (fun _ _ z => nomatch z) hG) (q.put k nk dk rz)
section
variable {P : Program} {w : World} {K : PySem.W.Frag} (h1 : X.prog = P) (h2 : X.w = w) (h3 : X.K = K)
include h1 h2 h3
theorem pe_nnewC : PE X (.Dict [] [] pos) (tNNew P w K) := by
  subst h1 h2 h3
  exact pe_nnew
theorem pe_ngetC (hu : X.A.units + 9 < cLine) (ho : PE X o td) (hi : PE X i ty) (hs : NoSl i) : PE X (.Subscript o i pos) (tNGet P w K td ty) := by
  subst h1 h2 h3
  exact pe_nget hu ho hi hs
theorem pe_nsetdC (hu : X.A.units + 9 < cLine) (ho : PE X o td) (he : PE X e ty) (hf : PE X f tx) (m : M2 X o "setdefault" apos e f cpos) : PE X (.Call (.Attribute o "setdefault" apos) [e, f] [] cpos) (tNSetd P w K td ty tx) := by
  subst h1 h2 h3
  exact pe_nsetd hu ho he hf m
theorem ps_nputC (hu : X.A.units + 9 < cLine) (ho : PE X o td) (hi : PE X i ty) (hv : PE X value tv) (hs : swapsWith value (some (.Subscript o i pos')) pos.line X.env = pure false) :
    PS X (.Assign [.Subscript o i pos'] value pos) (sNPut P w K td ty tv) := by
  subst h1 h2 h3
  exact ps_nput hu ho hi hv hs
theorem pi_nkeysC {tg e : Expr} {td : TE} (he : PE X e td) : PI X tg e (iNKeys P w K td) := by
  subst h1 h2 h3
  exact pi_nkeys he
end
end
end Bl

/-! rows that hang together: the search, level by level, over lists -/
namespace Bl
open PySem L2
def lookN (fd : List (Nat × Nat)) (o : Nat) : Option Nat := (fd.find? fun p => decide (p.1 = o)).map (·.2)
theorem lookN_nil {o : Nat} : lookN [] o = none := rfl
theorem lookN_cons {p : Nat × Nat} {fd : List (Nat × Nat)} {o : Nat} : lookN (p :: fd) o = if p.1 = o then some p.2 else lookN fd o := by
  unfold lookN
  rw [List.find?_cons]
  by_cases e : p.1 = o
  · simp [e]
  · simp [e]
theorem lookN_app {fd gd : List (Nat × Nat)} {o : Nat} : lookN (fd ++ gd) o = (lookN fd o).or (lookN gd o) := by
  induction fd with
  | nil => rfl
  | cons p fd ih =>
    rw [List.cons_append, lookN_cons, lookN_cons, ih]
    by_cases e : p.1 = o
    · rw [if_pos e, if_pos e]
      rfl
    · rw [if_neg e, if_neg e]
theorem lookN_mem {fd : List (Nat × Nat)} {o : Nat} : (lookN fd o).isSome = decide (o ∈ fd.map (·.1)) := by
  induction fd with
  | nil => rfl
  | cons p fd ih =>
    rw [lookN_cons, List.map_cons]
    by_cases e : p.1 = o
    · rw [if_pos e]
      simp [e]
    · rw [if_neg e, ih]
      have : ¬ o = p.1 := fun h => e h.symm
      simp [this]
def putN (v : Nat) (fd : List (Nat × Nat)) (o : Nat) : List (Nat × Nat) := if (lookN fd o).isSome then fd else fd ++ [(o, v)]
structure BSt where
  fd : List (Nat × Nat)
  us : List NestedKey
  fr : List Nat
def markStep (hold : NestedKey → List Nat) (row : Nat) (st : BSt) (k : NestedKey) : BSt :=
  ⟨(hold k).foldl (putN ((lookN st.fd row).getD 0 + 1)) st.fd, st.us ++ [k], st.fr ++ (hold k).filter fun o => !(lookN st.fd o).isSome⟩
def rowStep (hold : NestedKey → List Nat) (mk : Nat → List NestedKey) (st : BSt) (row : Nat) : BSt := ((mk row).filter fun k => !decide (k ∈ st.us)).foldl (markStep hold row) st
def lvlStep (hold : NestedKey → List Nat) (mk : Nat → List NestedKey) (lv : List Nat) (st : BSt) : BSt := lv.foldl (rowStep hold mk) ⟨st.fd, st.us, []⟩
def bfsRun (hold : NestedKey → List Nat) (mk : Nat → List NestedKey) : Nat → List Nat → BSt → BSt
  | _, [], st => st
  | 0, _ :: _, st => st
  | n + 1, x :: lv, st => bfsRun hold mk n (lvlStep hold mk (x :: lv) st).fr (lvlStep hold mk (x :: lv) st)
/-- who holds a key -/
def holdL (ms : List (List NestedKey)) (k : NestedKey) : List Nat := (List.range ms.length).filter fun i => match ms[i]? with
  | some m => decide (k ∈ m)
  | none => false
def mkL (ms : List (List NestedKey)) (i : Nat) : List NestedKey := (ms[i]?).getD []
def bfs (ms : List (List NestedKey)) (s : Nat) : List (Nat × Nat) := (bfsRun (holdL ms) (mkL ms) (ms.length + 1) [s] ⟨[(s, 0)], [], []⟩).fd
theorem holdL_lt {ms : List (List NestedKey)} {k : NestedKey} : ∀ o ∈ holdL ms k, o < ms.length := fun o h => List.mem_range.mp (List.mem_filter.mp h).1
theorem holdL_nd {ms : List (List NestedKey)} {k : NestedKey} : (holdL ms k).Nodup := List.nodup_range.filter _
theorem holdL_mem {ms : List (List NestedKey)} {k : NestedKey} {i : Nat} : i ∈ holdL ms k ↔ k ∈ mkL ms i := by
  unfold holdL mkL
  rw [List.mem_filter, List.mem_range]
  constructor
  · rintro ⟨h1, h2⟩
    rw [List.getElem?_eq_getElem h1] at h2 ⊢
    exact of_decide_eq_true h2
  · intro h
    have h1 : i < ms.length := Nat.lt_of_not_le fun hn => by
      rw [List.getElem?_eq_none hn] at h
      cases h
    refine ⟨h1, ?_⟩
    rw [List.getElem?_eq_getElem h1] at h ⊢
    exact decide_eq_true h
section
variable {hold : NestedKey → List Nat} {mk : Nat → List NestedKey}
theorem putN_len {v : Nat} {fd : List (Nat × Nat)} {o : Nat} : fd.length ≤ (putN v fd o).length ∧ ((lookN fd o).isSome = false → fd.length < (putN v fd o).length) := by
  unfold putN
  split
  · rename_i h
    exact ⟨Nat.le_refl _, fun q => by rw [h] at q; cases q⟩
  · rw [List.length_append]
    exact ⟨Nat.le_add_right _ _, fun _ => Nat.lt_succ_self _⟩
theorem putN_keep {v : Nat} {fd : List (Nat × Nat)} {o x : Nat} (h : (lookN fd x).isSome = true) : lookN (putN v fd o) x = lookN fd x := by
  unfold putN
  split
  · rfl
  · rw [lookN_app]
    cases e : lookN fd x with
    | none => rw [e] at h; cases h
    | some y => rfl
theorem puts_len {v : Nat} : ∀ {os : List Nat} {fd : List (Nat × Nat)}, fd.length ≤ (os.foldl (putN v) fd).length ∧ ((∃ o ∈ os, (lookN fd o).isSome = false) → fd.length < (os.foldl (putN v) fd).length)
  | [], fd => ⟨Nat.le_refl _, fun ⟨_, h, _⟩ => nomatch h⟩
  | o :: os, fd => by
    have ih := puts_len (v := v) (os := os) (fd := putN v fd o)
    have h1 := putN_len (v := v) (fd := fd) (o := o)
    refine ⟨Nat.le_trans h1.1 ih.1, fun ⟨x, hx, hn⟩ => ?_⟩
    show fd.length < (os.foldl (putN v) (putN v fd o)).length
    by_cases e : (lookN fd o).isSome = false
    · exact Nat.lt_of_lt_of_le (h1.2 e) ih.1
    · have e2 : putN v fd o = fd := if_pos (Bool.not_eq_false _ ▸ e)
      rw [e2] at ih ⊢
      rcases List.mem_cons.mp hx with rfl | hx
      · exact absurd hn e
      · exact ih.2 ⟨x, hx, hn⟩
theorem puts_keep {v x : Nat} : ∀ {os : List Nat} {fd : List (Nat × Nat)}, (lookN fd x).isSome = true → lookN (os.foldl (putN v) fd) x = lookN fd x
  | [], _, _ => rfl
  | o :: os, fd, h => by
    have h1 := putN_keep (v := v) (o := o) h
    show lookN (os.foldl (putN v) (putN v fd o)) x = _
    rw [puts_keep (os := os) (by rw [h1]; exact h), h1]
/-- what a row's keys are: n of the rows, each once -/
structure FdOk (R s : Nat) (hold : NestedKey → List Nat) (fd : List (Nat × Nat)) : Prop where
  nd : (fd.map (·.1)).Nodup
  lt : ∀ x ∈ fd.map (·.1), x < R
  of : ∀ x ∈ fd.map (·.1), x = s ∨ ∃ k, x ∈ hold k
theorem putN_ok {R s v o : Nat} {fd : List (Nat × Nat)} (h : FdOk R s hold fd) (ho : o < R) (hk : ∃ k, o ∈ hold k) : FdOk R s hold (putN v fd o) := by
  unfold putN
  split
  · exact h
  · rename_i e
    have e : o ∉ fd.map (·.1) := fun hm => e (by rw [lookN_mem]; exact decide_eq_true hm)
    refine ⟨?_, fun x hx => ?_, fun x hx => ?_⟩
    · rw [List.map_append, List.nodup_append]
      refine ⟨h.nd, by simp, fun a ha b hb q => ?_⟩
      subst q
      rw [List.map_cons, List.map_nil, List.mem_singleton] at hb
      subst hb
      exact e ha
    · rw [List.map_append] at hx
      rcases List.mem_append.mp hx with hx | hx
      · exact h.lt x hx
      · rw [List.mem_singleton.mp hx]
        exact ho
    · rw [List.map_append] at hx
      rcases List.mem_append.mp hx with hx | hx
      · exact h.of x hx
      · rw [List.mem_singleton.mp hx]
        exact .inr hk
theorem puts_ok {R s v : Nat} {k : NestedKey} : ∀ {os : List Nat} {fd : List (Nat × Nat)}, FdOk R s hold fd → (∀ o ∈ os, o < R ∧ o ∈ hold k) → FdOk R s hold (os.foldl (putN v) fd)
  | [], _, h, _ => h
  | o :: os, fd, h, ho => puts_ok (os := os) (putN_ok h (ho o List.mem_cons_self).1 ⟨k, (ho o List.mem_cons_self).2⟩) fun x hx => ho x (List.mem_cons_of_mem _ hx)
/-- fresh rows are rows that were not found -/
structure StOk (R s n : Nat) (hold : NestedKey → List Nat) (st : BSt) : Prop where
  fd : FdOk R s hold st.fd
  le : n ≤ st.fd.length
  lt : st.fr ≠ [] → n < st.fd.length
  fr : ∀ x ∈ st.fr, (lookN st.fd x).isSome = true
  nd : st.fr.Nodup
theorem puts_all {v x : Nat} : ∀ {os : List Nat} {fd : List (Nat × Nat)}, x ∈ os → (lookN (os.foldl (putN v) fd) x).isSome = true
  | o :: os, fd, h => by
    show (lookN (os.foldl (putN v) (putN v fd o)) x).isSome = true
    rcases List.mem_cons.mp h with rfl | h
    · have h1 : (lookN (putN v fd x) x).isSome = true := by
        unfold putN
        split
        · assumption
        · rw [lookN_app]
          cases lookN fd x with
          | some y => rfl
          | none =>
            rw [lookN_cons, if_pos rfl]
            rfl
      rw [puts_keep h1]
      exact h1
    · exact puts_all h
theorem mark_ok {R s n row : Nat} {k : NestedKey} {st : BSt} (h : StOk R s n hold st) (hl : ∀ k, ∀ o ∈ hold k, o < R) (hn : ∀ k, (hold k).Nodup) : StOk R s n hold (markStep hold row st k) := by
  have h1 := puts_len (v := (lookN st.fd row).getD 0 + 1) (os := hold k) (fd := st.fd)
  refine ⟨puts_ok (k := k) h.fd fun o ho => ⟨hl k o ho, ho⟩, Nat.le_trans h.le h1.1, fun hn => ?_, fun x hx => ?_, ?_⟩
  · show n < ((hold k).foldl (putN ((lookN st.fd row).getD 0 + 1)) st.fd).length
    by_cases e : st.fr = []
    · have hn : ¬ (st.fr ++ (hold k).filter fun o => !(lookN st.fd o).isSome) = [] := hn
      rw [e, List.nil_append] at hn
      obtain ⟨x, hx⟩ := List.exists_mem_of_ne_nil _ hn
      rw [List.mem_filter] at hx
      exact Nat.lt_of_le_of_lt h.le (h1.2 ⟨x, hx.1, by simpa using hx.2⟩)
    · exact Nat.lt_of_lt_of_le (h.lt e) h1.1
  · show (lookN ((hold k).foldl (putN ((lookN st.fd row).getD 0 + 1)) st.fd) x).isSome = true
    rcases List.mem_append.mp hx with hx | hx
    · rw [puts_keep (h.fr x hx)]
      exact h.fr x hx
    · exact puts_all (List.mem_filter.mp hx).1
  · show (st.fr ++ (hold k).filter fun o => !(lookN st.fd o).isSome).Nodup
    rw [List.nodup_append]
    refine ⟨h.nd, (hn k).filter _, fun a ha b hb q => ?_⟩
    subst q
    have h1 := h.fr a ha
    have h2 := (List.mem_filter.mp hb).2
    rw [h1] at h2
    cases h2
theorem marks_ok {R s n row : Nat} (hl : ∀ k, ∀ o ∈ hold k, o < R) (hn : ∀ k, (hold k).Nodup) : ∀ {ks : List NestedKey} {st : BSt}, StOk R s n hold st → StOk R s n hold (ks.foldl (markStep hold row) st)
  | [], _, h => h
  | _ :: ks, _, h => marks_ok hl hn (ks := ks) (mark_ok h hl hn)
theorem rows_ok {R s n : Nat} (hl : ∀ k, ∀ o ∈ hold k, o < R) (hn : ∀ k, (hold k).Nodup) : ∀ {lv : List Nat} {st : BSt}, StOk R s n hold st → StOk R s n hold (lv.foldl (rowStep hold mk) st)
  | [], _, h => h
  | _ :: lv, _, h => rows_ok hl hn (lv := lv) (marks_ok hl hn h)
/-- the rows found stay found -/
theorem mark_keep {row x : Nat} {k : NestedKey} {st : BSt} (h : (lookN st.fd x).isSome = true) : lookN (markStep hold row st k).fd x = lookN st.fd x := puts_keep h
theorem marks_keep {row x : Nat} : ∀ {ks : List NestedKey} {st : BSt}, (lookN st.fd x).isSome = true → lookN (ks.foldl (markStep hold row) st).fd x = lookN st.fd x
  | [], _, _ => rfl
  | k :: ks, st, h => by
    have h1 := mark_keep (hold := hold) (row := row) (k := k) h
    show lookN (ks.foldl (markStep hold row) (markStep hold row st k)).fd x = _
    rw [marks_keep (ks := ks) (by rw [h1]; exact h), h1]
theorem rows_keep {x : Nat} : ∀ {lv : List Nat} {st : BSt}, (lookN st.fd x).isSome = true → lookN (lv.foldl (rowStep hold mk) st).fd x = lookN st.fd x
  | [], _, _ => rfl
  | r :: lv, st, h => by
    have h1 : lookN (rowStep hold mk st r).fd x = lookN st.fd x := marks_keep h
    show lookN (lv.foldl (rowStep hold mk) (rowStep hold mk st r)).fd x = _
    rw [rows_keep (lv := lv) (by rw [h1]; exact h), h1]
theorem run_keep {x : Nat} : ∀ {n : Nat} {lv : List Nat} {st : BSt}, (lookN st.fd x).isSome = true → lookN (bfsRun hold mk n lv st).fd x = lookN st.fd x
  | 0, [], _, _ => rfl
  | _ + 1, [], _, _ => rfl
  | 0, _ :: _, _, _ => rfl
  | n + 1, y :: lv, st, h => by
    have h1 : lookN (lvlStep hold mk (y :: lv) st).fd x = lookN st.fd x := rows_keep (st := ⟨st.fd, st.us, []⟩) h
    show lookN (bfsRun hold mk n (lvlStep hold mk (y :: lv) st).fr (lvlStep hold mk (y :: lv) st)).fd x = _
    rw [run_keep (by rw [h1]; exact h), h1]
theorem run_ok {R s : Nat} (hl : ∀ k, ∀ o ∈ hold k, o < R) (hn : ∀ k, (hold k).Nodup) : ∀ {n : Nat} {lv : List Nat} {st : BSt}, FdOk R s hold st.fd → FdOk R s hold (bfsRun hold mk n lv st).fd
  | 0, [], _, h => h
  | _ + 1, [], _, h => h
  | 0, _ :: _, _, h => h
  | n + 1, y :: lv, st, h => by
    have h1 : FdOk R s hold (lvlStep hold mk (y :: lv) st).fd := (rows_ok (n := 0) (s := s) (lv := y :: lv) (st := ⟨st.fd, st.us, []⟩) hl hn ⟨h, Nat.zero_le _, fun q => absurd rfl q, (fun _ q => nomatch q), List.nodup_nil⟩).fd
    exact run_ok (n := n) (lv := (lvlStep hold mk (y :: lv) st).fr) hl hn h1
theorem nodup_lt : ∀ {R : Nat} {l : List Nat}, l.Nodup → (∀ x ∈ l, x < R) → l.length ≤ R
  | 0, [], _, _ => Nat.le_refl _
  | 0, x :: _, _, h => absurd (h x List.mem_cons_self) (Nat.not_lt_zero _)
  | R + 1, l, nd, h => by
    by_cases hm : R ∈ l
    · have h1 := nodup_lt (R := R) (nd.erase R) fun x hx => by
        have h2 := h x (List.mem_of_mem_erase hx)
        have h3 : x ≠ R := fun q => by
          subst q
          exact (List.Nodup.not_mem_erase nd) hx
        omega
      rw [List.length_erase_of_mem hm] at h1
      have : 0 < l.length := List.length_pos_of_mem hm
      omega
    · have h1 := nodup_lt (R := R) nd fun x hx => by
        have h2 := h x hx
        have h3 : x ≠ R := fun q => hm (q ▸ hx)
        omega
      omega
theorem nodup_sub {α : Type} [DecidableEq α] : ∀ {l M : List α}, l.Nodup → (∀ x ∈ l, x ∈ M) → l.length ≤ M.length
  | [], _, _, _ => Nat.zero_le _
  | x :: l, M, nd, h => by
    rw [List.nodup_cons] at nd
    have hx := h x List.mem_cons_self
    have h1 := nodup_sub (l := l) (M := M.erase x) nd.2 fun y hy => (List.mem_erase_of_ne (fun q : y = x => nd.1 (by rw [← q]; exact hy))).mpr (h y (List.mem_cons_of_mem _ hy))
    rw [List.length_erase_of_mem hx] at h1
    have : 0 < M.length := List.length_pos_of_mem hx
    rw [List.length_cons]
    omega
theorem marks_us {row : Nat} : ∀ {ks : List NestedKey} {st : BSt}, (ks.foldl (markStep hold row) st).us = st.us ++ ks
  | [], st => (List.append_nil _).symm
  | k :: ks, st => by
    show (ks.foldl (markStep hold row) (markStep hold row st k)).us = _
    rw [marks_us (ks := ks)]
    show (st.us ++ [k]) ++ ks = _
    rw [List.append_assoc]
    rfl
/-- the keys that were used: each once, each some row's -/
structure UsOk (M : List NestedKey) (st : BSt) : Prop where
  nd : st.us.Nodup
  of : ∀ k ∈ st.us, k ∈ M
theorem row_us {M : List NestedKey} {row : Nat} {st : BSt} (h : UsOk M st) (nd : (mk row).Nodup) (hM : ∀ k ∈ mk row, k ∈ M) : UsOk M (rowStep hold mk st row) := by
  unfold rowStep
  refine ⟨?_, fun k hk => ?_⟩
  · rw [marks_us, List.nodup_append]
    refine ⟨h.nd, nd.filter _, fun a ha b hb q => ?_⟩
    subst q
    have h2 := (List.mem_filter.mp hb).2
    rw [decide_eq_true ha] at h2
    cases h2
  · rw [marks_us] at hk
    rcases List.mem_append.mp hk with hk | hk
    · exact h.of k hk
    · exact hM k (List.mem_filter.mp hk).1
theorem fd_len {R s : Nat} {fd : List (Nat × Nat)} (h : FdOk R s hold fd) : fd.length ≤ R := by
  rw [← List.length_map (f := fun p : Nat × Nat => p.1)]
  exact nodup_lt h.nd h.lt
end
theorem bfs_ok {ms : List (List NestedKey)} {s : Nat} (hs : s < ms.length) : FdOk ms.length s (holdL ms) (bfs ms s) :=
  run_ok (fun k => holdL_lt) (fun k => holdL_nd) ⟨by simp, fun x hx => by rw [List.mem_singleton.mp hx]; exact hs, fun x hx => .inl (List.mem_singleton.mp hx)⟩
theorem bfs_self {ms : List (List NestedKey)} {s : Nat} : lookN (bfs ms s) s = some 0 := by
  unfold bfs
  have h : (lookN [(s, 0)] s).isSome = true := by
    rw [lookN_cons, if_pos rfl]
    rfl
  rw [run_keep (st := ⟨[(s, 0)], [], []⟩) h]
  show lookN [(s, 0)] s = some 0
  rw [lookN_cons, if_pos rfl]
/-- a row without keys hangs with no other -/
theorem bfs_alone {ms : List (List NestedKey)} {s : Nat} (h : mkL ms s = []) : bfs ms s = [(s, 0)] := by
  unfold bfs
  show (bfsRun (holdL ms) (mkL ms) ms.length (lvlStep (holdL ms) (mkL ms) [s] ⟨[(s, 0)], [], []⟩).fr (lvlStep (holdL ms) (mkL ms) [s] ⟨[(s, 0)], [], []⟩)).fd = _
  have e : lvlStep (holdL ms) (mkL ms) [s] ⟨[(s, 0)], [], []⟩ = ⟨[(s, 0)], [], []⟩ := by
    show rowStep (holdL ms) (mkL ms) ⟨[(s, 0)], [], []⟩ s = _
    unfold rowStep
    rw [h]
    rfl
  rw [e]
  cases ms.length <;> rfl
theorem bfs_not {ms : List (List NestedKey)} {s t : Nat} (hs : s < ms.length) (h : mkL ms t = []) (n : t ≠ s) : lookN (bfs ms s) t = none := by
  cases e : lookN (bfs ms s) t with
  | none => rfl
  | some v =>
    have hm : t ∈ (bfs ms s).map (·.1) := by
      have := lookN_mem (fd := bfs ms s) (o := t)
      rw [e] at this
      exact of_decide_eq_true this.symm
    rcases (bfs_ok hs).of t hm with q | ⟨k, q⟩
    · exact absurd q n
    · rw [holdL_mem, h] at q
      cases q
end Bl

/-! a == b, two lists that are equal, or of another length -/
namespace Bl
open PySem L2 PySem.Spec PyProof.Rows
@[irreducible] def rEqL (K : PySem.W.Frag) : R2 := fun x y H Q => rEqV K x y H Q ∨ ∃ a b xs ys, x = .ref a ∧ y = .ref b ∧ SqL K H a xs ∧ SqL K H b ys ∧ xs.length ≠ ys.length ∧ Q (.bl false) H
section
variable {X : Cx}
theorem op_eqL (hu : X.A.units + 64 < cLine) : OpR X (compareOp .Eq) (rEqL X.K) := by
  intro pins s σ H x y v u Q I rx ry h
  unfold rEqL at h
  rcases h with h | ⟨a, b, xs, ys, rfl, rfl, ha, hb, hne, q⟩
  · exact op_eqV hu pins s σ H x y v u Q I rx ry h
  · cases (show v = Value.ref a from rx)
    cases (show u = Value.ref b from ry)
    obtain ⟨us, r1, p1, _⟩ := I.list ha
    obtain ⟨ws, r2, p2, _⟩ := I.list hb
    refine SeqAt.RcAt.lists_lengths p1.isList p2.isList ?_ (by omega) X.prog X.w _ _ ⟨.bl false, H, I, rfl, q⟩
    rw [List.size_toArray, List.size_toArray, ← r1.length, ← r2.length]
    exact bne_iff_ne.mpr hne
@[irreducible] def rNeL (K : PySem.W.Frag) : R2 := fun x y H Q => rNeD K x y H Q ∨ ∃ a b xs ys, x = .ref a ∧ y = .ref b ∧ SqL K H a xs ∧ SqL K H b ys ∧ xs.length ≠ ys.length ∧ Q (.bl true) H
theorem op_neL (hu : X.A.units + 64 < cLine) : OpR X (compareOp .NotEq) (rNeL X.K) := by
  intro pins s σ H x y v u Q I rx ry h
  unfold rNeL at h
  rcases h with h | ⟨a, b, xs, ys, rfl, rfl, ha, hb, hne, q⟩
  · exact op_neD hu pins s σ H x y v u Q I rx ry h
  · cases (show v = Value.ref a from rx)
    cases (show u = Value.ref b from ry)
    obtain ⟨us, r1, p1, _⟩ := I.list ha
    obtain ⟨ws, r2, p2, _⟩ := I.list hb
    refine SeqAt.RcNeAt.lists_lengths p1.isList p2.isList ?_ (by omega) X.prog X.w _ _ ⟨.bl true, H, I, rfl, q⟩
    rw [List.size_toArray, List.size_toArray, ← r1.length, ← r2.length]
    exact bne_iff_ne.mpr hne
theorem neL_nil {K : PySem.W.Frag} {a e : Addr} {H : Hp} {Q : VK} (ha : SqL K H a []) (he : SqL K H e []) (q : Q (.bl false) H) : rNeL K (.ref a) (.ref e) H Q := by
  unfold rNeL
  exact .inl ⟨.list [], .list [], .lst ha .nil, .lst he .nil, rfl, rfl, q⟩
theorem neL_ne {K : PySem.W.Frag} {a e : Addr} {xs : List V} {H : Hp} {Q : VK} (ha : SqL K H a xs) (he : SqL K H e []) (n : xs.length ≠ 0) (q : Q (.bl true) H) : rNeL K (.ref a) (.ref e) H Q := by
  unfold rNeL
  exact .inr ⟨a, e, xs, [], rfl, rfl, ha, he, n, q⟩
/-- len, within a comprehension within a comprehension -/
theorem call_lenC {K : PySem.W.Frag} (hK : X.K = K) : CallR X (.builtin "len") (fun xs H Q => ∃ p ys, xs = [V.ref p] ∧ (SqL K H p ys ∨ SqT K H p ys) ∧ Q (V.int ys.length) H) := by
  subst hK
  exact call_len_seq
end
end Bl

/-! C(*y): an instance of a class whose __init__ takes any number of arguments -/
namespace Bl
open PySem L2 PySem.Spec PyProof.Rows StX
def tMakeS (K : PySem.W.Frag) (C : Addr) (sp : Sp) (E : XK) (te : TE) : TE := fun σ H Q => te σ H fun y H1 => ∃ a xs, y = V.ref a ∧ (SqT K H1 a xs ∨ SqL K H1 a xs) ∧ ∀ x dx, H1 x = Option.none → H1 dx = Option.none → dx ≠ x →
  sp (V.ref x :: xs) (upd (upd H1 dx (.own x)) x (.ins C dx [])) (fun v H2 => v = .non ∧ Q (.ref x) H2) E
section
variable {X : Cx} {CX : CXT} {k : Nat} {f C : Addr} {sp : Sp} {E : XK} {x : Str} {e : Expr} {te : TE} {p sp_ pos : Pos}
theorem pe_makeS1 (M : Mk X.K C f) (F : FnR X.prog X.w X.K X.mg X.base CX k f sp) (hr : Room (k + 1) X.A) (hg : Gl X x) (hm : X.mg x = some (.ref C)) (hx : Passes CX X E) (he : PE X e te) (hd : (x == ("__debug__" : Str)) = false := by decide)
    (hst : starEach [.Starred e sp_] X.env = [(true, eval e X.env)] := by rfl) : PE X (.Call (.Name x p) [.Starred e sp_] [] pos) (tMakeS X.K C sp E te) := by
  refine ⟨fun pins s σ H Q I h => ?_⟩
  refine wpAny_Call_Name_kw (ld_glob I hg hm ?_ hd)
  refine PySem.W.callWith_S (h₀ := X.base) I.ok.mod.kin M.kp (thn (he.run pins s σ H _ I h) fun v s1 ⟨y, H1, I1, ry, a, xs, ey, hxs, q⟩ => ?_) hst
  subst ey
  obtain rfl : v = Value.ref a := ry
  exact star_any I1 hxs fun us s2 I2 rv => ⟨I2.kIn, run_makeR M F hr hx I2 rv q⟩
end
end Bl

/-! x != y, x of an own class with __eq__ of its own and no __ne__ -/
namespace Bl
open PySem PySem.Spec PyProof.Rows L2 Builtin
section
variable {prog : Program} {w : World} {A : Around} {E : Value → Shared → Prop} {s : Shared} {K : PySem.W.Frag} {x C f : Addr} {ox : Obj} {od : Option Obj} {b tb : Value}
theorem objNe_entry {Q : Fin → Shared → Prop} (hu : A.units < cLine) (X : K.In s.heap) (I : PySem.W.InstAt s.heap x ox C od) (hs : PySem.W.findIn K (.ref C) "__eq__" = some (some (.ref f))) (hf : PySem.W.isFn K (.ref f) = true)
    (hcall : wpAny (model prog w) A (call (.ref f) [.ref x, b]) (fun v s' => ∃ r, v = .bool r ∧ Q (.done (.ret (.bool (!r)))) s') E s) :
    wpAny (model prog w) A (Builtin.«object.__ne__» ⟨[.ref x, b], []⟩) Q E s := by
  unfold Builtin.«object.__ne__»
  repeat (first
    | with_reducible refine wpAny_cRoomFor hu ?_
    | (refine wpAny_bind (m := callSpecialIfBound? (.ref x) (Str.ofString "__eq__") [b])
        (PySem.W.ifBound_K X I hs hf (wpAny_mono hcall (fun r s' hr => by
          obtain ⟨b, rfl, hq⟩ := hr
          repeat (first | exact hq | exact wpAny_pure hq | exact wpAny_truthy_bool hq | (refine wpAny_bind (m := truthy (.bool _)) (wpAny_truthy_bool ?_)) | wp_step)) fun _ _ e => e)))
    | wp_step)
theorem call_objNe {Q : Value → Shared → Prop} (hu : A.units + 1 < cLine) (X : K.In s.heap) (I : PySem.W.InstAt s.heap x ox C od) (hm : PySem.W.mroIn K C (.type "object") = some true) (hs : PySem.W.findIn K (.ref C) "__eq__" = some (some (.ref f))) (hf : PySem.W.isFn K (.ref f) = true)
    (hcall : wpAny (model prog w) A.in1 (call (.ref f) [.ref x, b]) (fun v s' => ∃ r, v = .bool r ∧ Q (.bool (!r)) s') E s) :
    wpAny (model prog w) A (call (.builtin "object.__ne__") [.ref x, b]) Q E s :=
  wpAny_call (codeAny_call_builtin F.cmp_object.ne.plain F.cmpEntry_ne (PySem.W.check_slot F.cmpKind_ne F.cmpSplit_ne (I.type.andThen (PySem.W.looks_mroIn X hm)) (F.cmpArgs_ne _ _)
    (objNe_entry (A := A.in1) hu X I hs hf hcall)))
theorem ifBound_objNe {M : Model} {args : List Value} {Q : Option Value → Shared → Prop} (X : K.In s.heap) (I : PySem.W.InstAt s.heap x ox C od) (hs : PySem.W.findIn K (.ref C) "__ne__" = some (some (.builtin "object.__ne__")))
    (h : wpAny M A (call (.builtin "object.__ne__") (.ref x :: args)) (fun v => Q (some v)) E s) : wpAny M A (callSpecialIfBound? (.ref x) "__ne__" args) Q E s := by
  simp only [callSpecialIfBound?, bindSpecialIfBound?]
  refine wpAny_holding (wpAny_bind (wpAny_bind (wpAny_bind (I.type.here ((PySem.W.looks_findIn X hs).here ?_)))))
  refine wpAny_bind (wpAny_askSetting (wpAny_ite ?_))
  have fin : wpAny M A (call (.builtin "object.__ne__") ([.ref x] ++ args) >>= fun v => pure (some v)) Q E s := wpAny_bind (wpAny_mono h (fun v s' h' => wpAny_pure h') fun _ _ h' => h')
  split
  · exact wpAny_bind (wpAny_of_eq (F.cmp_object.ne.bind _) (wpAny_pure (by exact fin)))
  · exact wpAny_tryCatch (wpAny_bind (wpAny_of_eq (F.cmp_object.ne.bind _) (wpAny_pure (by exact fin))))
theorem rich_ne {Q : Value → Shared → Prop} (hu : A.units + 1 < cLine) (X : K.In s.heap) (I : PySem.W.InstAt s.heap x ox C od) (hb : PySem.W.Looks (model prog w) s.heap (typeOf b) tb) (hn : PySem.W.notFirst K C tb = true)
    (hm : PySem.W.mroIn K C (.type "object") = some true) (hs : PySem.W.findIn K (.ref C) "__eq__" = some (some (.ref f))) (hs2 : PySem.W.findIn K (.ref C) "__ne__" = some (some (.builtin "object.__ne__"))) (hf : PySem.W.isFn K (.ref f) = true)
    (hcall : wpAny (model prog w) A.in1 (call (.ref f) [.ref x, b]) (fun v s' => ∃ r, v = .bool r ∧ Q (.bool (!r)) s') E s) :
    wpAny (model prog w) A (richCompare .NotEq (.ref x) b) Q E s := by
  have one : wpAny (model prog w) A (tryCompare (.ref x) "__ne__" b) (fun r s' => ∃ v, r = some v ∧ Q v s') E s := by
    unfold tryCompare
    refine wpAny_bind (ifBound_objNe X I hs2 (call_objNe hu X I hm hs hf (wpAny_mono hcall (fun v s' hv => ?_) fun _ _ e => e)))
    obtain ⟨r, rfl, hq⟩ := hv
    exact ⟨r, rfl, wpAny_pure ⟨_, rfl, hq⟩⟩
  unfold richCompare
  rw [cmpInfo_NotEq]
  simp only [oneThing_ref]
  refine wpAny_holding (wpAny_bind (wpAny_cRoomFor (Nat.lt_of_succ_lt hu) ?_))
  refine wpAny_bind (I.type.here (wpAny_bind (hb.here ?_)))
  split
  · rename_i q
    have e : PySem.W.subIn K tb (.ref C) = some false := by
      rcases Bool.or_eq_true_iff.mp hn with e | e
      · rw [beq_iff_eq.mp e] at q; simp at q
      · exact beq_iff_eq.mp e
    refine wpAny_bind ((PySem.W.looks_subIn X e).here ?_)
    simp only [Bool.false_eq_true, if_false]
    refine wpAny_bind (wpAny_mono one (fun r s' z => ?_) fun _ _ e => e)
    obtain ⟨v, rfl, hq⟩ := z
    exact wpAny_pure hq
  · refine wpAny_bind (wpAny_pure ?_)
    simp only [Bool.false_eq_true, if_false]
    refine wpAny_bind (wpAny_mono one (fun r s' z => ?_) fun _ _ e => e)
    obtain ⟨v, rfl, hq⟩ := z
    exact wpAny_pure hq
end
section
variable {X : Cx} {CX : CXT} {k : Nat} {C f : Addr} {fd : FuncData} {ps : List Str} {sp : Sp} {E : XK}
/-- x != y, x an instance of the class at C whose __eq__ is an own one -/
@[irreducible] def rOwnN (K : PySem.W.Frag) (C : Addr) (sp : Sp) (E : XK) : R2 := fun x y H Q => ∃ a dx fs t, x = .ref a ∧ H a = some (.ins C dx fs) ∧ TyX K H y t ∧ PySem.W.notFirst K C t = true ∧ sp [x, y] H (fun v H' => ∃ r, v = .bl r ∧ Q (.bl (!r)) H') E
/-- an own class without a __ne__ of its own -/
def neB (K : PySem.W.Frag) (C : Addr) : Bool := decide (PySem.W.findIn K (.ref C) "__ne__" = some (some (.builtin "object.__ne__"))) && decide (PySem.W.mroIn K C (.type "object") = some true)
theorem neB_of {K : PySem.W.Frag} {C : Addr} (h1 : PySem.W.findIn K (.ref C) "__ne__" = some (some (.builtin "object.__ne__"))) (h2 : PySem.W.mroIn K C (.type "object") = some true) : neB K C = true := by
  unfold neB
  rw [decide_eq_true h1, decide_eq_true h2]
  rfl
theorem op_ownN (hs : PySem.W.findIn X.K (.ref C) "__eq__" = some (some (.ref f))) (hf : PySem.W.isFn X.K (.ref f) = true) (h2 : neB X.K C = true) (F : FnOk X.prog X.w X.K X.mg X.base CX k f fd ps sp) (hb : Binds X.K fd ps [])
    (hr : Room (k + 1) X.A) (hx : Passes CX X E) : OpR X (compareOp .NotEq) (rOwnN X.K C sp E) := by
  intro pins s σ H x y v u Q I rx ry h
  unfold rOwnN at h
  obtain ⟨h3, h4⟩ := Bool.and_eq_true_iff.mp h2
  obtain ⟨a, dx, fs, t, rfl, ha, hy, hn, q⟩ := h
  cases (show v = Value.ref a from rx)
  obtain ⟨mA, J, _⟩ := ins_get I.hok ha
  obtain ⟨od, J, _⟩ := J.look
  obtain ⟨PP, kx, hP, _⟩ := kit_of I ry hy
  show wpAny (model X.prog X.w) X.A (richCompare .NotEq (.ref a) u) (EP X pins σ Q) X.xe s
  refine rich_ne (tb := t) hr.in1.units0 I.kIn J (kx.ty _ _ I.kIn hP) hn (of_decide_eq_true h4) hs (of_decide_eq_true h3) hf ?_
  refine wpAny_mono (run_fn1 (us := [.ref a, u]) (vs := [.ref a, y]) F hr.in1 hb hx I (.cons rfl (.cons ry .nil)) q) (fun w s' z => ?_) fun _ _ x => x
  obtain ⟨z', H', I', rz, r, rfl, qz⟩ := z
  cases rz
  exact ⟨r, rfl, .bl (!r), H', I', rfl, qz⟩
end
end Bl

namespace Bl
open PySem L2
def top (i : Nat) : Stmt := PySem.Challenge.pw_bothlots_k51_ledger_undo_and_twins.main.body.getD i (.Pass ⟨0, 0, 0, 0⟩)
abbrev s_is_name : Stmt := top 19
abbrev s_is_number : Stmt := top 20
abbrev s_is_thing : Stmt := top 24
abbrev s_is_row : Stmt := top 25
abbrev s_has_one : Stmt := top 26
abbrev s_box : Stmt := top 28
abbrev s_pull : Stmt := top 29
abbrev s_of : Stmt := top 30
abbrev s_names : Stmt := top 31
abbrev s_same : Stmt := top 32
abbrev s_field : Stmt := top 33
abbrev s_got : Stmt := top 34
abbrev s_mixed : Stmt := top 35
abbrev s_fields : Stmt := top 36
abbrev s_entry : Stmt := top 37
abbrev s_meet : Stmt := top 38
abbrev s_offer : Stmt := top 39
abbrev s_added : Stmt := top 40
abbrev s_lived : Stmt := top 41
abbrev s_ledger : Stmt := top 42
abbrev s_ledger_is : Stmt := top 43
abbrev s_ledger_back : Stmt := top 44
abbrev s_twins_so : Stmt := top 45
abbrev s_law : Stmt := top 46
abbrev s_Bonds___init__ : Stmt := inClass (top 2) 0
abbrev s_Bonds__distances : Stmt := inClass (top 2) 1
abbrev s_Bonds_group : Stmt := inClass (top 2) 2
abbrev s_Ledger___init__ : Stmt := inClass (top 23) 2
abbrev s_Ledger_offer : Stmt := inClass (top 23) 3
abbrev s_Ledger_add : Stmt := inClass (top 23) 4
abbrev s_Ledger__emptier : Stmt := inClass (top 23) 5
abbrev s_Ledger__marks_of : Stmt := inClass (top 23) 6
abbrev s_Ledger_things : Stmt := inClass (top 23) 7
abbrev s_Ledger_row : Stmt := inClass (top 23) 8
abbrev s_Ledger_side : Stmt := inClass (top 23) 9
abbrev s_Ledger__check_number : Stmt := inClass (top 23) 10
abbrev s_Ledger_group : Stmt := inClass (top 23) 11
abbrev s_Ledger__bonds : Stmt := inClass (top 23) 13
abbrev s_Ledger_tally : Stmt := inClass (top 23) 14
abbrev s_Ledger_walk : Stmt := inClass (top 23) 15
abbrev s_Ledger_undo : Stmt := inClass (top 23) 16
abbrev s_Ledger_redo : Stmt := inClass (top 23) 17
abbrev s_Ledger_history : Stmt := inClass (top 23) 18
abbrev s_Ledger_twin : Stmt := inClass (top 23) 19
abbrev s_Ledger___getitem__ : Stmt := inClass (top 23) 20
abbrev s_Ledger___eq__ : Stmt := inClass (top 23) 22
abbrev s_Ledger___len__ : Stmt := inClass (top 23) 23
abbrev s_Ledger___repr__ : Stmt := inClass (top 23) 24
abbrev si_InvalidThing : Stmt := inClass (top 6) 0
abbrev si_InvalidRow : Stmt := inClass (top 7) 0
abbrev si_InvalidWord : Stmt := inClass (top 8) 0
abbrev si_SideTaken : Stmt := inClass (top 9) 0
abbrev si_Torn : Stmt := inClass (top 10) 0
abbrev si_TooMany : Stmt := inClass (top 11) 0
abbrev si_Full : Stmt := inClass (top 12) 0
abbrev si_UnknownRow : Stmt := inClass (top 13) 0
abbrev si_NothingLeft : Stmt := inClass (top 14) 0
structure Top (K : PySem.W.Frag) (mg : Str → Option Value) : Type where
  C_Bonds : Addr
  mc_Bonds : mg "Bonds" = some (.ref C_Bonds)
  cl_Bonds : Cls K C_Bonds
  mk_Bonds : PySem.W.makesIn K C_Bonds = true
  kp_Bonds : PySem.W.keepIn K (.ref C_Bonds) = true
  n_Bonds__marked : NoAttr K C_Bonds "_marked"
  n_Bonds__holders : NoAttr K C_Bonds "_holders"
  C_Ledger : Addr
  mc_Ledger : mg "Ledger" = some (.ref C_Ledger)
  cl_Ledger : Cls K C_Ledger
  mk_Ledger : PySem.W.makesIn K C_Ledger = true
  kp_Ledger : PySem.W.keepIn K (.ref C_Ledger) = true
  n_Ledger__things : NoAttr K C_Ledger "_things"
  n_Ledger__rows : NoAttr K C_Ledger "_rows"
  n_Ledger__sides : NoAttr K C_Ledger "_sides"
  n_Ledger__undone : NoAttr K C_Ledger "_undone"
  is_Ledger : C8.InsC K C_Ledger
  ob_Ledger : ownB K C_Ledger = true
  cr_Ledger : ClX.CRead K C_Ledger (.type "type")
  tk_Ledger_MOST : Tok
  cv_Ledger_MOST : ClX.CVal K C_Ledger (.type "type") "MOST" (.int 200) (.int 200 tk_Ledger_MOST)
  tk_Ledger_MOST_THINGS : Tok
  cv_Ledger_MOST_THINGS : ClX.CVal K C_Ledger (.type "type") "MOST_THINGS" (.int 4) (.int 4 tk_Ledger_MOST_THINGS)
  a_is_name : Addr
  d_is_name : FuncData
  F_is_name : Fun K "is_name" "is_name" s_is_name a_is_name d_is_name
  m_is_name : mg "is_name" = some (.ref a_is_name)
  b_is_name : Binds K d_is_name ["value"] []
  a_is_number : Addr
  d_is_number : FuncData
  F_is_number : Fun K "is_number" "is_number" s_is_number a_is_number d_is_number
  m_is_number : mg "is_number" = some (.ref a_is_number)
  b_is_number : Binds K d_is_number ["value", "least", "most"] []
  a_is_thing : Addr
  d_is_thing : FuncData
  F_is_thing : Fun K "_is_thing" "_is_thing" s_is_thing a_is_thing d_is_thing
  m_is_thing : mg "_is_thing" = some (.ref a_is_thing)
  b_is_thing : Binds K d_is_thing ["value"] []
  a_is_row : Addr
  d_is_row : FuncData
  F_is_row : Fun K "_is_row" "_is_row" s_is_row a_is_row d_is_row
  m_is_row : mg "_is_row" = some (.ref a_is_row)
  b_is_row : Binds K d_is_row ["value"] []
  a_has_one : Addr
  d_has_one : FuncData
  F_has_one : Fun K "_has_one" "_has_one" s_has_one a_has_one d_has_one
  m_has_one : mg "_has_one" = some (.ref a_has_one)
  b_has_one : Binds K d_has_one ["marks", "others"] []
  a_box : Addr
  d_box : FuncData
  F_box : Fun K "_law_box" "_law_box" s_box a_box d_box
  m_box : mg "_law_box" = some (.ref a_box)
  b_box : Binds K d_box ["_law_script"] []
  a_pull : Addr
  d_pull : FuncData
  F_pull : Fun K "_law_pull" "_law_pull" s_pull a_pull d_pull
  m_pull : mg "_law_pull" = some (.ref a_pull)
  b_pull : Binds K d_pull ["_law_box_here", "_law_many"] []
  a_of : Addr
  d_of : FuncData
  F_of : Fun K "_law_of" "_law_of" s_of a_of d_of
  m_of : mg "_law_of" = some (.ref a_of)
  b_of : Binds K d_of ["_law_box_here", "_law_some"] []
  a_names : Addr
  d_names : FuncData
  F_names : Fun K "_law_names" "_law_names" s_names a_names d_names
  m_names : mg "_law_names" = some (.ref a_names)
  b_names : Binds K d_names ["_law_box_here", "_law_many"] []
  a_same : Addr
  d_same : FuncData
  F_same : Fun K "_law_same" "_law_same" s_same a_same d_same
  m_same : mg "_law_same" = some (.ref a_same)
  b_same : Binds K d_same ["_law_found", "_law_due"] []
  a_field : Addr
  d_field : FuncData
  F_field : Fun K "_law_field" "_law_field" s_field a_field d_field
  m_field : mg "_law_field" = some (.ref a_field)
  b_field : Binds K d_field ["_law_e"] []
  a_got : Addr
  d_got : FuncData
  F_got : Fun K "_law_got" "_law_got" s_got a_got d_got
  m_got : mg "_law_got" = some (.ref a_got)
  b_got : Binds K d_got ["_law_ask"] []
  a_mixed : Addr
  d_mixed : FuncData
  F_mixed : Fun K "_law_mixed" "_law_mixed" s_mixed a_mixed d_mixed
  m_mixed : mg "_law_mixed" = some (.ref a_mixed)
  b_mixed : Binds K d_mixed ["_law_box_here", "_law_some"] []
  a_fields : Addr
  d_fields : FuncData
  F_fields : Fun K "_law_fields" "_law_fields" s_fields a_fields d_fields
  m_fields : mg "_law_fields" = some (.ref a_fields)
  b_fields : Binds K d_fields ["_law_box_here", "_law_words"] []
  a_entry : Addr
  d_entry : FuncData
  F_entry : Fun K "_law_entry" "_law_entry" s_entry a_entry d_entry
  m_entry : mg "_law_entry" = some (.ref a_entry)
  b_entry : Binds K d_entry ["_law_box_here", "_law_words", "_law_pool"] []
  a_meet : Addr
  d_meet : FuncData
  F_meet : Fun K "_law_meet" "_law_meet" s_meet a_meet d_meet
  m_meet : mg "_law_meet" = some (.ref a_meet)
  b_meet : Binds K d_meet ["_law_things", "_law_one", "_law_other"] []
  a_offer : Addr
  d_offer : FuncData
  F_offer : Fun K "_law_offer" "_law_offer" s_offer a_offer d_offer
  m_offer : mg "_law_offer" = some (.ref a_offer)
  b_offer : Binds K d_offer ["_law_things", "_law_rows", "_law_row"] []
  a_added : Addr
  d_added : FuncData
  F_added : Fun K "_law_added" "_law_added" s_added a_added d_added
  m_added : mg "_law_added" = some (.ref a_added)
  b_added : Binds K d_added ["_law_things", "_law_rows", "_law_row", "_law_flank"] []
  a_lived : Addr
  d_lived : FuncData
  F_lived : Fun K "_law_lived" "_law_lived" s_lived a_lived d_lived
  m_lived : mg "_law_lived" = some (.ref a_lived)
  b_lived : Binds K d_lived ["_law_box_here", "_law_ledger_here", "_law_things", "_law_words", "_law_many"] []
  a_ledger : Addr
  d_ledger : FuncData
  F_ledger : Fun K "_law_ledger" "_law_ledger" s_ledger a_ledger d_ledger
  m_ledger : mg "_law_ledger" = some (.ref a_ledger)
  b_ledger : Binds K d_ledger ["_law_things"] []
  a_ledger_is : Addr
  d_ledger_is : FuncData
  F_ledger_is : Fun K "_law_ledger_is" "_law_ledger_is" s_ledger_is a_ledger_is d_ledger_is
  m_ledger_is : mg "_law_ledger_is" = some (.ref a_ledger_is)
  b_ledger_is : Binds K d_ledger_is ["_law_made", "_law_rows", "_law_undone"] []
  a_ledger_back : Addr
  d_ledger_back : FuncData
  F_ledger_back : Fun K "_law_ledger_back" "_law_ledger_back" s_ledger_back a_ledger_back d_ledger_back
  m_ledger_back : mg "_law_ledger_back" = some (.ref a_ledger_back)
  b_ledger_back : Binds K d_ledger_back ["_law_made", "_law_rows", "_law_undone", "_law_way"] []
  a_twins_so : Addr
  d_twins_so : FuncData
  F_twins_so : Fun K "_law_twins_so" "_law_twins_so" s_twins_so a_twins_so d_twins_so
  m_twins_so : mg "_law_twins_so" = some (.ref a_twins_so)
  b_twins_so : Binds K d_twins_so ["_law_made", "_law_rows", "_law_undone", "_law_things"] []
  a_law : Addr
  d_law : FuncData
  F_law : Fun K "law" "law" s_law a_law d_law
  m_law : mg "law" = some (.ref a_law)
  b_law : Binds K d_law ["_law_script"] []
  a_Bonds___init__ : Addr
  d_Bonds___init__ : FuncData
  F_Bonds___init__ : Fun K "__init__" "Bonds.__init__" s_Bonds___init__ a_Bonds___init__ d_Bonds___init__
  M_Bonds___init__ : Meth K C_Bonds "__init__" a_Bonds___init__
  b_Bonds___init__ : Binds K d_Bonds___init__ ["self", "marked"] []
  a_Bonds__distances : Addr
  d_Bonds__distances : FuncData
  F_Bonds__distances : Fun K "_distances" "Bonds._distances" s_Bonds__distances a_Bonds__distances d_Bonds__distances
  M_Bonds__distances : Meth K C_Bonds "_distances" a_Bonds__distances
  b_Bonds__distances : Binds K d_Bonds__distances ["self", "start"] []
  a_Bonds_group : Addr
  d_Bonds_group : FuncData
  F_Bonds_group : Fun K "group" "Bonds.group" s_Bonds_group a_Bonds_group d_Bonds_group
  M_Bonds_group : Meth K C_Bonds "group" a_Bonds_group
  b_Bonds_group : Binds K d_Bonds_group ["self", "start"] []
  a_Ledger___init__ : Addr
  d_Ledger___init__ : FuncData
  F_Ledger___init__ : Fun K "__init__" "Ledger.__init__" s_Ledger___init__ a_Ledger___init__ d_Ledger___init__
  M_Ledger___init__ : Meth K C_Ledger "__init__" a_Ledger___init__
  a_Ledger_offer : Addr
  d_Ledger_offer : FuncData
  F_Ledger_offer : Fun K "offer" "Ledger.offer" s_Ledger_offer a_Ledger_offer d_Ledger_offer
  M_Ledger_offer : Meth K C_Ledger "offer" a_Ledger_offer
  b_Ledger_offer : Binds K d_Ledger_offer ["self", "row"] []
  a_Ledger_add : Addr
  d_Ledger_add : FuncData
  F_Ledger_add : Fun K "add" "Ledger.add" s_Ledger_add a_Ledger_add d_Ledger_add
  M_Ledger_add : Meth K C_Ledger "add" a_Ledger_add
  a_Ledger__emptier : Addr
  d_Ledger__emptier : FuncData
  F_Ledger__emptier : Fun K "_emptier" "Ledger._emptier" s_Ledger__emptier a_Ledger__emptier d_Ledger__emptier
  M_Ledger__emptier : Meth K C_Ledger "_emptier" a_Ledger__emptier
  b_Ledger__emptier : Binds K d_Ledger__emptier ["self"] []
  a_Ledger__marks_of : Addr
  d_Ledger__marks_of : FuncData
  F_Ledger__marks_of : Fun K "_marks_of" "Ledger._marks_of" s_Ledger__marks_of a_Ledger__marks_of d_Ledger__marks_of
  M_Ledger__marks_of : Meth K C_Ledger "_marks_of" a_Ledger__marks_of
  b_Ledger__marks_of : Binds K d_Ledger__marks_of ["self", "row"] []
  a_Ledger_things : Addr
  d_Ledger_things : FuncData
  F_Ledger_things : Fun K "things" "Ledger.things" s_Ledger_things a_Ledger_things d_Ledger_things
  M_Ledger_things : Meth K C_Ledger "things" a_Ledger_things
  b_Ledger_things : Binds K d_Ledger_things ["self"] []
  a_Ledger_row : Addr
  d_Ledger_row : FuncData
  F_Ledger_row : Fun K "row" "Ledger.row" s_Ledger_row a_Ledger_row d_Ledger_row
  M_Ledger_row : Meth K C_Ledger "row" a_Ledger_row
  b_Ledger_row : Binds K d_Ledger_row ["self", "number"] []
  a_Ledger_side : Addr
  d_Ledger_side : FuncData
  F_Ledger_side : Fun K "side" "Ledger.side" s_Ledger_side a_Ledger_side d_Ledger_side
  M_Ledger_side : Meth K C_Ledger "side" a_Ledger_side
  b_Ledger_side : Binds K d_Ledger_side ["self", "number"] []
  a_Ledger__check_number : Addr
  d_Ledger__check_number : FuncData
  F_Ledger__check_number : Fun K "_check_number" "Ledger._check_number" s_Ledger__check_number a_Ledger__check_number d_Ledger__check_number
  M_Ledger__check_number : Meth K C_Ledger "_check_number" a_Ledger__check_number
  b_Ledger__check_number : Binds K d_Ledger__check_number ["self", "number"] []
  a_Ledger_group : Addr
  d_Ledger_group : FuncData
  F_Ledger_group : Fun K "group" "Ledger.group" s_Ledger_group a_Ledger_group d_Ledger_group
  M_Ledger_group : Meth K C_Ledger "group" a_Ledger_group
  b_Ledger_group : Binds K d_Ledger_group ["self", "number"] []
  a_Ledger__bonds : Addr
  d_Ledger__bonds : FuncData
  F_Ledger__bonds : Fun K "_bonds" "Ledger._bonds" s_Ledger__bonds a_Ledger__bonds d_Ledger__bonds
  M_Ledger__bonds : Meth K C_Ledger "_bonds" a_Ledger__bonds
  b_Ledger__bonds : Binds K d_Ledger__bonds ["self"] []
  a_Ledger_tally : Addr
  d_Ledger_tally : FuncData
  F_Ledger_tally : Fun K "tally" "Ledger.tally" s_Ledger_tally a_Ledger_tally d_Ledger_tally
  M_Ledger_tally : Meth K C_Ledger "tally" a_Ledger_tally
  b_Ledger_tally : Binds K d_Ledger_tally ["self", "lot"] []
  a_Ledger_walk : Addr
  d_Ledger_walk : FuncData
  F_Ledger_walk : Fun K "walk" "Ledger.walk" s_Ledger_walk a_Ledger_walk d_Ledger_walk
  M_Ledger_walk : Meth K C_Ledger "walk" a_Ledger_walk
  b_Ledger_walk : Binds K d_Ledger_walk ["self", "lot"] []
  a_Ledger_undo : Addr
  d_Ledger_undo : FuncData
  F_Ledger_undo : Fun K "undo" "Ledger.undo" s_Ledger_undo a_Ledger_undo d_Ledger_undo
  M_Ledger_undo : Meth K C_Ledger "undo" a_Ledger_undo
  b_Ledger_undo : Binds K d_Ledger_undo ["self"] []
  a_Ledger_redo : Addr
  d_Ledger_redo : FuncData
  F_Ledger_redo : Fun K "redo" "Ledger.redo" s_Ledger_redo a_Ledger_redo d_Ledger_redo
  M_Ledger_redo : Meth K C_Ledger "redo" a_Ledger_redo
  b_Ledger_redo : Binds K d_Ledger_redo ["self"] []
  a_Ledger_history : Addr
  d_Ledger_history : FuncData
  F_Ledger_history : Fun K "history" "Ledger.history" s_Ledger_history a_Ledger_history d_Ledger_history
  M_Ledger_history : Meth K C_Ledger "history" a_Ledger_history
  b_Ledger_history : Binds K d_Ledger_history ["self"] []
  a_Ledger_twin : Addr
  d_Ledger_twin : FuncData
  F_Ledger_twin : Fun K "twin" "Ledger.twin" s_Ledger_twin a_Ledger_twin d_Ledger_twin
  M_Ledger_twin : Meth K C_Ledger "twin" a_Ledger_twin
  b_Ledger_twin : Binds K d_Ledger_twin ["self"] []
  a_Ledger___getitem__ : Addr
  d_Ledger___getitem__ : FuncData
  F_Ledger___getitem__ : Fun K "__getitem__" "Ledger.__getitem__" s_Ledger___getitem__ a_Ledger___getitem__ d_Ledger___getitem__
  M_Ledger___getitem__ : Meth K C_Ledger "__getitem__" a_Ledger___getitem__
  b_Ledger___getitem__ : Binds K d_Ledger___getitem__ ["self", "number"] []
  a_Ledger___eq__ : Addr
  d_Ledger___eq__ : FuncData
  F_Ledger___eq__ : Fun K "__eq__" "Ledger.__eq__" s_Ledger___eq__ a_Ledger___eq__ d_Ledger___eq__
  M_Ledger___eq__ : Meth K C_Ledger "__eq__" a_Ledger___eq__
  b_Ledger___eq__ : Binds K d_Ledger___eq__ ["self", "other"] []
  a_Ledger___len__ : Addr
  d_Ledger___len__ : FuncData
  F_Ledger___len__ : Fun K "__len__" "Ledger.__len__" s_Ledger___len__ a_Ledger___len__ d_Ledger___len__
  M_Ledger___len__ : Meth K C_Ledger "__len__" a_Ledger___len__
  b_Ledger___len__ : Binds K d_Ledger___len__ ["self"] []
  a_Ledger___repr__ : Addr
  d_Ledger___repr__ : FuncData
  F_Ledger___repr__ : Fun K "__repr__" "Ledger.__repr__" s_Ledger___repr__ a_Ledger___repr__ d_Ledger___repr__
  M_Ledger___repr__ : Meth K C_Ledger "__repr__" a_Ledger___repr__
  b_Ledger___repr__ : Binds K d_Ledger___repr__ ["self"] []
  C_LotsError : Addr
  mc_LotsError : mg "LotsError" = some (.ref C_LotsError)
  C_Missing : Addr
  mc_Missing : mg "Missing" = some (.ref C_Missing)
  C_InvalidThing : Addr
  mc_InvalidThing : mg "InvalidThing" = some (.ref C_InvalidThing)
  x_InvalidThing : XC K C_InvalidThing
  f_InvalidThing : Addr
  di_InvalidThing : FuncData
  iC_InvalidThing : PySem.W.findIn K (.ref C_InvalidThing) "__init__" = some (some (.ref f_InvalidThing))
  tI_InvalidThing : PySem.W.typeIn K (.ref f_InvalidThing) = some (.type "function")
  Fi_InvalidThing : Fun K "__init__" "InvalidThing.__init__" si_InvalidThing f_InvalidThing di_InvalidThing
  bi_InvalidThing : Binds K di_InvalidThing ["self", "given"] []
  C_InvalidRow : Addr
  mc_InvalidRow : mg "InvalidRow" = some (.ref C_InvalidRow)
  x_InvalidRow : XC K C_InvalidRow
  f_InvalidRow : Addr
  di_InvalidRow : FuncData
  iC_InvalidRow : PySem.W.findIn K (.ref C_InvalidRow) "__init__" = some (some (.ref f_InvalidRow))
  tI_InvalidRow : PySem.W.typeIn K (.ref f_InvalidRow) = some (.type "function")
  Fi_InvalidRow : Fun K "__init__" "InvalidRow.__init__" si_InvalidRow f_InvalidRow di_InvalidRow
  bi_InvalidRow : Binds K di_InvalidRow ["self", "table", "at"] []
  C_InvalidWord : Addr
  mc_InvalidWord : mg "InvalidWord" = some (.ref C_InvalidWord)
  x_InvalidWord : XC K C_InvalidWord
  f_InvalidWord : Addr
  di_InvalidWord : FuncData
  iC_InvalidWord : PySem.W.findIn K (.ref C_InvalidWord) "__init__" = some (some (.ref f_InvalidWord))
  tI_InvalidWord : PySem.W.typeIn K (.ref f_InvalidWord) = some (.type "function")
  Fi_InvalidWord : Fun K "__init__" "InvalidWord.__init__" si_InvalidWord f_InvalidWord di_InvalidWord
  bi_InvalidWord : Binds K di_InvalidWord ["self", "given"] []
  C_SideTaken : Addr
  mc_SideTaken : mg "SideTaken" = some (.ref C_SideTaken)
  x_SideTaken : XC K C_SideTaken
  f_SideTaken : Addr
  di_SideTaken : FuncData
  iC_SideTaken : PySem.W.findIn K (.ref C_SideTaken) "__init__" = some (some (.ref f_SideTaken))
  tI_SideTaken : PySem.W.typeIn K (.ref f_SideTaken) = some (.type "function")
  Fi_SideTaken : Fun K "__init__" "SideTaken.__init__" si_SideTaken f_SideTaken di_SideTaken
  bi_SideTaken : Binds K di_SideTaken ["self", "taken"] []
  C_Torn : Addr
  mc_Torn : mg "Torn" = some (.ref C_Torn)
  x_Torn : XC K C_Torn
  f_Torn : Addr
  di_Torn : FuncData
  iC_Torn : PySem.W.findIn K (.ref C_Torn) "__init__" = some (some (.ref f_Torn))
  tI_Torn : PySem.W.typeIn K (.ref f_Torn) = some (.type "function")
  Fi_Torn : Fun K "__init__" "Torn.__init__" si_Torn f_Torn di_Torn
  bi_Torn : Binds K di_Torn ["self", "one", "other"] []
  C_TooMany : Addr
  mc_TooMany : mg "TooMany" = some (.ref C_TooMany)
  x_TooMany : XC K C_TooMany
  f_TooMany : Addr
  di_TooMany : FuncData
  iC_TooMany : PySem.W.findIn K (.ref C_TooMany) "__init__" = some (some (.ref f_TooMany))
  tI_TooMany : PySem.W.typeIn K (.ref f_TooMany) = some (.type "function")
  Fi_TooMany : Fun K "__init__" "TooMany.__init__" si_TooMany f_TooMany di_TooMany
  bi_TooMany : Binds K di_TooMany ["self", "most"] []
  C_Full : Addr
  mc_Full : mg "Full" = some (.ref C_Full)
  x_Full : XC K C_Full
  f_Full : Addr
  di_Full : FuncData
  iC_Full : PySem.W.findIn K (.ref C_Full) "__init__" = some (some (.ref f_Full))
  tI_Full : PySem.W.typeIn K (.ref f_Full) = some (.type "function")
  Fi_Full : Fun K "__init__" "Full.__init__" si_Full f_Full di_Full
  bi_Full : Binds K di_Full ["self", "most"] []
  C_UnknownRow : Addr
  mc_UnknownRow : mg "UnknownRow" = some (.ref C_UnknownRow)
  x_UnknownRow : XC K C_UnknownRow
  f_UnknownRow : Addr
  di_UnknownRow : FuncData
  iC_UnknownRow : PySem.W.findIn K (.ref C_UnknownRow) "__init__" = some (some (.ref f_UnknownRow))
  tI_UnknownRow : PySem.W.typeIn K (.ref f_UnknownRow) = some (.type "function")
  Fi_UnknownRow : Fun K "__init__" "UnknownRow.__init__" si_UnknownRow f_UnknownRow di_UnknownRow
  bi_UnknownRow : Binds K di_UnknownRow ["self", "number"] []
  C_NothingLeft : Addr
  mc_NothingLeft : mg "NothingLeft" = some (.ref C_NothingLeft)
  x_NothingLeft : XC K C_NothingLeft
  f_NothingLeft : Addr
  di_NothingLeft : FuncData
  iC_NothingLeft : PySem.W.findIn K (.ref C_NothingLeft) "__init__" = some (some (.ref f_NothingLeft))
  tI_NothingLeft : PySem.W.typeIn K (.ref f_NothingLeft) = some (.type "function")
  Fi_NothingLeft : Fun K "__init__" "NothingLeft.__init__" si_NothingLeft f_NothingLeft di_NothingLeft
  bi_NothingLeft : Binds K di_NothingLeft ["self"] []
  c_law : Addr
  P_law : Addr
  k_law : d_law.code = .ref c_law
  Lc_law : ∃ (e : Value) (dd : Option Addr) (vs : Array Value) (sl : Array (Option Value)), K.lookup c_law = some ⟨e, dd, .fields vs, sl⟩ ∧ vs[11]? = some (.ref P_law)
  Nc_law : K.lookup P_law = none
  Hc_law : PySem.W.codeHdIn K c_law P_law = true
  c_lived : Addr
  P_lived : Addr
  k_lived : d_lived.code = .ref c_lived
  Lc_lived : ∃ (e : Value) (dd : Option Addr) (vs : Array Value) (sl : Array (Option Value)), K.lookup c_lived = some ⟨e, dd, .fields vs, sl⟩ ∧ vs[11]? = some (.ref P_lived)
  Nc_lived : K.lookup P_lived = none
  Hc_lived : PySem.W.codeHdIn K c_lived P_lived = true
  c_ledger_back : Addr
  P_ledger_back : Addr
  k_ledger_back : d_ledger_back.code = .ref c_ledger_back
  Lc_ledger_back : ∃ (e : Value) (dd : Option Addr) (vs : Array Value) (sl : Array (Option Value)), K.lookup c_ledger_back = some ⟨e, dd, .fields vs, sl⟩ ∧ vs[11]? = some (.ref P_ledger_back)
  Nc_ledger_back : K.lookup P_ledger_back = none
  Hc_ledger_back : PySem.W.codeHdIn K c_ledger_back P_ledger_back = true
  Pne_law_lived : P_law ≠ P_lived
  Pne_law_ledger_back : P_law ≠ P_ledger_back
  Pne_lived_ledger_back : P_lived ≠ P_ledger_back
  fd_add : FunD K "add" "Ledger.add" (defArgs s_Ledger_add) (defBody s_Ledger_add) (defScope s_Ledger_add) [] [("side", V.non)] a_Ledger_add d_Ledger_add
  ne1_Ledger : PySem.W.findIn K (.ref C_Ledger) "__ne__" = some (some (.builtin "object.__ne__"))
  ne2_Ledger : PySem.W.mroIn K C_Ledger (.type "object") = some true
  xq_InvalidThing : xqB K C_InvalidThing C_LotsError C_Missing C_NothingLeft ["given"] = true
  xq_InvalidRow : xqB K C_InvalidRow C_LotsError C_Missing C_NothingLeft ["table", "at"] = true
  xq_InvalidWord : xqB K C_InvalidWord C_LotsError C_Missing C_NothingLeft ["given"] = true
  xq_SideTaken : xqB K C_SideTaken C_LotsError C_Missing C_NothingLeft ["taken"] = true
  xq_Torn : xqB K C_Torn C_LotsError C_Missing C_NothingLeft ["one", "other"] = true
  xq_TooMany : xqB K C_TooMany C_LotsError C_Missing C_NothingLeft ["most"] = true
  xq_Full : xqB K C_Full C_LotsError C_Missing C_NothingLeft ["most"] = true
  xq_UnknownRow : xqB K C_UnknownRow C_LotsError C_Missing C_NothingLeft ["number"] = true
  xq_NothingLeft : xqB K C_NothingLeft C_LotsError C_Missing C_NothingLeft [] = true
  z_abs : mg "abs" = none
  z_all : mg "all" = none
  z_any : mg "any" = none
  z_bool : mg "bool" = none
  z_dict : mg "dict" = none
  z_enumerate : mg "enumerate" = none
  z_int : mg "int" = none
  z_isinstance : mg "isinstance" = none
  z_len : mg "len" = none
  z_list : mg "list" = none
  z_range : mg "range" = none
  z_repr : mg "repr" = none
  z_set : mg "set" = none
  z_sorted : mg "sorted" = none
  z_str : mg "str" = none
  z_tuple : mg "tuple" = none
  z_zip : mg "zip" = none
  t_LETTERS : Tok
  c_LETTERS : mg "LETTERS" = some (.str "abcdefghijklmnopqrstuvwxyz" t_LETTERS)
  r_LETTERS : RelV (.str "abcdefghijklmnopqrstuvwxyz") (.str "abcdefghijklmnopqrstuvwxyz" t_LETTERS)
  t_LONGEST_NAME : Tok
  c_LONGEST_NAME : mg "LONGEST_NAME" = some (.int 6 t_LONGEST_NAME)
  r_LONGEST_NAME : RelV (.int 6) (.int 6 t_LONGEST_NAME)
  p_LOTS : Addr
  c_LOTS : mg "LOTS" = some (.ref p_LOTS)
  r_LOTS : RelV (.ref p_LOTS) (.ref p_LOTS)
  q_LOTS : ∀ H : Hp, SqT K H p_LOTS [.str "learn", .str "judge"]
  t_MOST_OF_THING : Tok
  c_MOST_OF_THING : mg "MOST_OF_THING" = some (.int 3 t_MOST_OF_THING)
  r_MOST_OF_THING : RelV (.int 3) (.int 3 t_MOST_OF_THING)
theorem mk_Ledger {K : PySem.W.Frag} {mg : Str → Option Value} (T : Top K mg) : Mk K T.C_Ledger T.a_Ledger___init__ := ⟨T.mk_Ledger, T.M_Ledger___init__.at_, T.M_Ledger___init__.fn, T.kp_Ledger⟩
section
variable {P : Program} {w : World} {K : PySem.W.Frag} {mg : Str → Option Value} {base : Heap}
theorem sci_InvalidThing : FnScope ["self", "given"] ["self", "given"] (defScope si_InvalidThing) := ⟨rfl, rfl, rfl, by decide +kernel, rfl, by decide +kernel, by decide +kernel⟩
theorem oki_InvalidThing (T : Top K mg) : FnOk P w K mg base CX0 1 T.f_InvalidThing T.di_InvalidThing ["self", "given"] (spI K T.C_InvalidThing ("InvalidThing", ["given"])) := by
  refine T.Fi_InvalidThing.ok sci_InvalidThing (fun vs H Q E h => ?_) (fun cdv A outer s H vs Q E hr h => ?_)
  · obtain ⟨a, ys, rfl, hl, _⟩ := h
    rw [List.length_cons, hl]
    rfl
  obtain ⟨a, ys, rfl, hl, ea, k⟩ := h
  refine ⟨_, (pss_cons (ps_xst (pv 0) (pv 1))
    (pss_one (ps_xst (pv 0) pe_str))), ?_⟩
  exact ini1 T.x_InvalidThing (xq_nof T.xq_InvalidThing) hl ea k
theorem sci_InvalidRow : FnScope ["self", "table", "at"] ["self", "table", "at"] (defScope si_InvalidRow) := ⟨rfl, rfl, rfl, by decide +kernel, rfl, by decide +kernel, by decide +kernel⟩
theorem oki_InvalidRow (T : Top K mg) : FnOk P w K mg base CX0 1 T.f_InvalidRow T.di_InvalidRow ["self", "table", "at"] (spI K T.C_InvalidRow ("InvalidRow", ["table", "at"])) := by
  refine T.Fi_InvalidRow.ok sci_InvalidRow (fun vs H Q E h => ?_) (fun cdv A outer s H vs Q E hr h => ?_)
  · obtain ⟨a, ys, rfl, hl, _⟩ := h
    rw [List.length_cons, hl]
    rfl
  obtain ⟨a, ys, rfl, hl, ea, k⟩ := h
  refine ⟨_, (pss_cons (ps_xst (pv 0) (pv 1))
    (pss_cons (ps_xst (pv 0) (pv 2))
    (pss_one (ps_xst (pv 0) pe_str)))), ?_⟩
  exact ini2 T.x_InvalidRow (xq_nof T.xq_InvalidRow) hl ea k
theorem sci_InvalidWord : FnScope ["self", "given"] ["self", "given"] (defScope si_InvalidWord) := ⟨rfl, rfl, rfl, by decide +kernel, rfl, by decide +kernel, by decide +kernel⟩
theorem oki_InvalidWord (T : Top K mg) : FnOk P w K mg base CX0 1 T.f_InvalidWord T.di_InvalidWord ["self", "given"] (spI K T.C_InvalidWord ("InvalidWord", ["given"])) := by
  refine T.Fi_InvalidWord.ok sci_InvalidWord (fun vs H Q E h => ?_) (fun cdv A outer s H vs Q E hr h => ?_)
  · obtain ⟨a, ys, rfl, hl, _⟩ := h
    rw [List.length_cons, hl]
    rfl
  obtain ⟨a, ys, rfl, hl, ea, k⟩ := h
  refine ⟨_, (pss_cons (ps_xst (pv 0) (pv 1))
    (pss_one (ps_xst (pv 0) pe_str))), ?_⟩
  exact ini1 T.x_InvalidWord (xq_nof T.xq_InvalidWord) hl ea k
theorem sci_SideTaken : FnScope ["self", "taken"] ["self", "taken"] (defScope si_SideTaken) := ⟨rfl, rfl, rfl, by decide +kernel, rfl, by decide +kernel, by decide +kernel⟩
theorem oki_SideTaken (T : Top K mg) : FnOk P w K mg base CX0 1 T.f_SideTaken T.di_SideTaken ["self", "taken"] (spI K T.C_SideTaken ("SideTaken", ["taken"])) := by
  refine T.Fi_SideTaken.ok sci_SideTaken (fun vs H Q E h => ?_) (fun cdv A outer s H vs Q E hr h => ?_)
  · obtain ⟨a, ys, rfl, hl, _⟩ := h
    rw [List.length_cons, hl]
    rfl
  obtain ⟨a, ys, rfl, hl, ea, k⟩ := h
  refine ⟨_, (pss_cons (ps_xst (pv 0) (pv 1))
    (pss_one (ps_xst (pv 0) pe_str))), ?_⟩
  exact ini1 T.x_SideTaken (xq_nof T.xq_SideTaken) hl ea k
theorem sci_Torn : FnScope ["self", "one", "other"] ["self", "one", "other"] (defScope si_Torn) := ⟨rfl, rfl, rfl, by decide +kernel, rfl, by decide +kernel, by decide +kernel⟩
theorem oki_Torn (T : Top K mg) : FnOk P w K mg base CX0 1 T.f_Torn T.di_Torn ["self", "one", "other"] (spI K T.C_Torn ("Torn", ["one", "other"])) := by
  refine T.Fi_Torn.ok sci_Torn (fun vs H Q E h => ?_) (fun cdv A outer s H vs Q E hr h => ?_)
  · obtain ⟨a, ys, rfl, hl, _⟩ := h
    rw [List.length_cons, hl]
    rfl
  obtain ⟨a, ys, rfl, hl, ea, k⟩ := h
  refine ⟨_, (pss_cons (ps_xst (pv 0) (pv 1))
    (pss_cons (ps_xst (pv 0) (pv 2))
    (pss_one (ps_xst (pv 0) pe_str)))), ?_⟩
  exact ini2 T.x_Torn (xq_nof T.xq_Torn) hl ea k
theorem sci_TooMany : FnScope ["self", "most"] ["self", "most"] (defScope si_TooMany) := ⟨rfl, rfl, rfl, by decide +kernel, rfl, by decide +kernel, by decide +kernel⟩
theorem oki_TooMany (T : Top K mg) : FnOk P w K mg base CX0 1 T.f_TooMany T.di_TooMany ["self", "most"] (spI K T.C_TooMany ("TooMany", ["most"])) := by
  refine T.Fi_TooMany.ok sci_TooMany (fun vs H Q E h => ?_) (fun cdv A outer s H vs Q E hr h => ?_)
  · obtain ⟨a, ys, rfl, hl, _⟩ := h
    rw [List.length_cons, hl]
    rfl
  obtain ⟨a, ys, rfl, hl, ea, k⟩ := h
  refine ⟨_, (pss_cons (ps_xst (pv 0) (pv 1))
    (pss_one (ps_xst (pv 0) pe_str))), ?_⟩
  exact ini1 T.x_TooMany (xq_nof T.xq_TooMany) hl ea k
theorem sci_Full : FnScope ["self", "most"] ["self", "most"] (defScope si_Full) := ⟨rfl, rfl, rfl, by decide +kernel, rfl, by decide +kernel, by decide +kernel⟩
theorem oki_Full (T : Top K mg) : FnOk P w K mg base CX0 1 T.f_Full T.di_Full ["self", "most"] (spI K T.C_Full ("Full", ["most"])) := by
  refine T.Fi_Full.ok sci_Full (fun vs H Q E h => ?_) (fun cdv A outer s H vs Q E hr h => ?_)
  · obtain ⟨a, ys, rfl, hl, _⟩ := h
    rw [List.length_cons, hl]
    rfl
  obtain ⟨a, ys, rfl, hl, ea, k⟩ := h
  refine ⟨_, (pss_cons (ps_xst (pv 0) (pv 1))
    (pss_one (ps_xst (pv 0) pe_str))), ?_⟩
  exact ini1 T.x_Full (xq_nof T.xq_Full) hl ea k
theorem sci_UnknownRow : FnScope ["self", "number"] ["self", "number"] (defScope si_UnknownRow) := ⟨rfl, rfl, rfl, by decide +kernel, rfl, by decide +kernel, by decide +kernel⟩
theorem oki_UnknownRow (T : Top K mg) : FnOk P w K mg base CX0 1 T.f_UnknownRow T.di_UnknownRow ["self", "number"] (spI K T.C_UnknownRow ("UnknownRow", ["number"])) := by
  refine T.Fi_UnknownRow.ok sci_UnknownRow (fun vs H Q E h => ?_) (fun cdv A outer s H vs Q E hr h => ?_)
  · obtain ⟨a, ys, rfl, hl, _⟩ := h
    rw [List.length_cons, hl]
    rfl
  obtain ⟨a, ys, rfl, hl, ea, k⟩ := h
  refine ⟨_, (pss_cons (ps_xst (pv 0) (pv 1))
    (pss_one (ps_xst (pv 0) pe_str))), ?_⟩
  exact ini1 T.x_UnknownRow (xq_nof T.xq_UnknownRow) hl ea k
theorem sci_NothingLeft : FnScope ["self"] ["self"] (defScope si_NothingLeft) := ⟨rfl, rfl, rfl, by decide +kernel, rfl, by decide +kernel, by decide +kernel⟩
theorem oki_NothingLeft (T : Top K mg) : FnOk P w K mg base CX0 1 T.f_NothingLeft T.di_NothingLeft ["self"] (spI K T.C_NothingLeft ("NothingLeft", [])) := by
  refine T.Fi_NothingLeft.ok sci_NothingLeft (fun vs H Q E h => ?_) (fun cdv A outer s H vs Q E hr h => ?_)
  · obtain ⟨a, ys, rfl, hl, _⟩ := h
    rw [List.length_cons, hl]
    rfl
  obtain ⟨a, ys, rfl, hl, ea, k⟩ := h
  refine ⟨_, (pss_one (ps_xst (pv 0) pe_str)), ?_⟩
  exact ini0 T.x_NothingLeft (xq_nof T.xq_NothingLeft) hl ea k
end

end Bl

namespace Bl
open PySem L2
abbrev n_box : List Str := ["_law_script", "_law_mixed_here", "_law_cell"]
theorem sc_box : FnScope n_box ["_law_script"] (defScope s_box) := ⟨rfl, rfl, rfl, by decide +kernel, rfl, by decide +kernel, by decide +kernel⟩
abbrev n_pull : List Str := ["_law_box_here", "_law_many", "_law_cell", "_law_digit", "_law_twice"]
theorem sc_pull : FnScope n_pull ["_law_box_here", "_law_many"] (defScope s_pull) := ⟨rfl, rfl, rfl, by decide +kernel, rfl, by decide +kernel, by decide +kernel⟩
abbrev n_of : List Str := ["_law_box_here", "_law_some"]
theorem sc_of : FnScope n_of ["_law_box_here", "_law_some"] (defScope s_of) := ⟨rfl, rfl, rfl, by decide +kernel, rfl, by decide +kernel, by decide +kernel⟩
section
variable {P : Program} {w : World} {K : PySem.W.Frag} {mg : Str → Option Value} {base : Heap}
theorem ok_pull (T : Top K mg) : FnOk P w K mg base CX0 1 T.a_pull T.d_pull ["_law_box_here", "_law_many"] (spPull K) := by
  refine T.F_pull.ok sc_pull (fun vs H Q E h => ?_) (fun cdv A outer s H vs Q E hr h => ?_)
  · obtain ⟨p, l, n, rfl, _⟩ := h
    rfl
  obtain ⟨p, l, n, rfl, ⟨ns, i, w', m, c, hp, hl, hi, hm0, hm1⟩, hn0, hn1, k⟩ := h
  -- what a box at the end gives
  have fin : ∀ (H' : Hp) (i' w2 m' c' d : Int), H' p = some (.lst (boxL l i' w2 m' c')) → But p H H' → 0 ≤ i' → 0 ≤ m' → m' < 2147483629 → 0 ≤ d → d < n → Q (.int d) H' := fun H' i' w2 m' c' d h1 h2 h3 h4 h5 h6 h7 =>
    k d H' h6 h7 ⟨ns, i', w2, m', c', h1, h2 _ _ hl, h3, h4, h5⟩ h2
  refine ⟨_, (pss_cons (ps_asg (pe_op op_add (pe_ix ix_list (pv 0) pe_int (fun _ _ => rfl)) pe_int) (pg_sub (pv 0) pe_int set_list))
    (C8.pss_cut (ps_if (PW.pt (pw_and (pt_cmpR op_eq (pe_ix ix_list (pv 0) pe_int (fun _ _ => rfl)) pe_int (nomark _)) (pw_and1 (pt_cmpR op_lt (pe_ix ix_list (pv 0) pe_int (fun _ _ => rfl)) (pe_callB call_len_seq (by rfl) T.z_len (by decide +kernel) (pa_cons (pe_ix ix_list (pv 0) pe_int (fun _ _ => rfl)) pa_nil)) (nomark _))))) (pss_cons (ps_set (i := 2) sc_pull.nd rfl (Or.inl rfl) (pe_ix ix_list (pe_ix ix_list (pv 0) pe_int (fun _ _ => rfl)) (pe_ix ix_list (pv 0) pe_int (fun _ _ => rfl)) (fun _ _ => rfl)))
    (pss_cons (ps_asg (pe_op op_add (pe_ix ix_list (pv 0) pe_int (fun _ _ => rfl)) pe_int) (pg_sub (pv 0) pe_int set_list))
    (pss_one (ps_if (pt_cmpR op_ge (pe_callB call_abs (by rfl) T.z_abs (by decide +kernel) (pa_cons (pv 2) pa_nil)) (pe_op op_pow pe_int pe_int) (nomark _)) (pss_one (ps_asg (pe_callB call_abs (by rfl) T.z_abs (by decide +kernel) (pa_cons (pv 2) pa_nil)) (pg_sub (pv 0) pe_int set_list))) (pss_one (ps_asg (pe_op op_mod (pe_callTy call_int1 (by rfl) T.z_int (by decide +kernel) (pa_cons (pe_op op_add (pe_op op_add (pe_op op_mul (pe_ix ix_list (pv 0) pe_int (fun _ _ => rfl)) pe_int) (pe_op op_mul (pe_op op_mod (pe_callTy call_int1 (by rfl) T.z_int (by decide +kernel) (pa_cons (pv 2) pa_nil)) pe_int) pe_int)) pe_int) pa_nil)) pe_int) (pg_sub (pv 0) pe_int set_list))))))) pss_nil)
    (pss_cons (ps_if (pt_cmpR op_gt (pe_ix ix_list (pv 0) pe_int (fun _ _ => rfl)) pe_int (nomark _)) (pss_cons (ps_set (i := 3) sc_pull.nd rfl (Or.inl rfl) (pe_op op_mod (pe_callTy call_int1 (by rfl) T.z_int (by decide +kernel) (pa_cons (pe_ix ix_list (pv 0) pe_int (fun _ _ => rfl)) pa_nil)) (pv 1)))
    (pss_cons (ps_asg (pe_op op_fdiv (pe_ix ix_list (pv 0) pe_int (fun _ _ => rfl)) (pv 1)) (pg_sub (pv 0) pe_int set_list))
    (pss_one (ps_ret (pv 3))))) pss_nil)
    (pss_cons (ps_set (i := 4) sc_pull.nd rfl (Or.inl rfl) (pe_op op_mod (pe_callTy call_int1 (by rfl) T.z_int (by decide +kernel) (pa_cons (pe_op op_add (pe_op op_mul (pe_ix ix_list (pv 0) pe_int (fun _ _ => rfl)) (pe_ix ix_list (pv 0) pe_int (fun _ _ => rfl))) (pe_op op_mul (pe_ix ix_list (pv 0) pe_int (fun _ _ => rfl)) pe_int)) pa_nil)) pe_int))
    (pss_cons (ps_asg (pe_op op_mod (pe_callTy call_int1 (by rfl) T.z_int (by decide +kernel) (pa_cons (pe_op op_add (pe_op op_add (pe_op op_mul (pv 4) pe_int) (pe_op op_mul (pe_ix ix_list (pv 0) pe_int (fun _ _ => rfl)) pe_int)) pe_int) pa_nil)) pe_int) (pg_sub (pv 0) pe_int set_list))
    (pss_one (ps_ret (pe_op op_mod (pe_callTy call_int1 (by rfl) T.z_int (by decide +kernel) (pa_cons (pe_op op_fdiv (pe_ix ix_list (pv 0) pe_int (fun _ _ => rfl)) pe_int) pa_nil)) (pv 1))))))))), ?_⟩
  -- box[4] = box[4] + 1
  refine ⟨_, rfl, p, _, _, _, rfl, rfl, SqL.of hp, rfl, _, _, rfl, rfl, _, rfl, p, _, _, _, rfl, rfl, hp, rfl, ?_⟩
  have e1 : But p H (upd H p (.lst (boxL l i w' m (c + 1)))) := But.put (Same.refl _)
  have hp1 : (upd H p (.lst (boxL l i w' m (c + 1)))) p = some (.lst (boxL l i w' m (c + 1))) := upd_same
  show tSeq _ _ _ _ (upd H p (.lst (boxL l i w' m (c + 1))))
  generalize (upd H p (.lst (boxL l i w' m (c + 1)))) = H1 at e1 hp1 ⊢
  have hl1 : SqL K H1 l (ns.map V.int) := SqL.of (hide_le _ _ (e1 _ _ hl))
  clear hp
  refine ⟨fun σ H2 => ∃ (o2 : Option V) (i2 w2 m2 : Int), σ = [some (.ref p), some (.int n), o2, none, none] ∧ H2 p = some (.lst (boxL l i2 w2 m2 (c + 1))) ∧ But p H H2 ∧ 0 ≤ i2 ∧ 0 ≤ m2 ∧ m2 < 2147483629, ?_, ?_⟩
  -- if box[2] == 0 and box[1] < len(box[0])
  · refine ⟨_, rfl, p, _, _, _, rfl, rfl, SqL.of hp1, rfl, rfl, _, rfl, ?_⟩
    refine ite2 (fun _ => ?_) (fun _ => iteF ⟨none, i, w', m, rfl, hp1, e1, hi, hm0, hm1⟩)
    refine ⟨_, rfl, p, _, _, _, rfl, rfl, SqL.of hp1, rfl, _, rfl, p, _, _, _, rfl, rfl, SqL.of hp1, rfl, l, _, rfl, .inl hl1, _, _, rfl, rfl, _, rfl, ?_⟩
    refine ite2 (fun hlt => ?_) (fun _ => ⟨none, i, w', m, rfl, hp1, e1, hi, hm0, hm1⟩)
    have hlt' : i < ns.length := by
      have := of_decide_eq_true hlt
      simpa using this
    obtain ⟨v, hv⟩ := atI_int hi hlt'
    -- cell = box[0][box[1]]; box[1] = box[1] + 1
    refine ⟨_, rfl, p, _, _, _, rfl, rfl, SqL.of hp1, rfl, _, rfl, p, _, _, _, rfl, rfl, SqL.of hp1, rfl, l, _, _, _, rfl, rfl, hl1, hv, ?_⟩
    refine ⟨_, rfl, p, _, _, _, rfl, rfl, SqL.of hp1, rfl, _, _, rfl, rfl, _, rfl, p, _, _, _, rfl, rfl, hp1, rfl, ?_⟩
    -- if abs(cell) >= 10 ** 18
    refine ⟨_, rfl, v, rfl, _, _, rfl, rfl, ⟨by decide, by decide, by decide⟩, _, _, rfl, rfl, _, rfl, ?_⟩
    refine ite2 (fun _ => ?_) (fun _ => ?_)
    · refine ⟨_, rfl, v, rfl, _, rfl, p, _, _, _, rfl, rfl, upd_same, rfl, ?_⟩
      exact ⟨_, i + 1, _, m, rfl, upd_same, (But.put (But.put e1)), by omega, hm0, hm1⟩
    · refine ⟨_, rfl, p, _, _, _, rfl, rfl, SqL.of upd_same, rfl, _, _, rfl, rfl, .inl (by constructor <;> omega), _, rfl, .inl ⟨v, rfl, ?_⟩⟩
      have b1 := mod_lt' (a := v) (b := 1000003) (by decide)
      refine ⟨_, _, rfl, rfl, (by show (0 : Int) < 1000003; decide), _, _, rfl, rfl, .inl (by constructor <;> omega), _, _, rfl, rfl, _, _, rfl, rfl, .inl ⟨_, rfl, ?_⟩⟩
      refine ⟨_, _, rfl, rfl, (by show (0 : Int) < 2147483629; decide), _, rfl, p, _, _, _, rfl, rfl, upd_same, rfl, ?_⟩
      exact ⟨_, i + 1, w', _, rfl, upd_same, (But.put (But.put e1)), by omega, Int.emod_nonneg _ (by decide), Int.emod_lt_of_pos _ (by decide)⟩
  -- the rest
  · rintro σ H2 ⟨o2, i2, w2, m2, rfl, hp2, e2, hi2, hm20, hm21⟩
    refine ⟨_, rfl, p, _, _, _, rfl, rfl, SqL.of hp2, rfl, _, _, rfl, rfl, _, rfl, ?_⟩
    refine ite2 (fun _ => ?_) (fun _ => ?_)
    · refine ⟨_, rfl, p, _, _, _, rfl, rfl, SqL.of hp2, rfl, .inl ⟨_, rfl, ?_⟩⟩
      refine ⟨_, rfl, _, _, rfl, rfl, hn0, ?_⟩
      refine ⟨_, rfl, p, _, _, _, rfl, rfl, SqL.of hp2, rfl, _, rfl, _, _, rfl, rfl, ⟨hn0, hn1⟩, _, rfl, p, _, _, _, rfl, rfl, hp2, rfl, ?_⟩
      refine ⟨_, rfl, ?_⟩
      exact fin _ i2 _ m2 _ _ upd_same (But.put e2) hi2 hm20 hm21 (Int.emod_nonneg _ (by omega)) (Int.emod_lt_of_pos _ hn0)
    · refine ⟨_, rfl, p, _, _, _, rfl, rfl, SqL.of hp2, rfl, _, rfl, p, _, _, _, rfl, rfl, SqL.of hp2, rfl, _, _, rfl, rfl, .inl (by constructor <;> omega), _, rfl, p, _, _, _, rfl, rfl, SqL.of hp2, rfl, _, _, rfl, rfl, .inr (by constructor <;> omega), _, _, rfl, rfl, .inl ⟨_, rfl, ?_⟩⟩
      have b1 := mod_lt' (a := m2 * m2 + (c + 1) * 8317) (b := 2147483549) (by decide)
      refine ⟨_, _, rfl, rfl, (by show (0 : Int) < 2147483549; decide), ?_⟩
      refine ⟨_, rfl, _, _, rfl, rfl, .inl (by constructor <;> omega), _, rfl, p, _, _, _, rfl, rfl, SqL.of hp2, rfl, _, _, rfl, rfl, .inl (by constructor <;> omega), _, _, rfl, rfl, _, _, rfl, rfl, .inl ⟨_, rfl, ?_⟩⟩
      refine ⟨_, _, rfl, rfl, (by show (0 : Int) < 2147483629; decide), _, rfl, p, _, _, _, rfl, rfl, hp2, rfl, ?_⟩
      refine ⟨_, rfl, p, _, _, _, rfl, rfl, SqL.of upd_same, rfl, _, _, rfl, rfl, (by constructor <;> decide), .inl ⟨_, rfl, ?_⟩⟩
      refine ⟨_, rfl, _, _, rfl, rfl, hn0, ?_⟩
      exact fin _ i2 w2 _ _ _ upd_same (But.put e2) hi2 (Int.emod_nonneg _ (by decide)) (Int.emod_lt_of_pos _ (by decide)) (Int.emod_nonneg _ (by omega)) (Int.emod_lt_of_pos _ hn0)
theorem ok_box (T : Top K mg) : FnOk P w K mg base CX0 1 T.a_box T.d_box ["_law_script"] (spBox K) := by
  refine T.F_box.ok sc_box (fun vs H Q E h => ?_) (fun cdv A outer s H vs Q E hr h => ?_)
  · obtain ⟨a, ns, rfl, _⟩ := h
    rfl
  obtain ⟨a, ns, rfl, hS, h63, k⟩ := h
  refine ⟨_, (pss_cons (ps_set (i := 1) sc_box.nd rfl (Or.inl rfl) pe_int)
    (pss_cons (ps_for PassesOwn.never rfl (pi_list (pe_slice sl_list (pv 0) po_none (po_some pe_int))) (pg_name (i := 2) sc_box.nd rfl (Or.inl rfl))
    (pss_one (ps_set (i := 1) sc_box.nd rfl (Or.inl rfl) (pe_op op_mod (pe_callTy call_int1 (by rfl) T.z_int (by decide +kernel) (pa_cons (pe_op op_add (pe_op op_add (pe_op op_mul (pv 1) pe_int) (pe_op op_mul (pe_op op_mod (pe_callTy call_int1 (by rfl) T.z_int (by decide +kernel) (pa_cons (pv 2) pa_nil)) pe_int) pe_int)) pe_int) pa_nil)) pe_int))))
    (pss_one (ps_ret (pe_lst (pa_cons (pe_callTy call_list_of (by rfl) T.z_list (by decide +kernel) (pa_cons (pe_slice sl_list (pv 0) po_none (po_some pe_int)) pa_nil)) (pa_cons pe_int (pa_cons pe_int (pa_cons (pv 1) (pa_cons pe_int pa_nil)))))))))), ?_⟩
  refine ⟨_, rfl, _, rfl, a, _, rfl, hS, fun p hp => ?_⟩
  rw [cutV_63 h63]
  have g1 : Same H (upd H p (.lst (ns.map V.int))) := same_new hp _
  refine ⟨p, rfl, ⟨_, SqL.of upd_same⟩, for_list (K := K) (a := p) (xs := ns.map V.int) (fun i σ H2 => ∃ (m : Int) (o : Option V), σ = [some (.ref a), some (.int m), o] ∧ 0 ≤ m ∧ m < 2147483629 ∧ Same (upd H p (.lst (ns.map V.int))) H2)
    ⟨10010, none, rfl, by decide, by decide, Same.refl _⟩ (fun i σ H2 _ ⟨_, _, _, _, _, s2⟩ => s2.seq (SqL.of upd_same)) ?_ ?_⟩
  · rintro i x σ H2 hx ⟨m, o, rfl, h0, h1, s2⟩
    obtain ⟨v, rfl⟩ : ∃ v : Int, x = .int v := by
      rw [List.getElem?_map] at hx
      cases e : ns[i]? with
      | none => rw [e] at hx; cases hx
      | some z => rw [e] at hx; exact ⟨z, (Option.some.inj hx).symm⟩
    have b1 := mod_lt' (a := v) (b := 1000003) (by decide)
    refine ⟨_, rfl, _, _, rfl, rfl, .inl (by constructor <;> omega), _, rfl, .inl ⟨v, rfl, ?_⟩⟩
    refine ⟨_, _, rfl, rfl, (by show (0 : Int) < 1000003; decide), _, _, rfl, rfl, .inl (by constructor <;> omega), _, _, rfl, rfl, _, _, rfl, rfl, .inl ⟨_, rfl, ?_⟩⟩
    refine ⟨_, _, rfl, rfl, (by show (0 : Int) < 2147483587; decide), ?_⟩
    have b2 := mod_lt' (a := m * 50021 + v % 1000003 * 769 + 17) (b := 2147483587) (by decide)
    exact ⟨_, _, rfl, b2.1, by omega, s2⟩
  · rintro σ H2 ⟨m, o, rfl, h0, h1, s2⟩
    have s3 := g1.trans s2
    refine ⟨_, rfl, _, rfl, a, _, rfl, s3.seq hS, fun q hq => ?_⟩
    rw [cutV_63 h63]
    have g2 := same_new hq (.lst (ns.map V.int))
    refine ⟨q, _, rfl, .inl (SqL.of upd_same), fun l hl => ?_⟩
    have g3 := same_new hl (.lst (ns.map V.int))
    refine ⟨_, rfl, (by show 5 ≤ sizeLine; decide), fun b hb => ?_⟩
    have g4 := same_new hb (.lst (boxL l 0 0 m 0))
    have nb : l ≠ b := ne_of_none upd_same hb
    refine k b l _ (s3.free (g2.free (g3.free hb))) ⟨ns, 0, 0, m, 0, upd_same, ?_, by decide, h0, h1⟩ (s3.trans (g2.trans (g3.trans g4)))
    rw [hide_ne nb, upd_ne nb, upd_same]
theorem ok_of (T : Top K mg) : FnOk P w K mg base CX0 2 T.a_of T.d_of ["_law_box_here", "_law_some"] (spOf K) := by
  refine T.F_of.ok sc_of (fun vs H Q E h => ?_) (fun cdv A outer s H vs Q E hr h => ?_)
  · obtain ⟨p, l, v, rfl, _⟩ := h
    rfl
  obtain ⟨p, l, v, rfl, B, h⟩ := h
  refine ⟨_, (pss_one (ps_ret (pe_ix ix_seq (pv 1) (pe_call (ok_pull T) (hr.mono (by decide)) rfl T.m_pull T.F_pull.kp T.b_pull .nil pass0 (pa_cons (pv 0) (pa_cons (pe_callB call_len (by rfl) T.z_len (by decide +kernel) (pa_cons (pv 1) pa_nil)) pa_nil))) (fun _ _ => rfl)))), ?_⟩
  rcases h with ⟨a, xs, rfl, hS, h0, h1, k⟩ | ⟨z, rfl, h0, h1, k⟩
  · refine ⟨_, rfl, _, rfl, _, rfl, _, xs.length, rfl, ?_, p, l, xs.length, rfl, B, by omega, by omega, fun d H' hd0 hd1 B' e => ?_⟩
    · rcases hS with hS | hS
      · exact .inl ⟨xs, hide_le.seq hS, rfl⟩
      · exact .inr ⟨xs, Same.tup hide_le hS, rfl⟩
    · obtain ⟨n, x, hx, hat⟩ := atI_some hd0 hd1
      rcases hS with hS | hS
      · exact .inl ⟨a, xs, d, x, rfl, rfl, hide_le.seq (e.seq hS), hat, k n x H' hx B' e⟩
      · exact .inr (.inl ⟨a, xs, d, x, rfl, rfl, Same.tup hide_le (Same.tup e hS), hat, k n x H' hx B' e⟩)
  · refine ⟨_, rfl, _, rfl, _, rfl, _, z.length, rfl, ⟨small (by omega), rfl⟩, p, l, z.length, rfl, B, by omega, by omega, fun d H' hd0 hd1 B' e => ?_⟩
    obtain ⟨n, rfl⟩ := Int.eq_ofNat_of_zero_le hd0
    have hn : n < z.cps.toList.length := by
      rw [Array.length_toList]
      show n < z.length
      omega
    exact .inr (.inr ⟨z, n, z.cps.toList[n], rfl, rfl, small (by omega), atI_nat (List.getElem?_eq_getElem hn), k _ H' (List.getElem_mem hn) B' e⟩)
end
end Bl

namespace Bl
open PySem L2
abbrev n_same : List Str := ["_law_found", "_law_due", "_law_a", "_law_b"]
theorem sc_same : FnScope n_same ["_law_found", "_law_due"] (defScope s_same) := ⟨rfl, rfl, rfl, by decide +kernel, rfl, by decide +kernel, by decide +kernel⟩
section
variable {P : Program} {w : World} {K : PySem.W.Frag} {mg : Str → Option Value} {base : Heap}
theorem walk_zipT {a b : Addr} {xs ys : List V} {n : Nat} (hn : n = min xs.length ys.length) : Walk (RZ.ItzT K a b) n (fun H => SqT K H a xs ∧ SqT K H b ys) (YPair (fun i => xs[i]?) (fun i => ys[i]?)) := by
  subst hn
  refine ⟨fun i _ hi q => ?_, fun _ q => ⟨xs, ys, q.1, q.2, by omega⟩, fun i H v H' _ q y => ?_⟩
  · have h1 : i < xs.length := by omega
    have h2 : i < ys.length := by omega
    exact ⟨xs, ys, xs[i], ys[i], q.1, q.2, by simp [h1], by simp [h2]⟩
  · obtain ⟨T, x, z, h1, h2, h3, h4, h5⟩ := y
    exact ⟨T, x, z, h1, h2, h3, h4 xs q.1, h5 ys q.2⟩
theorem kit_lt (d : PyData) : PySem.W.kitAny K (.type (tyN d)) [.type "list", .type "tuple"] = some (match d with | .list _ => true | .tuple _ => true | _ => false) := by
  cases d with
  | list ds => exact kitAny_cons (b := true) (kit_ty (by dsimp only [tyN]; decide +kernel)) (fun h => nomatch h) (fun _ => rfl)
  | tuple ds => exact kitAny_cons (b := false) (kit_ty (by dsimp only [tyN]; decide +kernel)) (fun _ => kitAny_cons (b := true) (kit_ty (by dsimp only [tyN]; decide +kernel)) (fun h => nomatch h) (fun _ => rfl)) (fun h => nomatch h)
  | _ => exact kitAny_cons (b := false) (kit_ty (by dsimp only [tyN]; decide +kernel)) (fun _ => kitAny_cons (b := false) (kit_ty (by dsimp only [tyN]; decide +kernel)) (fun _ => kitAny_nil) (fun h => nomatch h)) (fun h => nomatch h)
theorem ok_same0 (T : Top K mg) : FnOk P w K mg base CX0 0 T.a_same T.d_same ["_law_found", "_law_due"] (spSame K 0) := by
  have no : ∀ vs H Q E, ¬ spSame K 0 vs H Q E := fun vs H Q E h => by
    obtain ⟨x, y, d, _, _, _, h1, _⟩ := h
    cases d <;> exact h1
  exact ⟨fun vs H Q E h => absurd h (no vs H Q E), fun A outer s H args us vs Q E _ _ _ _ h => absurd h (no vs H Q E)⟩
theorem ok_same1 (T : Top K mg) {n : Nat} (G : FnOk P w K mg base CX0 n T.a_same T.d_same ["_law_found", "_law_due"] (spSame K n)) : FnOk P w K mg base CX0 (n + 1) T.a_same T.d_same ["_law_found", "_law_due"] (spSame K (n + 1)) := by
  refine T.F_same.ok sc_same (fun vs H Q E h => ?_) (fun cdv A outer s H vs Q E hr h => ?_)
  · obtain ⟨x, y, d, rfl, _⟩ := h
    rfl
  obtain ⟨x, y, d, rfl, hx, hy, hf, k⟩ := h
  refine ⟨_, (pss_cons (ps_if (PW.pt (pw_or (pt_cmpR op_isN (pv 1) pe_non (nomark _)) (pw_or1 (pt_cmpR op_isN (pv 0) pe_non (nomark _))))) (pss_one (ps_ret (pe_and (pe_cmpR op_isN (pv 1) pe_non (nomark _)) (pe_one (pe_cmpR op_isN (pv 0) pe_non (nomark _)))))) pss_nil)
    (pss_cons (ps_if (pt_val (pe_callB call_isiT (by rfl) T.z_isinstance (by decide +kernel) (pa_cons (pv 1) (pa_cons (pe_tup (pa_cons (pe_bltn (v := .ty "list") (by rfl) T.z_list (by decide +kernel) rfl) (pa_cons (pe_bltn (v := .ty "tuple") (by rfl) T.z_tuple (by decide +kernel) rfl) pa_nil))) pa_nil)))) (pss_cons (ps_if (PW.pt (pw_or (pt_cmpR op_ne (pe_callB call_isi (by rfl) T.z_isinstance (by decide +kernel) (pa_cons (pv 0) (pa_cons (pe_bltn (v := .ty "list") (by rfl) T.z_list (by decide +kernel) rfl) pa_nil))) (pe_callB call_isi (by rfl) T.z_isinstance (by decide +kernel) (pa_cons (pv 1) (pa_cons (pe_bltn (v := .ty "list") (by rfl) T.z_list (by decide +kernel) rfl) pa_nil))) (nomark _)) (pw_or1 (pt_cmpR op_ne (pe_callB call_isi (by rfl) T.z_isinstance (by decide +kernel) (pa_cons (pv 0) (pa_cons (pe_bltn (v := .ty "tuple") (by rfl) T.z_tuple (by decide +kernel) rfl) pa_nil))) (pe_callB call_isi (by rfl) T.z_isinstance (by decide +kernel) (pa_cons (pv 1) (pa_cons (pe_bltn (v := .ty "tuple") (by rfl) T.z_tuple (by decide +kernel) rfl) pa_nil))) (nomark _))))) (pss_one (ps_ret pe_bl)) pss_nil)
    (pss_one (ps_ret (pe_and (pe_cmpR op_eq (pe_callB call_len (by rfl) T.z_len (by decide +kernel) (pa_cons (pv 0) pa_nil)) (pe_callB call_len (by rfl) T.z_len (by decide +kernel) (pa_cons (pv 1) pa_nil)) (nomark _)) (pe_one (pe_callB (cr_all rfl) (by rfl) T.z_all (by decide +kernel) (pa_cons (pe_lc (own := [("_law_a", 2), ("_law_b", 3)]) (g := gTup K 2 (gCons (gName 2) (gCons (gName 3) gNil))) (tt := tYes) rfl sc_same.nd (RZ.pi_zipA (by rfl) T.z_zip (pa_cons (pv 0) (pa_cons (pv 1) pa_nil))) (blkOk_by (own := [("_law_a", 2), ("_law_b", 3)]) (N := n_same) (sc := defScope s_same) (by decide +kernel)) (fun _ _ _ _ _ => by exact (pg_tup rfl (pgs_cons (pg_name (i := 2) sc_same.nd rfl (Or.inl rfl)) (pgs_cons (pg_name (i := 3) sc_same.nd rfl (Or.inl rfl)) pgs_nil)))) (fun _ _ _ _ _ => pts_nil) (fun _ _ _ _ _ => (pe_call G hr rfl T.m_same T.F_same.kp T.b_same .nil pass0 (pa_cons (pv 2) (pa_cons (pv 3) pa_nil))))) pa_nil))))))) pss_nil)
    (pss_cons (ps_if (PW.pt (pw_or (pt_val (pe_callB call_isi (by rfl) T.z_isinstance (by decide +kernel) (pa_cons (pv 1) (pa_cons (pe_bltn (v := .ty "bool") (by rfl) T.z_bool (by decide +kernel) rfl) pa_nil)))) (pw_or1 (pt_val (pe_callB call_isi (by rfl) T.z_isinstance (by decide +kernel) (pa_cons (pv 0) (pa_cons (pe_bltn (v := .ty "bool") (by rfl) T.z_bool (by decide +kernel) rfl) pa_nil))))))) (pss_one (ps_ret (pe_and (pe_callB call_isi (by rfl) T.z_isinstance (by decide +kernel) (pa_cons (pv 1) (pa_cons (pe_bltn (v := .ty "bool") (by rfl) T.z_bool (by decide +kernel) rfl) pa_nil))) (pe_and (pe_callB call_isi (by rfl) T.z_isinstance (by decide +kernel) (pa_cons (pv 0) (pa_cons (pe_bltn (v := .ty "bool") (by rfl) T.z_bool (by decide +kernel) rfl) pa_nil))) (pe_one (pe_cmpR op_eq (pv 0) (pv 1) (nomark _))))))) pss_nil)
    (pss_cons (ps_if (pt_val (pe_callB call_isi (by rfl) T.z_isinstance (by decide +kernel) (pa_cons (pv 1) (pa_cons (pe_bltn (v := .ty "int") (by rfl) T.z_int (by decide +kernel) rfl) pa_nil)))) (pss_one (ps_ret (pe_and (pe_callB call_isi (by rfl) T.z_isinstance (by decide +kernel) (pa_cons (pv 0) (pa_cons (pe_bltn (v := .ty "int") (by rfl) T.z_int (by decide +kernel) rfl) pa_nil))) (pe_one (pe_cmpR op_eq (pv 0) (pv 1) (nomark _)))))) pss_nil)
    (pss_one (ps_ret (pe_and (pe_callB call_isi (by rfl) T.z_isinstance (by decide +kernel) (pa_cons (pv 0) (pa_cons (pe_bltn (v := .ty "str") (by rfl) T.z_str (by decide +kernel) rfl) pa_nil))) (pe_and (pe_callB call_isi (by rfl) T.z_isinstance (by decide +kernel) (pa_cons (pv 1) (pa_cons (pe_bltn (v := .ty "str") (by rfl) T.z_str (by decide +kernel) rfl) pa_nil))) (pe_one (pe_cmpR op_eq (pv 0) (pv 1) (nomark _))))))))))), ?_⟩
  cases d with
  | none =>
    obtain rfl : x = .non := by cases hx; rfl
    obtain rfl : y = .non := by cases hy; rfl
    refine ⟨_, rfl, rfl, _, rfl, ?_⟩
    refine iteT ?_
    refine ⟨_, rfl, rfl, _, rfl, ?_⟩
    refine iteT ?_
    refine ⟨_, rfl, rfl, ?_⟩
    exact k H (Same.refl _)
  | bool b =>
    obtain rfl : x = .bl b := by cases hx; rfl
    obtain rfl : y = .bl b := by cases hy; rfl
    refine ⟨_, rfl, rfl, _, rfl, ?_⟩
    refine iteF ?_
    refine ⟨_, rfl, rfl, _, rfl, ?_⟩
    refine iteF ?_
    refine ⟨_, rfl, (by show 2 ≤ sizeLine; decide), fun tp htp => ?_⟩
    have g := same_new htp (.tup [.ty "list", .ty "tuple"])
    have hx' := Dp.mono g _ _ hx
    refine ⟨_, tp, _, _, _, _, rfl, upd_same, .cons (.ty "list") (.cons (.ty "tuple") .nil), Dp.ty hx', kit_lt _, _, rfl, ?_⟩
    refine iteF ?_
    refine ⟨_, rfl, _, .ty "bool", _, _, _, rfl, .ty "bool", Dp.ty hx', kit_d some_bool, _, rfl, ?_⟩
    rw [isBool_eq]
    refine iteT ?_
    refine ⟨_, rfl, _, .ty "bool", _, _, _, rfl, .ty "bool", Dp.ty hx', kit_d some_bool, _, rfl, ?_⟩
    rw [isBool_eq]
    refine iteT ?_
    refine ⟨_, rfl, _, .ty "bool", _, _, _, rfl, .ty "bool", Dp.ty hx', kit_d some_bool, _, rfl, ?_⟩
    rw [isBool_eq]
    refine iteT ?_
    refine ⟨_, rfl, _, rfl, rfl, ?_⟩
    rw [decide_eq_true rfl]
    exact k _ g
  | int i =>
    obtain rfl : x = .int i := by cases hx; rfl
    obtain rfl : y = .int i := by cases hy; rfl
    refine ⟨_, rfl, rfl, _, rfl, ?_⟩
    refine iteF ?_
    refine ⟨_, rfl, rfl, _, rfl, ?_⟩
    refine iteF ?_
    refine ⟨_, rfl, (by show 2 ≤ sizeLine; decide), fun tp htp => ?_⟩
    have g := same_new htp (.tup [.ty "list", .ty "tuple"])
    have hx' := Dp.mono g _ _ hx
    refine ⟨_, tp, _, _, _, _, rfl, upd_same, .cons (.ty "list") (.cons (.ty "tuple") .nil), Dp.ty hx', kit_lt _, _, rfl, ?_⟩
    refine iteF ?_
    refine ⟨_, rfl, _, .ty "bool", _, _, _, rfl, .ty "bool", Dp.ty hx', kit_d some_bool, _, rfl, ?_⟩
    rw [isBool_eq]
    refine iteF ?_
    refine ⟨_, rfl, _, .ty "bool", _, _, _, rfl, .ty "bool", Dp.ty hx', kit_d some_bool, _, rfl, ?_⟩
    rw [isBool_eq]
    refine iteF ?_
    refine ⟨_, rfl, _, .ty "int", _, _, _, rfl, .ty "int", Dp.ty hx', kit_d some_int, _, rfl, ?_⟩
    rw [isInt_eq]
    refine iteT ?_
    refine ⟨_, rfl, _, .ty "int", _, _, _, rfl, .ty "int", Dp.ty hx', kit_d some_int, _, rfl, ?_⟩
    rw [isInt_eq]
    refine iteT ?_
    refine ⟨_, rfl, _, rfl, rfl, ?_⟩
    rw [decide_eq_true rfl]
    exact k _ g
  | str z =>
    obtain rfl : x = .str z := by cases hx; rfl
    obtain rfl : y = .str z := by cases hy; rfl
    refine ⟨_, rfl, rfl, _, rfl, ?_⟩
    refine iteF ?_
    refine ⟨_, rfl, rfl, _, rfl, ?_⟩
    refine iteF ?_
    refine ⟨_, rfl, (by show 2 ≤ sizeLine; decide), fun tp htp => ?_⟩
    have g := same_new htp (.tup [.ty "list", .ty "tuple"])
    have hx' := Dp.mono g _ _ hx
    refine ⟨_, tp, _, _, _, _, rfl, upd_same, .cons (.ty "list") (.cons (.ty "tuple") .nil), Dp.ty hx', kit_lt _, _, rfl, ?_⟩
    refine iteF ?_
    refine ⟨_, rfl, _, .ty "bool", _, _, _, rfl, .ty "bool", Dp.ty hx', kit_d some_bool, _, rfl, ?_⟩
    rw [isBool_eq]
    refine iteF ?_
    refine ⟨_, rfl, _, .ty "bool", _, _, _, rfl, .ty "bool", Dp.ty hx', kit_d some_bool, _, rfl, ?_⟩
    rw [isBool_eq]
    refine iteF ?_
    refine ⟨_, rfl, _, .ty "int", _, _, _, rfl, .ty "int", Dp.ty hx', kit_d some_int, _, rfl, ?_⟩
    rw [isInt_eq]
    refine iteF ?_
    refine ⟨_, rfl, _, .ty "str", _, _, _, rfl, .ty "str", Dp.ty hx', kit_d some_str, _, rfl, ?_⟩
    rw [isStr_eq]
    refine iteT ?_
    refine ⟨_, rfl, _, .ty "str", _, _, _, rfl, .ty "str", Dp.ty hx', kit_d some_str, _, rfl, ?_⟩
    rw [isStr_eq]
    refine iteT ?_
    refine ⟨_, rfl, _, rfl, rfl, ?_⟩
    rw [decide_eq_true rfl]
    exact k _ g
  | list ds =>
    cases hx with
    | lst hsx hax =>
    cases hy with
    | lst hsy hay =>
    rename_i ax xs ay ys
    have hx : Dp K H (.ref ax) (.list ds) := .lst hsx hax
    have hy : Dp K H (.ref ay) (.list ds) := .lst hsy hay
    refine ⟨_, rfl, rfl, _, rfl, ?_⟩
    refine iteF ?_
    refine ⟨_, rfl, rfl, _, rfl, ?_⟩
    refine iteF ?_
    refine ⟨_, rfl, (by show 2 ≤ sizeLine; decide), fun tp htp => ?_⟩
    have g := same_new htp (.tup [.ty "list", .ty "tuple"])
    have hT1 : (upd H tp (.tup [.ty "list", .ty "tuple"])) tp = some (.tup [.ty "list", .ty "tuple"]) := upd_same
    generalize upd H tp (.tup [.ty "list", .ty "tuple"]) = H1 at g hT1 ⊢
    have hx' := Dp.mono g _ _ hx
    have hy' := Dp.mono g _ _ hy
    refine ⟨_, tp, _, _, _, _, rfl, hT1, .cons (.ty "list") (.cons (.ty "tuple") .nil), Dp.ty hy', kit_lt _, _, rfl, ?_⟩
    refine iteT ?_
    refine ⟨_, rfl, _, .ty "list", _, _, _, rfl, .ty "list", Dp.ty hx', kit_d some_list, _, rfl, _, .ty "list", _, _, _, rfl, .ty "list", Dp.ty hy', kit_d some_list, rfl, _, rfl, ?_⟩
    refine iteNS rfl ?_
    refine ⟨_, rfl, _, .ty "tuple", _, _, _, rfl, .ty "tuple", Dp.ty hx', kit_d some_tuple, _, rfl, _, .ty "tuple", _, _, _, rfl, .ty "tuple", Dp.ty hy', kit_d some_tuple, rfl, _, rfl, ?_⟩
    refine iteNS rfl ?_
    have lx := DpAll.len hax
    have ly := DpAll.len hay
    refine ⟨_, rfl, _, ds.length, rfl, .inl ⟨xs, Same.seq g hsx, lx.symm⟩, _, rfl, _, ds.length, rfl, .inl ⟨ys, Same.seq g hsy, ly.symm⟩, rfl, _, rfl, ?_⟩
    rw [decide_eq_true rfl]
    refine iteT ?_
    refine ⟨_, rfl, _, rfl, ax, ay, xs, ys, rfl, .inl ⟨Same.seq g hsx, Same.seq g hsy, fun D hD => ?_⟩⟩
    refine lc_it (walk_zip (xs := xs) (ys := ys) (n := ds.length) (by omega)) (fun i H2 => Same H1 H2 ∧ H2 D = some (.lst ((List.replicate i true).map V.bl))) ⟨same_new hD _, upd_same⟩ (fun i H2 _ q => ⟨Same.seq (g.trans q.1) hsx, Same.seq (g.trans q.1) hsy⟩) ?_ ?_
    · rintro i x H2 H3 hi ⟨g2, hl⟩ ⟨Tt, u, v, rfl, hT, rfl, hu, hv⟩
      obtain ⟨d1, hd1, du⟩ := DpAll.get hax hu
      obtain ⟨d2, hd2, dv⟩ := DpAll.get hay hv
      rw [hd1] at hd2
      cases hd2
      have g3 := g.trans (g2.trans (same_new hT (.tup [u, v])))
      have hfd : Fits n d1 := hf.2 d1 (List.mem_of_getElem? hd1)
      refine ⟨Tt, _, rfl, SqT.of upd_same, rfl, _, _, rfl, _, _, rfl, rfl, rfl, ?_⟩
      refine ⟨_, rfl, _, rfl, u, v, d1, rfl, Dp.mono g3 _ _ du, Dp.mono g3 _ _ dv, hfd, fun H' g4 => ?_⟩
      have hD' : H' D = some (.lst ((List.replicate i true).map V.bl)) := g4 _ _ (by rw [upd_ne (ne_of_none hl hT)]; exact hl)
      have hlen : ((List.replicate i true).map V.bl).length < sizeLine := by
        rw [List.length_map, List.length_replicate]
        exact small' (Nat.lt_trans hi hf.1)
      refine ⟨_, hD', hlen, fun b o q => ?_, ?_⟩
      · rw [upd_ne (ne_of_none q hD)]
        exact g4 _ _ (same_new hT _ _ _ (g2 b o q))
      · rw [upd_same, List.replicate_succ', List.map_append]
        rfl
    · rintro H2 ⟨g2, hl⟩
      refine ⟨D, _, rfl, SqL.of hl, ?_⟩
      have e : (List.replicate ds.length true).all id = true := by simp
      rw [e]
      exact k H2 (g.trans g2)
  | tuple ds =>
    cases hx with
    | tup hsx hax =>
    cases hy with
    | tup hsy hay =>
    rename_i ax xs ay ys
    have hx : Dp K H (.ref ax) (.tuple ds) := .tup hsx hax
    have hy : Dp K H (.ref ay) (.tuple ds) := .tup hsy hay
    refine ⟨_, rfl, rfl, _, rfl, ?_⟩
    refine iteF ?_
    refine ⟨_, rfl, rfl, _, rfl, ?_⟩
    refine iteF ?_
    refine ⟨_, rfl, (by show 2 ≤ sizeLine; decide), fun tp htp => ?_⟩
    have g := same_new htp (.tup [.ty "list", .ty "tuple"])
    have hT1 : (upd H tp (.tup [.ty "list", .ty "tuple"])) tp = some (.tup [.ty "list", .ty "tuple"]) := upd_same
    generalize upd H tp (.tup [.ty "list", .ty "tuple"]) = H1 at g hT1 ⊢
    have hx' := Dp.mono g _ _ hx
    have hy' := Dp.mono g _ _ hy
    refine ⟨_, tp, _, _, _, _, rfl, hT1, .cons (.ty "list") (.cons (.ty "tuple") .nil), Dp.ty hy', kit_lt _, _, rfl, ?_⟩
    refine iteT ?_
    refine ⟨_, rfl, _, .ty "list", _, _, _, rfl, .ty "list", Dp.ty hx', kit_d some_list, _, rfl, _, .ty "list", _, _, _, rfl, .ty "list", Dp.ty hy', kit_d some_list, rfl, _, rfl, ?_⟩
    refine iteNS rfl ?_
    refine ⟨_, rfl, _, .ty "tuple", _, _, _, rfl, .ty "tuple", Dp.ty hx', kit_d some_tuple, _, rfl, _, .ty "tuple", _, _, _, rfl, .ty "tuple", Dp.ty hy', kit_d some_tuple, rfl, _, rfl, ?_⟩
    refine iteNS rfl ?_
    have lx := DpAll.len hax
    have ly := DpAll.len hay
    refine ⟨_, rfl, _, ds.length, rfl, .inr ⟨xs, Same.tup g hsx, lx.symm⟩, _, rfl, _, ds.length, rfl, .inr ⟨ys, Same.tup g hsy, ly.symm⟩, rfl, _, rfl, ?_⟩
    rw [decide_eq_true rfl]
    refine iteT ?_
    refine ⟨_, rfl, _, rfl, ax, ay, xs, ys, rfl, .inr ⟨Same.tup g hsx, Same.tup g hsy, fun D hD => ?_⟩⟩
    refine lc_it (walk_zipT (xs := xs) (ys := ys) (n := ds.length) (by omega)) (fun i H2 => Same H1 H2 ∧ H2 D = some (.lst ((List.replicate i true).map V.bl))) ⟨same_new hD _, upd_same⟩ (fun i H2 _ q => ⟨Same.tup (g.trans q.1) hsx, Same.tup (g.trans q.1) hsy⟩) ?_ ?_
    · rintro i x H2 H3 hi ⟨g2, hl⟩ ⟨Tt, u, v, rfl, hT, rfl, hu, hv⟩
      obtain ⟨d1, hd1, du⟩ := DpAll.get hax hu
      obtain ⟨d2, hd2, dv⟩ := DpAll.get hay hv
      rw [hd1] at hd2
      cases hd2
      have g3 := g.trans (g2.trans (same_new hT (.tup [u, v])))
      have hfd : Fits n d1 := hf.2 d1 (List.mem_of_getElem? hd1)
      refine ⟨Tt, _, rfl, SqT.of upd_same, rfl, _, _, rfl, _, _, rfl, rfl, rfl, ?_⟩
      refine ⟨_, rfl, _, rfl, u, v, d1, rfl, Dp.mono g3 _ _ du, Dp.mono g3 _ _ dv, hfd, fun H' g4 => ?_⟩
      have hD' : H' D = some (.lst ((List.replicate i true).map V.bl)) := g4 _ _ (by rw [upd_ne (ne_of_none hl hT)]; exact hl)
      have hlen : ((List.replicate i true).map V.bl).length < sizeLine := by
        rw [List.length_map, List.length_replicate]
        exact small' (Nat.lt_trans hi hf.1)
      refine ⟨_, hD', hlen, fun b o q => ?_, ?_⟩
      · rw [upd_ne (ne_of_none q hD)]
        exact g4 _ _ (same_new hT _ _ _ (g2 b o q))
      · rw [upd_same, List.replicate_succ', List.map_append]
        rfl
    · rintro H2 ⟨g2, hl⟩
      refine ⟨D, _, rfl, SqL.of hl, ?_⟩
      have e : (List.replicate ds.length true).all id = true := by simp
      rw [e]
      exact k H2 (g.trans g2)
  | dict _ => cases hx
theorem ok_same (T : Top K mg) : ∀ n : Nat, FnOk P w K mg base CX0 n T.a_same T.d_same ["_law_found", "_law_due"] (spSame K n)
  | 0 => ok_same0 T
  | n + 1 => ok_same1 T (ok_same T n)
end
end Bl

namespace Bl
open PySem L2
abbrev n_is_name : List Str := ["value", "letter"]
theorem sc_is_name : FnScope n_is_name ["value"] (defScope s_is_name) := ⟨rfl, rfl, rfl, by decide +kernel, rfl, by decide +kernel, by decide +kernel⟩
section
variable {P : Program} {w : World} {K : PySem.W.Frag} {mg : Str → Option Value} {base : Heap}
theorem ok_is_name (T : Top K mg) : FnOk P w K mg base CX0 1 T.a_is_name T.d_is_name ["value"] (spIsName K) := by
  refine T.F_is_name.ok sc_is_name (fun vs H Q E h => ?_) (fun cdv A outer s H vs Q E hr h => ?_)
  · obtain ⟨v, d, rfl, _⟩ := h
    rfl
  obtain ⟨v, d, rfl, hd, hz, k⟩ := h
  refine ⟨_, (pss_cons (ps_if (PW.pt (pw_or (pt_not (pt_val (pe_callB call_isi (by rfl) T.z_isinstance (by decide +kernel) (pa_cons (pv 0) (pa_cons (pe_bltn (v := .ty "str") (by rfl) T.z_str (by decide +kernel) rfl) pa_nil))))) (pw_or1 (pt_not (pt_chain op_le op_le pe_int (pe_callB call_len_str (by rfl) T.z_len (by decide +kernel) (pa_cons (pv 0) pa_nil)) (pe_glob rfl T.c_LONGEST_NAME T.r_LONGEST_NAME)))))) (pss_one (ps_ret pe_bl)) pss_nil)
    (pss_one (ps_ret (pe_callB (cr_all rfl) (by rfl) T.z_all (by decide +kernel) (pa_cons (pe_lc (own := [("letter", 1)]) (g := gName 1) (tt := tYes) rfl sc_is_name.nd (pi_str (pv 0)) (blkOk_by (own := [("letter", 1)]) (N := n_is_name) (sc := defScope s_is_name) (by decide +kernel)) (fun _ _ _ _ _ => (pg_name (i := 1) sc_is_name.nd rfl (Or.inl rfl))) (fun _ _ _ _ _ => pts_nil) (fun _ _ _ _ _ => (pe_cmpR op_in_sign (pv 1) (pe_glob rfl T.c_LETTERS T.r_LETTERS) rfl))) pa_nil))))), ?_⟩
  refine ⟨_, rfl, v, .ty "str", _, _, _, rfl, .ty "str", Dp.ty hd, kit_d some_str, _, rfl, ?_⟩
  rw [isStr_eq]
  cases d with
  | str z =>
    obtain rfl : v = .str z := by cases hd; rfl
    have hz1 := hz z rfl
    refine iteF ?_
    refine ⟨_, rfl, z, rfl, small (by omega), _, _, rfl, rfl, _, rfl, ?_⟩
    refine ite2 (fun h1 => ?_) (fun h1 => ?_)
    · refine ⟨_, _, rfl, rfl, _, rfl, ?_⟩
      have h1' : 1 ≤ z.length := by have := of_decide_eq_true h1; omega
      by_cases h2 : z.length ≤ 6
      · rw [decide_eq_true (show (z.length : Int) ≤ 6 by omega)]
        refine iteF ?_
        refine ⟨_, rfl, z, rfl, fun D hD => ?_⟩
        refine lc_it (walk_str (z := z)) (fun i H2 => Same H H2 ∧ H2 D = some (.lst (((z.cps.toList.take i).map (fun c => decide (c ∈ alpha))).map V.bl))) ⟨same_new hD _, upd_same⟩ (fun _ _ _ _ => True.intro) ?_ ?_
        · rintro i x H2 H3 hi ⟨g, hl⟩ ⟨rfl, c, hc, rfl⟩
          have hc2 : z.cps.toList[i]? = some c := by rw [Array.getElem?_toList]; exact hc
          have hlen : (((z.cps.toList.take i).map (fun c => decide (c ∈ alpha))).map V.bl).length < sizeLine := by
            rw [List.length_map, List.length_map, List.length_take]
            have h3 : z.cps.size ≤ 6 := h2
            exact small' (by omega)
          refine ⟨rfl, _, rfl, c, _, rfl, rfl, _, hl, hlen, fun b o q => ?_, ?_⟩
          · rw [upd_ne (ne_of_none q hD)]
            exact g b o q
          · rw [upd_same, alpha_eq, List.take_add_one, hc2]
            simp
        · rintro H2 ⟨g, hl⟩
          refine ⟨D, _, rfl, SqL.of hl, ?_⟩
          have e : (((z.cps.toList.take z.cps.size).map (fun c => decide (c ∈ alpha))).all id) = nameD (.str z) := by
            show _ = (decide (1 ≤ z.length) && decide (z.length ≤ 6) && z.cps.toList.all (fun c => decide (c ∈ alpha)))
            rw [decide_eq_true h1', decide_eq_true h2, Bool.true_and, Bool.true_and, List.take_of_length_le (by rw [Array.length_toList]; exact Nat.le_refl _), List.all_map]
            rfl
          rw [e]
          exact k H2 g
      · rw [decide_eq_false (show ¬ (z.length : Int) ≤ 6 by omega)]
        refine iteT ?_
        have e : nameD (.str z) = false := by
          show (decide (1 ≤ z.length) && decide (z.length ≤ 6) && _) = false
          rw [decide_eq_false h2, Bool.and_false, Bool.false_and]
        rw [← e]
        exact k H (Same.refl _)
    · refine ⟨_, rfl, ?_⟩
      refine iteT ?_
      have e : nameD (.str z) = false := by
        show (decide (1 ≤ z.length) && _ && _) = false
        rw [decide_eq_false (by intro q; exact h1 (decide_eq_true (by omega))), Bool.false_and, Bool.false_and]
      rw [← e]
      exact k H (Same.refl _)
  | _ => exact iteT (k H (Same.refl _))
end
end Bl

namespace Bl
open PySem L2
open SX (S)
/-! short words: array_get_dec closes a side condition; array_mem_dec goes one step into a reading; sizeOf_list_dec goes on while it can -/
local macro_rules | `(tactic| array_get_dec) => `(tactic| first
  | (with_reducible assumption)
  | ((with_reducible apply Bl.gEq); first
    | rfl
    | assumption
    | exact upd_same
    | (with_reducible exact kit_d some_str)
    | (with_reducible exact kit_d some_int)
    | (with_reducible exact kit_d some_bool)
    | (with_reducible exact kit_d some_list)
    | (with_reducible exact kit_d some_tuple)
    | ((with_reducible apply Bl.get_new); assumption; array_get_dec)
    | ((with_reducible apply Bl.get_tr); assumption; array_get_dec)
    )
  | ((with_reducible apply Bl.gLe); first
    | omega
    | exact small (by omega)
    | exact small (by simp only [List.length_cons, List.length_nil]; decide)
    | exact small (by simp only [List.length_append, List.length_cons, List.length_nil]; omega)
    | decide)
  | ((with_reducible apply Bl.gLt); first
    | omega
    | exact small' (by omega)
    | exact small' (by simp only [List.length_cons, List.length_nil]; decide)
    | decide)
  | ((fail_if_success (with_reducible apply Bl.gEq)); (fail_if_success (with_reducible apply Bl.gLe)); (fail_if_success (with_reducible apply Bl.gLt)); first
    | assumption
    | exact SqL.of upd_same
    | exact SqT.of upd_same
    | ((with_reducible apply SqL.of); assumption)
    | ((with_reducible apply SqT.of); assumption)
    | exact Same.refl _
    | exact .ty _
    | exact .str _
    | exact .int _
    | exact ⟨_, rfl⟩
    | ((with_reducible apply Dp.ty); assumption)
    | ((with_reducible apply Bl.seq_new); assumption; array_get_dec)
    | ((with_reducible apply Bl.tup_new); assumption; array_get_dec)
    | ((with_reducible apply Bl.dp_new); assumption; array_get_dec)
    | ((with_reducible apply Bl.dpa_new); assumption; array_get_dec)
    | ((with_reducible apply Bl.same_nw); assumption; array_get_dec)
    | ((with_reducible apply Bl.seq_tr); assumption; array_get_dec)
    | ((with_reducible apply Bl.tup_tr); assumption; array_get_dec)
    | ((with_reducible apply Bl.dp_tr); assumption; array_get_dec)
    | ((with_reducible apply Bl.dpa_tr); assumption; array_get_dec)
    | ((with_reducible apply Bl.same_tr); assumption; array_get_dec)
    | ((with_reducible apply Dp.ty); assumption)
    | ((with_reducible apply Dp.ty); array_get_dec)
    | ((with_reducible refine Or.inl ?_); array_get_dec)
    | ((with_reducible refine Or.inr ?_); array_get_dec)
    | ((with_reducible apply Bl.gEx); array_get_dec)))
local macro_rules | `(tactic| array_mem_dec) => `(tactic| first
  | ((with_reducible apply Bl.gIte); first
    | (refine Bl.gT (by rfl) ?_)
    | (refine Bl.gF (by rfl) ?_))
  | ((fail_if_success (with_reducible apply Bl.gIte)); (fail_if_success (with_reducible apply Bl.gLoop)); (fail_if_success (with_reducible apply Bl.gComp)); (fail_if_success (with_reducible apply Bl.gWhile)); first
    | (with_reducible intro _ _)
    | (with_reducible intro _)
    | (refine And.intro (by array_get_dec) ?_)
    | (apply Bl.gEx)
    | (refine Or.inl (And.intro (by array_get_dec) ?_))
    | (refine Or.inr (And.intro (by array_get_dec) ?_))
    | (refine Or.inl ⟨_, by array_get_dec, ?_⟩)
    | (refine Or.inr ⟨_, by array_get_dec, ?_⟩)
    ))
local macro_rules | `(tactic| sizeOf_list_dec) => `(tactic| repeat array_mem_dec)

abbrev n_is_thing : List Str := ["value", "name"]
theorem sc_is_thing : FnScope n_is_thing ["value"] (defScope s_is_thing) := ⟨rfl, rfl, rfl, by decide +kernel, rfl, by decide +kernel, by decide +kernel⟩
abbrev n_is_row : List Str := ["value", "field"]
theorem sc_is_row : FnScope n_is_row ["value"] (defScope s_is_row) := ⟨rfl, rfl, rfl, by decide +kernel, rfl, by decide +kernel, by decide +kernel⟩
/-- a thing as it must be -/
structure ThV (ns : List Str) : Prop where
  nm : ∀ n ∈ ns, nameB n = true
  nd : ns.Nodup
  lo : 1 ≤ ns.length
  hi : ns.length ≤ 3
@[irreducible] def spIsThing (K : PySem.W.Frag) : Sp := fun vs H Q _ => ∃ (t : Addr) (ns : List Str), vs = [.ref t] ∧ ThOk K H t ns ∧ ThV ns ∧ ∀ H', Same H H' → Q (.bl true) H'
theorem isthing_go {K : PySem.W.Frag} {t : Addr} {ns : List Str} {H : Hp} {Q : VK} {E : XK} (h : ThOk K H t ns) (g : ThV ns) (k : ∀ H', Same H H' → Q (.bl true) H') : spIsThing K [.ref t] H Q E := by
  unfold spIsThing
  exact ⟨t, ns, rfl, h, g, k⟩
theorem nm_len {n : Str} (hn : nameB n = true) : ∀ z : Str, PyData.str n = .str z → z.length ≤ 100000 := fun z e => by
  cases e
  have h1 := (Bool.and_eq_true_iff.mp (Bool.and_eq_true_iff.mp hn).1).2
  have := of_decide_eq_true h1
  omega
/-- a row as it is handed in -/
def RowV (w : Row) : Prop := (∀ q ∈ w, nameB q.1 = true ∧ nameB q.2 = true) ∧ w.length ≤ 300
@[irreducible] def spIsRow (K : PySem.W.Frag) : Sp := fun vs H Q _ => ∃ (t : Addr) (w : Row), vs = [.ref t] ∧ H t = some (.dK (rowK w)) ∧ RowV w ∧ (w.map (·.1)).Nodup ∧ ∀ H', Same H H' → Q (.bl true) H'
section
variable {P : Program} {w : World} {K : PySem.W.Frag} {mg : Str → Option Value} {base : Heap}
theorem ok_is_thing (T : Top K mg) : FnOk P w K mg base CX0 4 T.a_is_thing T.d_is_thing ["value"] (spIsThing K) := by
  refine T.F_is_thing.ok sc_is_thing (fun vs H Q E h => ?_) (fun cdv A outer s H vs Q E hr h => ?_)
  · unfold spIsThing at h
    obtain ⟨t, n, rfl, _⟩ := h
    rfl
  unfold spIsThing at h
  obtain ⟨t, ns, rfl, ht, g, k⟩ := h
  refine ⟨_, (pss_cons (ps_if (PW.pt (pw_or (pt_not (pt_val (pe_callB call_isi (by rfl) T.z_isinstance (by decide +kernel) (pa_cons (pv 0) (pa_cons (pe_bltn (v := .ty "tuple") (by rfl) T.z_tuple (by decide +kernel) rfl) pa_nil))))) (pw_or1 (pt_not (pt_chain op_le op_le pe_int (pe_callB call_len_seq (by rfl) T.z_len (by decide +kernel) (pa_cons (pv 0) pa_nil)) (pe_glob rfl T.c_MOST_OF_THING T.r_MOST_OF_THING)))))) (pss_one (ps_ret pe_bl)) pss_nil)
    (pss_one (ps_ret (pe_and (pe_callB (cr_all rfl) (by rfl) T.z_all (by decide +kernel) (pa_cons (pe_lc (own := [("name", 1)]) (g := gName 1) (tt := tYes) rfl sc_is_thing.nd (pi_tup (pv 0)) (blkOk_by (own := [("name", 1)]) (N := n_is_thing) (sc := defScope s_is_thing) (by decide +kernel)) (fun _ _ _ _ _ => (pg_name (i := 1) sc_is_thing.nd rfl (Or.inl rfl))) (fun _ _ _ _ _ => pts_nil) (fun _ _ _ _ _ => (pe_call (ok_is_name T) (hr.mono (by decide)) rfl T.m_is_name T.F_is_name.kp T.b_is_name .nil pass0 (pa_cons (pv 1) pa_nil)))) pa_nil)) (pe_one (pe_cmpR op_eq (pe_lenSetN rfl (by rfl) T.z_len (by rfl) T.z_set (pv 0)) (pe_callB call_len_seq (by rfl) T.z_len (by decide +kernel) (pa_cons (pv 0) pa_nil)) (nomark _))))))), ?_⟩
  have hty := tyT ht
  have hk : PySem.W.kitOne K (.type "tuple") (.type "tuple") = some true := kit_ty (by decide +kernel)
  have hlen : (ns.map V.str).length = ns.length := List.length_map ..
  have g1 := g.lo
  have g3 := g.hi
  have z1 : decide ((1 : Int) ≤ ((ns.map V.str).length : Int)) = true := decide_eq_true (by omega)
  have z2 : decide ((((ns.map V.str).length : Int)) ≤ 3) = true := decide_eq_true (by omega)
  sizeOf_list_dec
  refine gT z1 ?_
  sizeOf_list_dec
  refine gF (by rw [z2]; rfl) ?_
  sizeOf_list_dec
  rename_i D fD
  refine lc_tup (K := K) (a := t) (xs := ns.map V.str) (fun i Hx => Hold (Same H Hx ∧ Hx D = some (.lst ((List.replicate i true).map V.bl)))) ⟨same_new fD _, upd_same⟩ (fun i Hx _ h => Same.tup h.h.1 ht) ?_ ?_
  · rintro i x Hx hi ⟨e, hD⟩
    obtain ⟨n, hn, rfl⟩ := str_get hi
    have nn := g.nm n (List.mem_of_getElem? hn)
    have il : i < ns.length := (List.getElem?_eq_some_iff.mp hn).1
    refine ⟨rfl, _, rfl, _, .str n, rfl, .str n, nm_len nn, fun H3 e3 => ⟨_, e3 _ _ hD, ?_, ⟨Same.mut (e.trans e3) fD _, ?_⟩⟩⟩
    · rw [List.length_map, List.length_replicate]
      exact small' (by omega)
    · rw [upd_same, show nameD (.str n) = true from nn, List.replicate_succ', List.map_append]
      rfl
  · rintro Hx ⟨e, hD⟩
    have ht2 := Same.tup e ht
    refine ⟨D, List.replicate (ns.map V.str).length true, rfl, SqL.of hD, _, rfl, ?_⟩
    rw [show (List.replicate (ns.map V.str).length true).all id = true from by simp]
    refine iteT ?_
    refine ⟨_, rfl, t, ns, rfl, ht2, (by omega), ?_⟩
    rw [nDiff_nodup g.nd _ (Nat.le_refl _)]
    sizeOf_list_dec
    rw [hlen, decide_eq_true rfl]
    exact k _ e
theorem same_lock {H G : Hp} {t : Addr} {o : HO} {od : Obj} (h : H t = some o) (e : Same (upd H t (.frz od o)) G) : Same H (upd G t o) := fun b u hb => by
  by_cases k : b = t
  · subst k
    rw [upd_same, ← h, hb]
  · rw [upd_ne k]
    refine e b u ?_
    rw [upd_ne k]
    exact hb
theorem ok_is_row (T : Top K mg) : FnOk P w K mg base CX0 4 T.a_is_row T.d_is_row ["value"] (spIsRow K) := by
  refine T.F_is_row.ok sc_is_row (fun vs H Q E h => ?_) (fun cdv A outer s H vs Q E hr h => ?_)
  · unfold spIsRow at h
    obtain ⟨t, n, rfl, _⟩ := h
    rfl
  unfold spIsRow at h
  obtain ⟨t, w, rfl, ht, hw, nd, k⟩ := h
  have hu := hu_of hr
  refine ⟨_, (pss_cons (ps_if (pt_not (pt_val (pe_callB call_isi (by rfl) T.z_isinstance (by decide +kernel) (pa_cons (pv 0) (pa_cons (pe_bltn (v := .ty "dict") (by rfl) T.z_dict (by decide +kernel) rfl) pa_nil))))) (pss_one (ps_ret pe_bl)) pss_nil)
    (pss_one (ps_ret (pe_callB (cr_all rfl) (by rfl) T.z_all (by decide +kernel) (pa_cons (pe_lock (pe_lc (own := [("field", 1)]) (g := gName 1) (tt := tYes) rfl sc_is_row.nd (pi_keys (pv 0)) (blkOk_by (own := [("field", 1)]) (N := n_is_row) (sc := defScope s_is_row) (by decide +kernel)) (fun _ _ _ _ _ => (pg_name (i := 1) sc_is_row.nd rfl (Or.inl rfl))) (fun _ _ _ _ _ => pts_nil) (fun _ _ _ _ _ => (pe_and (pe_call (ok_is_name T) (hr.mono (by decide)) rfl T.m_is_name T.F_is_name.kp T.b_is_name .nil pass0 (pa_cons (pv 1) pa_nil)) (pe_one (pe_call (ok_is_name T) (hr.mono (by decide)) rfl T.m_is_name T.F_is_name.kp T.b_is_name .nil pass0 (pa_cons (pe_dget (hu_of hr) (pv 0) (pv 1) (fun _ _ => rfl)) pa_nil))))))) pa_nil))))), ?_⟩
  have hty : TyX K H (.ref t) (.type "dict") := .base (.dK ht)
  have hk : PySem.W.kitOne K (.type "dict") (.type "dict") = some true := kit_ty (by decide +kernel)
  have hm : Mut (some (.dK (rowK w))) := True.intro
  sizeOf_list_dec
  rename_i od D fD
  refine lc_it (walk_keys (kvs := rowK w)) (fun i Hx => Hold (Same (upd H t (.frz od (.dK (rowK w)))) Hx ∧ Hx D = some (.lst ((List.replicate i true).map V.bl)))) ⟨same_new fD _, upd_same⟩ (fun i Hx _ h => h.h.1 _ _ upd_same) ?_ ?_
  · rintro i x Hx H2 hi ⟨e, hD⟩ ⟨rfl, k0, v0, hi2, rfl⟩
    have hl : (rowK w).length = w.length := List.length_map ..
    obtain ⟨q, hq, e1, e2⟩ : ∃ q, w[i]? = some q ∧ k0 = Sum.inr q.1 ∧ v0 = .str q.2 := by
      unfold rowK at hi2
      rw [List.getElem?_map] at hi2
      cases eq : w[i]? with
      | none => rw [eq] at hi2; cases hi2
      | some q =>
        rw [eq] at hi2
        cases hi2
        exact ⟨q, rfl, rfl, rfl⟩
    subst e1 e2
    obtain ⟨n1, n2⟩ := hw.1 q (List.mem_of_getElem? hq)
    have hg : ∀ G, Same H2 G → DGet G t (.str q.1) (some (.str q.2)) := fun G g => .inl ⟨rowK w, Sum.inr q.1, .inr ⟨od, g _ _ (e _ _ upd_same)⟩, rfl, (rowK_get nd hq).symm⟩
    refine ⟨rfl, _, rfl, .str q.1, .str q.1, rfl, .str _, nm_len n1, fun H3 e3 => ?_⟩
    refine ⟨true, by rw [show nameD (.str q.1) = true from n1], iteT ?_⟩
    refine ⟨_, rfl, _, rfl, t, .str q.2, rfl, hg _ e3, .str q.2, .str q.2, rfl, .str _, nm_len n2, fun H4 e4 => ?_⟩
    have hlt := hw.2
    refine ⟨_, e4 _ _ (e3 _ _ hD), ?_, ⟨Same.mut (e.trans (e3.trans e4)) fD _, ?_⟩⟩
    · rw [List.length_map, List.length_replicate]
      exact small' (by omega)
    · rw [upd_same, show nameD (.str q.2) = true from n2, List.replicate_succ', List.map_append]
      rfl
  · rintro Hx ⟨e, hD⟩
    have hDt : D ≠ t := by
      rintro rfl
      rw [upd_same] at fD
      cases fD
    refine ⟨e _ _ upd_same, D, List.replicate (rowK w).length true, rfl, SqL.of (by rw [upd_ne hDt]; exact hD), ?_⟩
    rw [show (List.replicate (rowK w).length true).all id = true from by simp]
    exact k _ (same_lock ht e)

end
end Bl

namespace Bl
open PySem L2
open SX (S)
/-! short words: array_get_dec closes a side condition; array_mem_dec goes one step into a reading; sizeOf_list_dec goes on while it can -/
local macro_rules | `(tactic| array_get_dec) => `(tactic| first
  | (with_reducible assumption)
  | ((with_reducible apply Bl.gEq); first
    | rfl
    | assumption
    | exact upd_same
    | (with_reducible exact kit_d some_str)
    | (with_reducible exact kit_d some_int)
    | (with_reducible exact kit_d some_bool)
    | (with_reducible exact kit_d some_list)
    | (with_reducible exact kit_d some_tuple)
    | ((with_reducible apply Bl.get_new); assumption; array_get_dec)
    | ((with_reducible apply Bl.get_tr); assumption; array_get_dec)
    )
  | ((with_reducible apply Bl.gLe); first
    | omega
    | exact small (by omega)
    | exact small (by simp only [List.length_cons, List.length_nil]; decide)
    | exact small (by simp only [List.length_append, List.length_cons, List.length_nil]; omega)
    | decide)
  | ((with_reducible apply Bl.gLt); first
    | omega
    | exact small' (by omega)
    | exact small' (by simp only [List.length_cons, List.length_nil]; decide)
    | decide)
  | ((fail_if_success (with_reducible apply Bl.gEq)); (fail_if_success (with_reducible apply Bl.gLe)); (fail_if_success (with_reducible apply Bl.gLt)); first
    | assumption
    | exact SqL.of upd_same
    | exact SqT.of upd_same
    | ((with_reducible apply SqL.of); assumption)
    | ((with_reducible apply SqT.of); assumption)
    | exact Same.refl _
    | exact .ty _
    | exact .str _
    | exact .int _
    | exact ⟨_, rfl⟩
    | ((with_reducible apply Dp.ty); assumption)
    | ((with_reducible apply Bl.seq_new); assumption; array_get_dec)
    | ((with_reducible apply Bl.tup_new); assumption; array_get_dec)
    | ((with_reducible apply Bl.dp_new); assumption; array_get_dec)
    | ((with_reducible apply Bl.dpa_new); assumption; array_get_dec)
    | ((with_reducible apply Bl.same_nw); assumption; array_get_dec)
    | ((with_reducible apply Bl.seq_tr); assumption; array_get_dec)
    | ((with_reducible apply Bl.tup_tr); assumption; array_get_dec)
    | ((with_reducible apply Bl.dp_tr); assumption; array_get_dec)
    | ((with_reducible apply Bl.dpa_tr); assumption; array_get_dec)
    | ((with_reducible apply Bl.same_tr); assumption; array_get_dec)
    | ((with_reducible apply Dp.ty); assumption)
    | ((with_reducible apply Dp.ty); array_get_dec)
    | ((with_reducible refine Or.inl ?_); array_get_dec)
    | ((with_reducible refine Or.inr ?_); array_get_dec)
    | ((with_reducible apply Bl.gEx); array_get_dec)))
local macro_rules | `(tactic| array_mem_dec) => `(tactic| first
  | ((with_reducible apply Bl.gIte); first
    | (refine Bl.gT (by rfl) ?_)
    | (refine Bl.gF (by rfl) ?_))
  | ((fail_if_success (with_reducible apply Bl.gIte)); (fail_if_success (with_reducible apply Bl.gLoop)); (fail_if_success (with_reducible apply Bl.gComp)); (fail_if_success (with_reducible apply Bl.gWhile)); first
    | (with_reducible intro _ _)
    | (with_reducible intro _)
    | (refine And.intro (by array_get_dec) ?_)
    | (apply Bl.gEx)
    | (refine Or.inl (And.intro (by array_get_dec) ?_))
    | (refine Or.inr (And.intro (by array_get_dec) ?_))
    | (refine Or.inl ⟨_, by array_get_dec, ?_⟩)
    | (refine Or.inr ⟨_, by array_get_dec, ?_⟩)
    ))
local macro_rules | `(tactic| sizeOf_list_dec) => `(tactic| repeat array_mem_dec)

theorem hu9 {A : Around} {k : Nat} (hr : Room k A) : A.units + 9 < cLine := by
  have := hr.units
  omega
/-- marks as a dict -/
def mkD (ms : List NestedKey) : List (NestedKey × V) := ms.map fun m => (m, V.bl true)
abbrev n_has_one : List Str := ["marks", "others", "mark"]
theorem sc_has_one : FnScope n_has_one ["marks", "others"] (defScope s_has_one) := ⟨rfl, rfl, rfl, by decide +kernel, rfl, by decide +kernel, by decide +kernel⟩
abbrev n_Ledger__marks_of : List Str := ["self", "row", "found", "at", "thing", "field"]
theorem sc_Ledger__marks_of : FnScope n_Ledger__marks_of ["self", "row"] (defScope s_Ledger__marks_of) := ⟨rfl, rfl, rfl, by decide +kernel, rfl, by decide +kernel, by decide +kernel⟩
@[irreducible] def spHasOne (P : Program) (w : World) (K : PySem.W.Frag) : Sp := fun vs H Q _ => ∃ (a b : Addr) (ms os : List NestedKey), vs = [.ref a, .ref b] ∧ a ≠ b ∧ ND P w K H a (mkD ms) ∧ ND P w K H b (mkD os) ∧ ms.length ≤ 100 ∧ ∀ H', Same H H' → Q (.bl (ms.any fun m => decide (m ∈ os))) H'
section
variable {P : Program} {w : World} {K : PySem.W.Frag} {mg : Str → Option Value} {base : Heap}
theorem mkD_in {ms : List NestedKey} {k : NestedKey} : (valV (mkD ms) k).isSome = decide (k ∈ ms) := by
  induction ms with
  | nil => rfl
  | cons m ms ih =>
    show (valV ((m, V.bl true) :: mkD ms) k).isSome = _
    by_cases e : m = k
    · rw [valV_pos e]
      simp [e]
    · rw [valV_neg e, ih]
      have : ¬ k = m := fun h => e h.symm
      simp [this]
theorem kn_mk {H : Hp} {ms : List NestedKey} {xs : List (NestedKey × Addr × Value)} (h : KN K H (mkD ms) xs) : ∀ {i : Nat} {q : NestedKey × Addr × Value}, xs[i]? = some q → ∃ m, ms[i]? = some m ∧ NV K H m (.ref q.2.1) ∧ m.depth ≤ 8 := by
  induction ms generalizing xs with
  | nil =>
    cases h
    intro i q h
    simp at h
  | cons m ms ih =>
    cases h with
    | @cons p q ps qs h t =>
      intro i q' hq
      cases i with
      | zero =>
        simp at hq
        subst hq
        exact ⟨m, rfl, h.2.1⟩
      | succ i =>
        simp at hq
        obtain ⟨m', h1, h2⟩ := ih t hq
        exact ⟨m', by simpa using h1, h2⟩
theorem ok_has_one (T : Top K mg) : FnOk P w K mg base CX0 4 T.a_has_one T.d_has_one ["marks", "others"] (spHasOne P w K) := by
  refine T.F_has_one.ok sc_has_one (fun vs H Q E h => ?_) (fun cdv A outer s H vs Q E hr h => ?_)
  · unfold spHasOne at h
    obtain ⟨a, b, ms, os, rfl, _⟩ := h
    rfl
  unfold spHasOne at h
  obtain ⟨a, b, ms, os, rfl, nab, ha, hb, hl, k⟩ := h
  refine ⟨_, (pss_one (ps_ret (pe_callB (cr_any rfl) (by rfl) T.z_any (by decide +kernel) (pa_cons (pe_lock (pe_lc (own := [("mark", 2)]) (g := gName 2) (tt := tYes) rfl sc_has_one.nd (pi_nkeys (pv 0)) (blkOk_by (own := [("mark", 2)]) (N := n_has_one) (sc := defScope s_has_one) (by decide +kernel)) (fun _ _ _ _ _ => (pg_name (i := 2) sc_has_one.nd rfl (Or.inl rfl))) (fun _ _ _ _ _ => pts_nil) (fun _ _ _ _ _ => (pe_cmp (pc_ninC (P := P) (w := w) (K := K) rfl rfl rfl (hu9 hr) (pv 2) (pv 1)) rfl)))) pa_nil)))), ?_⟩
  obtain ⟨hla, xs, ea, ka⟩ := ha
  have hm : Mut (some (NO P w a xs)) := True.intro
  sizeOf_list_dec
  obtain ⟨hlb, ys, eb, kb⟩ := hb
  rename_i od D fD
  have hx : xs.length = ms.length := by
    rw [← kn_len ka]
    exact List.length_map ..
  have tr1 : ∀ t us, SqT K H t us → SqT K (upd H a (.frz od (NO P w a xs))) t us := sqt_but ea (fun _ z => nomatch z) (fun _ _ z => nomatch z) fun c u n e => by rw [upd_ne n]; exact e
  have hb1 : upd H a (.frz od (NO P w a xs)) b = some (NO P w b ys) := by rw [upd_ne (Ne.symm nab)]; exact eb
  refine lc_it (walk_keysN (K := K) (d := a) (o := od) (xs := xs)) (fun i Hx => Hold (Same (upd H a (.frz od (NO P w a xs))) Hx ∧ Hx D = some (.lst (((ms.take i).map fun m => decide (m ∈ os)).map V.bl)))) ⟨same_new fD _, upd_same⟩ (fun i Hx _ h => h.h.1 _ _ upd_same) ?_ ?_
  · rintro i x Hx H2 hi ⟨e, hD⟩ ⟨rfl, q, hq, rfl⟩
    obtain ⟨m, hm, g1, g2⟩ := kn_mk ka hq
    have hil : i < ms.length := (List.getElem?_eq_some_iff.mp hm).1
    have hbx : NDr P w K H2 b (mkD os) := ⟨hlb, ys, .inl (e _ _ hb1), KN.mono e (KN.tr tr1 kb)⟩
    refine ⟨rfl, _, rfl, _, rfl, b, q.2.1, mkD os, m, rfl, rfl, hbx, NV.mono e _ _ (NV.tr tr1 _ _ g1), g2, ?_⟩
    refine ⟨_, hD, ?_, ⟨Same.mut e fD _, ?_⟩⟩
    · rw [List.length_map, List.length_map, List.length_take]
      exact small' (by omega)
    · rw [upd_same, mkD_in, List.take_add_one, hm, List.map_append, List.map_append]
      rfl
  · rintro Hx ⟨e, hD⟩
    have hDa : D ≠ a := by
      rintro rfl
      rw [upd_same] at fD
      cases fD
    refine ⟨e _ _ upd_same, D, (ms.take xs.length).map fun m => decide (m ∈ os), rfl, SqL.of (by rw [upd_ne hDa]; exact hD), ?_⟩
    rw [hx, List.take_length, List.any_map]
    exact k _ (same_lock ea e)
@[irreducible] def spMarks (P : Program) (w : World) (K : PySem.W.Frag) (C : Addr) : Sp := fun vs H Q _ => ∃ (p d : Addr) (f : LFt) (L : LSt) (r : Row), vs = [.ref p, .ref d] ∧ LedAt K C H p f L ∧ LRowOk H d r ∧ (∀ th ∈ L.things, th.length ≤ 3) ∧ L.things.length ≤ 4 ∧
  ∀ (m : Addr) (H' : Hp), H m = none → ND P w K H' m (mkD (marks r 0 L.things)) → Same H H' → Q (.ref m) H'
theorem mkD_put {ms : List NestedKey} {k : NestedKey} (h : k ∉ ms) : putK (mkD ms) k (V.bl true) = mkD (ms ++ [k]) := by
  unfold putK
  rw [valV_any, mkD_in, decide_eq_false h]
  show mkD ms ++ [(k, V.bl true)] = _
  unfold mkD
  rw [List.map_append]
  rfl
theorem marks_new {r : Row} {n : Nat} {ths : List (List Str)} {vs : List Str} : mkey (n + ths.length) vs ∉ marks r n ths := fun h => by
  obtain ⟨j, th, us, h1, h2, h3⟩ := mem_marks.mp h
  have := (mkey_inj h3).1
  have := (List.getElem?_eq_some_iff.mp h1).1
  omega
theorem nvs_str {H : Hp} : ∀ vs : List Str, NVs K H (vs.map .text) (vs.map V.str)
  | [] => .nil
  | v :: vs => .cons (.str v) (nvs_str vs)
theorem depth_texts : ∀ vs : List Str, NestedKey.depthAll (vs.map .text) = 0
  | [] => rfl
  | v :: vs => by
    rw [List.map_cons, NestedKey.depthAll, depth_texts vs]
    rfl
theorem mkey_depth {n : Nat} {vs : List Str} : (mkey n vs).depth ≤ 8 := by
  unfold mkey
  rw [NestedKey.depth, NestedKey.depthAll, NestedKey.depthAll, NestedKey.depth, NestedKey.depth, depth_texts]
  decide
theorem marks_one {r : Row} {n : Nat} {th : List Str} : marks r n [th] = match vals r th with | some vs => [mkey n vs] | none => [] := by
  unfold marks
  rfl
theorem ok_Ledger__marks_of (T : Top K mg) : FnOk P w K mg base CX0 1 T.a_Ledger__marks_of T.d_Ledger__marks_of ["self", "row"] (spMarks P w K T.C_Ledger) := by
  refine T.F_Ledger__marks_of.ok sc_Ledger__marks_of (fun vs H Q E h => ?_) (fun cdv A outer s H vs Q E hr h => ?_)
  · unfold spMarks at h
    obtain ⟨p, d, f, L, r, rfl, _⟩ := h
    rfl
  unfold spMarks at h
  obtain ⟨p, d, f, L, r, rfl, L0, hd, h3, h4, k⟩ := h
  have hd : H d = some (.dK (rowK r)) := hd
  have hcl := T.cl_Ledger
  have hn1 := T.n_Ledger__things
  obtain ⟨ts, hth, hts⟩ := L0.th
  have hins := L0.ins
  have hlk := f.lkT
  have hlt := pr_len hts
  refine ⟨_, (pss_cons (ps_set (i := 2) sc_Ledger__marks_of.nd rfl (Or.inl rfl) (pe_nnew))
    (pss_cons (ps_for PassesOwn.never rfl (pi_enum (by rfl) T.z_enumerate (pa_cons (pe_fld (pv 0) rfl) pa_nil)) (pg_tup rfl (pgs_cons (pg_name (i := 3) sc_Ledger__marks_of.nd rfl (Or.inl rfl)) (pgs_cons (pg_name (i := 4) sc_Ledger__marks_of.nd rfl (Or.inl rfl)) pgs_nil)))
    (pss_one (ps_if (pt_val (pe_callB (cr_all rfl) (by rfl) T.z_all (by decide +kernel) (pa_cons (pe_lc (own := [("field", 5)]) (g := gName 5) (tt := tYes) rfl sc_Ledger__marks_of.nd (pi_tup (pv 4)) (blkOk_by (own := [("field", 5)]) (N := n_Ledger__marks_of) (sc := defScope s_Ledger__marks_of) (by decide +kernel)) (fun _ _ _ _ _ => (pg_name (i := 5) sc_Ledger__marks_of.nd rfl (Or.inl rfl))) (fun _ _ _ _ _ => pts_nil) (fun _ _ _ _ _ => (pe_cmp (pc_din (hu_of hr) (pv 5) (pv 1)) rfl))) pa_nil))) (pss_one (ps_nput (hu9 hr) (pv 2) (pe_tup (pa_cons (pv 3) (pa_cons (pe_callTy call_tuple_of (by rfl) T.z_tuple (by decide +kernel) (pa_cons (pe_lc (own := [("field", 5)]) (g := gName 5) (tt := tYes) rfl sc_Ledger__marks_of.nd (pi_tup (pv 4)) (blkOk_by (own := [("field", 5)]) (N := n_Ledger__marks_of) (sc := defScope s_Ledger__marks_of) (by decide +kernel)) (fun _ _ _ _ _ => (pg_name (i := 5) sc_Ledger__marks_of.nd rfl (Or.inl rfl))) (fun _ _ _ _ _ => pts_nil) (fun _ _ _ _ _ => (pe_dget (hu_of hr) (pv 1) (pv 5) (fun _ _ => rfl)))) pa_nil)) pa_nil))) pe_bl rfl)) pss_nil)))
    (pss_one (ps_ret (pv 2))))), ?_⟩
  refine fun m fm nd0 => ?_
  have s0 := same_new fm (NO P w m [])
  have hins1 := s0 _ _ hins
  have hth1 := s0 _ _ hth
  sizeOf_list_dec
  refine for_it walk_enum (fun i σ Hx => Hold (Same H Hx ∧ ND P w K Hx m (mkD (marks r 0 (L.things.take i))) ∧ ∃ u v z, σ = [some (.ref p), some (.ref d), some (.ref m), u, v, z])) ⟨s0, nd0 _ upd_same, _, _, _, rfl⟩ (fun i σ Hx _ h => SqL.of (h.h.1 _ _ hth)) ?_ ?_
  · rintro i x σ Hx H2 hi ⟨e, nd, u, v, z, rfl⟩ ⟨Tp, y1, y2, rfl, fT, rfl, h1, h2⟩
    obtain ⟨a, ha, rfl⟩ := ref_get h2
    obtain ⟨th, h3', h4'⟩ := pr_get hts ha
    obtain rfl : V.int (i : Nat) = y1 := Option.some.inj h1
    have ht4 : SqT K Hx a (th.map V.str) := Same.tup e h4'
    have hd2 : Hx d = some (.dK (rowK r)) := e _ _ hd
    have hm2 := nd.2
    have l3 : th.length ≤ 3 := h3 th (List.mem_of_getElem? h3')
    have il : i < L.things.length := (List.getElem?_eq_some_iff.mp h3').1
    sizeOf_list_dec
    rename_i D fD
    have sT := same_new fT (.tup [V.int (i : Nat), V.ref a])
    refine lc_tup (K := K) (a := a) (xs := th.map V.str) (fun j Hz => Hold (Same (upd Hx Tp (.tup [V.int (i : Nat), V.ref a])) Hz ∧ Hz D = some (.lst (((th.take j).map fun f => (look r f).isSome).map V.bl)))) ⟨same_new fD _, upd_same⟩ (fun j Hz _ h => Same.tup (sT.trans h.h.1) ht4) ?_ ?_
    · rintro j x Hz hj ⟨ez, hD⟩
      obtain ⟨n, hn, rfl⟩ := str_get hj
      have hd3 := ez _ _ (sT _ _ hd2)
      refine ⟨rfl, _, rfl, _, rfl, _, _, rfl, DGet.k (k := Sum.inr n) hd3, _, hD, ?_, ⟨Same.mut ez fD _, ?_⟩⟩
      · rw [List.length_map, List.length_map, List.length_take]
        exact small' (by omega)
      · rw [upd_same, look_rowK, Option.isSome_map, List.take_add_one, hn, List.map_append, List.map_append]
        rfl
    · rintro Hz ⟨ez, hD⟩
      have eHz : Same Hx Hz := sT.trans ez
      refine ⟨D, _, rfl, SqL.of hD, _, rfl, ?_⟩
      have hl : (List.map V.str th).length = th.length := List.length_map ..
      rw [hl, List.take_length]
      refine ite2 (fun ha => ?_) (fun hna => ?_)
      · have hall : ∀ g ∈ th, (look r g).isSome = true := fun g hg => by
          have := List.all_eq_true.mp ha _ (List.mem_map_of_mem (f := fun f => (look r f).isSome) hg)
          exact this
        obtain ⟨vs, v1, v2, v3⟩ := vals_some hall
        sizeOf_list_dec
        rename_i D2 fD2
        refine lc_tup (K := K) (a := a) (xs := th.map V.str) (fun j Hw => Hold (Same Hz Hw ∧ Hw D2 = some (.lst ((vs.take j).map V.str)))) ⟨same_new fD2 _, upd_same⟩ (fun j Hw _ h => Same.tup (eHz.trans h.h.1) ht4) ?_ ?_
        · rintro j x Hw hj ⟨ew, hw⟩
          obtain ⟨n, hn, rfl⟩ := str_get hj
          obtain ⟨y, y1, y2⟩ := v3 j n hn
          have hd4 := ew _ _ (eHz _ _ hd2)
          refine ⟨rfl, _, rfl, _, rfl, d, .str y, rfl, .inl ⟨rowK r, Sum.inr n, .inl hd4, rfl, by rw [look_rowK, y2]; rfl⟩, _, hw, ?_, ⟨Same.mut ew fD2 _, ?_⟩⟩
          · rw [List.length_map, List.length_take]
            exact small' (by omega)
          · rw [upd_same, List.take_add_one, y1, List.map_append]
            rfl
        · rintro Hw ⟨ew, hw⟩
          have hl2 : vs.take (th.map V.str).length = vs := by rw [hl, ← v2, List.take_length]
          rw [hl2] at hw
          refine ⟨D2, vs.map V.str, rfl, .inl ⟨SqL.of hw, fun Tu fTu => ⟨(by show 2 ≤ sizeLine; decide), fun Tk fTk => ?_⟩⟩⟩
          have e2 := eHz.trans ew
          have s2 := same_new fTu (.tup (vs.map V.str))
          have s3 := same_new fTk (.tup [V.int (i : Nat), V.ref Tu])
          have e3 := e2.trans (s2.trans s3)
          have hTu := s3 _ _ (show upd Hw Tu (.tup (vs.map V.str)) Tu = _ from upd_same)
          refine ⟨m, Tk, mkD (marks r 0 (L.things.take i)), mkey i vs, rfl, rfl, ND.mono e3 nd, .tup (SqT.of upd_same) (.cons (.int _) (.cons (.tup (SqT.of hTu) (nvs_str vs)) .nil)), mkey_depth, ?_, fun o ho => ?_⟩
          · have := marks_len (r := r) (n := 0) (ths := L.things.take i)
            rw [List.length_take] at this
            unfold mkD
            rw [List.length_map]
            omega
          · have hlt2 : (L.things.take i).length = i := by rw [List.length_take]; omega
            have hnm : mkey i vs ∉ marks r 0 (L.things.take i) := by
              have := marks_new (r := r) (n := 0) (ths := L.things.take i) (vs := vs)
              rwa [hlt2, Nat.zero_add] at this
            have hnd := ho _ (fun c u n q => by rw [upd_ne n]; exact q) upd_same
            rw [mkD_put hnm] at hnd
            refine ⟨fun b u q => ?_, ?_, _, _, _, rfl⟩
            · rw [upd_ne (ne_of_none q fm)]
              exact e3 _ _ (e _ _ q)
            · rw [List.take_add_one, h3', marks_app, hlt2]
              show ND P w K _ m (mkD (marks r 0 (L.things.take i) ++ marks r (0 + i) [th]))
              rw [marks_one, v1, Nat.zero_add]
              exact hnd
      · refine ⟨e.trans eHz, ?_, _, _, _, rfl⟩
        have hv : vals r th = none := by
          refine vals_none ?_
          refine Classical.byContradiction fun hc => hna ?_
          rw [List.all_eq_true]
          intro b hb
          obtain ⟨g, hg, rfl⟩ := List.mem_map.mp hb
          cases e5 : look r g with
          | none => exact absurd ⟨g, hg, e5⟩ hc
          | some y => rfl
        rw [List.take_add_one, h3', marks_app]
        show ND P w K _ m (mkD (marks r 0 (L.things.take i) ++ marks r _ [th]))
        rw [marks_one, hv, List.append_nil]
        exact ND.mono eHz nd
  · rintro σ Hx ⟨e, nd, u, v, z, rfl⟩
    refine ⟨_, rfl, k _ _ fm ?_ e⟩
    rw [List.length_map, hlt, List.take_length] at nd
    exact nd
end
end Bl

namespace Bl
open PySem L2
open SX (S)
/-! short words: array_get_dec closes a side condition; array_mem_dec goes one step into a reading; sizeOf_list_dec goes on while it can -/
local macro_rules | `(tactic| array_get_dec) => `(tactic| first
  | (with_reducible assumption)
  | ((with_reducible apply Bl.gEq); first
    | rfl
    | assumption
    | exact upd_same
    | (with_reducible exact kit_d some_str)
    | (with_reducible exact kit_d some_int)
    | (with_reducible exact kit_d some_bool)
    | (with_reducible exact kit_d some_list)
    | (with_reducible exact kit_d some_tuple)
    | ((with_reducible apply Bl.get_new); assumption; array_get_dec)
    | ((with_reducible apply Bl.get_tr); assumption; array_get_dec)
    )
  | ((with_reducible apply Bl.gLe); first
    | omega
    | exact small (by omega)
    | exact small (by simp only [List.length_cons, List.length_nil]; decide)
    | exact small (by simp only [List.length_append, List.length_cons, List.length_nil]; omega)
    | decide)
  | ((with_reducible apply Bl.gLt); first
    | omega
    | exact small' (by omega)
    | exact small' (by simp only [List.length_cons, List.length_nil]; decide)
    | decide)
  | ((fail_if_success (with_reducible apply Bl.gEq)); (fail_if_success (with_reducible apply Bl.gLe)); (fail_if_success (with_reducible apply Bl.gLt)); first
    | assumption
    | exact SqL.of upd_same
    | exact SqT.of upd_same
    | ((with_reducible apply SqL.of); assumption)
    | ((with_reducible apply SqT.of); assumption)
    | exact Same.refl _
    | exact .ty _
    | exact .str _
    | exact .int _
    | exact ⟨_, rfl⟩
    | ((with_reducible apply Dp.ty); assumption)
    | ((with_reducible apply Bl.seq_new); assumption; array_get_dec)
    | ((with_reducible apply Bl.tup_new); assumption; array_get_dec)
    | ((with_reducible apply Bl.dp_new); assumption; array_get_dec)
    | ((with_reducible apply Bl.dpa_new); assumption; array_get_dec)
    | ((with_reducible apply Bl.same_nw); assumption; array_get_dec)
    | ((with_reducible apply Bl.seq_tr); assumption; array_get_dec)
    | ((with_reducible apply Bl.tup_tr); assumption; array_get_dec)
    | ((with_reducible apply Bl.dp_tr); assumption; array_get_dec)
    | ((with_reducible apply Bl.dpa_tr); assumption; array_get_dec)
    | ((with_reducible apply Bl.same_tr); assumption; array_get_dec)
    | ((with_reducible apply Dp.ty); assumption)
    | ((with_reducible apply Dp.ty); array_get_dec)
    | ((with_reducible refine Or.inl ?_); array_get_dec)
    | ((with_reducible refine Or.inr ?_); array_get_dec)
    | ((with_reducible apply Bl.gEx); array_get_dec)))
local macro_rules | `(tactic| array_mem_dec) => `(tactic| first
  | ((with_reducible apply Bl.gIte); first
    | (refine Bl.gT (by rfl) ?_)
    | (refine Bl.gF (by rfl) ?_))
  | ((fail_if_success (with_reducible apply Bl.gIte)); (fail_if_success (with_reducible apply Bl.gLoop)); (fail_if_success (with_reducible apply Bl.gComp)); (fail_if_success (with_reducible apply Bl.gWhile)); first
    | (with_reducible intro _ _)
    | (with_reducible intro _)
    | (refine And.intro (by array_get_dec) ?_)
    | (apply Bl.gEx)
    | (refine Or.inl (And.intro (by array_get_dec) ?_))
    | (refine Or.inr (And.intro (by array_get_dec) ?_))
    | (refine Or.inl ⟨_, by array_get_dec, ?_⟩)
    | (refine Or.inr ⟨_, by array_get_dec, ?_⟩)
    ))
local macro_rules | `(tactic| sizeOf_list_dec) => `(tactic| repeat array_mem_dec)

abbrev n_Ledger_offer : List Str := ["self", "row", "marks", "alike", "learns", "judges", "number", "elder"]
theorem sc_Ledger_offer : FnScope n_Ledger_offer ["self", "row"] (defScope s_Ledger_offer) := ⟨rfl, rfl, rfl, by decide +kernel, rfl, by decide +kernel, by decide +kernel⟩
/-- a ledger as it must be -/
structure LGood (L : LSt) : Prop where
  th : ∀ t ∈ L.things, ThV t
  t4 : L.things.length ≤ 4
  ro : ∀ r ∈ L.rows, RowV r ∧ (r.map (·.1)).Nodup
  si : ∀ z ∈ L.sides, lotB z = true
  ln : L.sides.length = L.rows.length
  mx : L.rows.length ≤ 200
def lrn (L : LSt) (r : Row) : Option Nat := (inLot L.sides "learn" (alikes L.things L.rows r)).head?
def jdg (L : LSt) (r : Row) : Option Nat := (inLot L.sides "judge" (alikes L.things L.rows r)).head?
@[irreducible] def spOffer {K : PySem.W.Frag} {mg : Str → Option Value} (T : Top K mg) : Sp := fun vs H Q E => ∃ (p d : Addr) (f : LFt) (L : LSt) (r : Row), vs = [.ref p, .ref d] ∧ LedAt K T.C_Ledger H p f L ∧ LGood L ∧ LRowOk H d r ∧ RowV r ∧ (r.map (·.1)).Nodup ∧
  match lrn L r, jdg L r with
  | some a, some b => ∀ cls e H', Rsd K T.C_LotsError T.C_Missing T.C_NothingLeft H' cls e ("Torn", ["one", "other"]) [.int (a : Nat), .int (b : Nat)] → Same H H' → E cls e H'
  | some _, none => ∀ H', Same H H' → Q (.str "learn") H'
  | none, some _ => ∀ H', Same H H' → Q (.str "judge") H'
  | none, none => ∀ H', Same H H' → Q .non H'
section
variable {P : Program} {w : World} {K : PySem.W.Frag} {mg : Str → Option Value} {base : Heap}
theorem isrow_go {K : PySem.W.Frag} {t : Addr} {r : Row} {H : Hp} {Q : VK} {E : XK} (h : LRowOk H t r) (g : RowV r) (nd : (r.map (·.1)).Nodup) (k : ∀ H', Same H H' → Q (.bl true) H') : spIsRow K [.ref t] H Q E := by
  unfold spIsRow
  exact ⟨t, r, rfl, h, g, nd, k⟩
theorem hasone_go {a b : Addr} {ms os : List NestedKey} {H : Hp} {Q : VK} {E : XK} (n : a ≠ b) (h1 : ND P w K H a (mkD ms)) (h2 : ND P w K H b (mkD os)) (h3 : ms.length ≤ 4) (k : ∀ H', Same H H' → Q (.bl (ms.any fun m => decide (m ∈ os))) H') : spHasOne P w K [.ref a, .ref b] H Q E := by
  unfold spHasOne
  exact ⟨a, b, ms, os, rfl, n, h1, h2, by omega, k⟩
theorem alikes_len {ths : List (List Str)} {rows : List Row} {w : Row} : (alikes ths rows w).length ≤ rows.length := by
  unfold alikes
  have := List.length_filter_le (fun i => match rows[i]? with | some e => meet ths e w | none => false) (List.range rows.length)
  rw [List.length_range] at this
  exact this
theorem alikes_mem {ths : List (List Str)} {rows : List Row} {w : Row} : ∀ i ∈ alikes ths rows w, i < rows.length := fun i h => List.mem_range.mp (List.mem_filter.mp h).1
theorem alikes_step {ths : List (List Str)} {rows : List Row} {w e : Row} {i : Nat} (h : rows[i]? = some e) : alikes ths (rows.take (i + 1)) w = alikes ths (rows.take i) w ++ if meet ths e w = true then [i] else [] := by
  have hi : i < rows.length := (List.getElem?_eq_some_iff.mp h).1
  unfold alikes
  rw [List.length_take, List.length_take, Nat.min_eq_left (show i + 1 ≤ rows.length by omega), Nat.min_eq_left (show i ≤ rows.length by omega), List.range_succ, List.filter_append]
  congr 1
  · refine List.filter_congr fun j hj => ?_
    have hj := List.mem_range.mp hj
    rw [List.getElem?_take_of_lt (by omega), List.getElem?_take_of_lt hj]
  · rw [List.filter_cons, List.getElem?_take_of_lt (Nat.lt_succ_self i), h]
    rfl
theorem nat_get {is : List Nat} {i : Nat} {x : V} (h : (is.map fun j => V.int (j : Nat))[i]? = some x) : ∃ n, is[i]? = some n ∧ x = V.int (n : Nat) := by
  rw [List.getElem?_map] at h
  cases e : is[i]? with
  | none => rw [e] at h; cases h
  | some a =>
    rw [e] at h
    exact ⟨a, rfl, (Option.some.inj h).symm⟩
theorem inLot_len {sides : List Str} {z : Str} {is : List Nat} : (inLot sides z is).length ≤ is.length := List.length_filter_le ..
theorem inLot_step {sides : List Str} {z : Str} {is : List Nat} {j n : Nat} (h : is[j]? = some n) : inLot sides z (is.take (j + 1)) = inLot sides z (is.take j) ++ if decide (sides[n]? = some z) = true then [n] else [] := by
  unfold inLot
  rw [List.take_add_one, h, List.filter_append]
  show _ ++ List.filter _ [n] = _
  rw [List.filter_cons]
  rfl
theorem lcase : ∀ xs : List Nat, xs = [] ∨ ∃ a as, xs = a :: as
  | [] => .inl rfl
  | a :: as => .inr ⟨a, as, rfl⟩
theorem len_pos {xs : List Nat} {a : Nat} {as : List Nat} (h : xs = a :: as) : decide ((((xs.map fun j => V.int (j : Nat)).length : Nat) : Int) > 0) = true := by
  subst h
  rw [List.map_cons, List.length_cons]
  exact decide_eq_true (by omega)
theorem len_zero {xs : List Nat} (h : xs = []) : decide ((((xs.map fun j => V.int (j : Nat)).length : Nat) : Int) > 0) = false := by
  subst h
  rfl
theorem at_head {xs : List Nat} {a : Nat} {as : List Nat} (h : xs = a :: as) : atI (xs.map fun j => V.int (j : Nat)) 0 = some (V.int (a : Nat)) := by
  subst h
  exact atI_nat (j := 0) rfl
theorem marks_go {C p d : Addr} {f : LFt} {L : LSt} {r : Row} {H : Hp} {Q : VK} {E : XK} (L0 : LedAt K C H p f L) (g : LGood L) (h : LRowOk H d r)
    (k : ∀ (m : Addr) (H' : Hp), H m = none → ND P w K H' m (mkD (marks r 0 L.things)) → Same H H' → Q (.ref m) H') : spMarks P w K C [.ref p, .ref d] H Q E := by
  unfold spMarks
  exact ⟨p, d, f, L, r, rfl, L0, h, fun th ht => (g.th th ht).hi, g.t4, k⟩
theorem ok_Ledger_offer (T : Top K mg) : FnOk P w K mg base (L2.CX P w) 8 T.a_Ledger_offer T.d_Ledger_offer ["self", "row"] (spOffer T) := by
  refine T.F_Ledger_offer.okX sc_Ledger_offer (fun vs H Q E h => ?_) (fun cdv A outer s H vs Q E hr h => ?_)
  · unfold spOffer at h
    obtain ⟨p, d, f, L, r, rfl, _⟩ := h
    rfl
  unfold spOffer at h
  obtain ⟨p, d, f, L, r, rfl, L0, g, hd, hw, nd, k⟩ := h
  have hcl := T.cl_Ledger
  have hn1 := T.n_Ledger__rows
  have hn2 := T.n_Ledger__sides
  obtain ⟨rs, hro, hrs⟩ := L0.ro
  have hlen := pr_len hrs
  have hsi := L0.si
  have hins := L0.ins
  have hlk := f.lkR
  have hlkS := f.lkS
  have hlm : f.fs.lookup ("_marks_of" : Str) = none := LFt.lkN (by decide +kernel)
  refine ⟨_, (pss_cons (ps_if (pt_not (pt_val (pe_call (ok_is_row T) (hr.mono (by decide)) rfl T.m_is_row T.F_is_row.kp T.b_is_row .nil pass0 (pa_cons (pv 1) pa_nil)))) (pss_one (ps_raise rfl takes_ok (pmk_xc T.x_InvalidRow T.iC_InvalidRow T.tI_InvalidRow (oki_InvalidRow T) (hr.mono (by decide)) T.bi_InvalidRow pass0 rfl T.mc_InvalidRow (pa_cons pe_str (pa_cons (pe_callB call_len_seq (by rfl) T.z_len (by decide +kernel) (pa_cons (pe_fld (pv 0) rfl) pa_nil)) pa_nil))))) pss_nil)
    (pss_cons (ps_set (i := 2) sc_Ledger_offer.nd rfl (Or.inr rfl) (pe_meth (pv 0) T.cl_Ledger T.M_Ledger__marks_of (ok_Ledger__marks_of (P := P) (w := w) (base := base) T) (hr.mono (by decide)) T.b_Ledger__marks_of .nil pass0 (pa_cons (pv 1) pa_nil)))
    (pss_cons (ps_setLc (i := 3) (own := [("number", 6), ("elder", 7)]) (g := gTup K 2 (gCons (gName 6) (gCons (gName 7) gNil))) rfl sc_Ledger_offer.nd rfl rfl (sw_true rfl rfl rfl (by decide +kernel)) (pi_enum (by rfl) T.z_enumerate (pa_cons (pe_fld (pv 0) rfl) pa_nil)) (blkOk_by (own := [("number", 6), ("elder", 7)]) (N := n_Ledger_offer) (sc := defScope s_Ledger_offer) (by decide +kernel)) (fun _ _ _ _ _ => by exact (pg_tup rfl (pgs_cons (pg_name (i := 6) sc_Ledger_offer.nd rfl (Or.inl rfl)) (pgs_cons (pg_name (i := 7) sc_Ledger_offer.nd rfl (Or.inl rfl)) pgs_nil)))) (fun _ _ _ _ _ => (pts_one (pt_val (pe_call (ok_has_one (P := P) (w := w) (base := base) T) (hr.mono (by decide)) rfl T.m_has_one T.F_has_one.kp T.b_has_one .nil pass0 (pa_cons (pe_meth (pv 0) T.cl_Ledger T.M_Ledger__marks_of (ok_Ledger__marks_of (P := P) (w := w) (base := base) T) (hr.mono (by decide)) T.b_Ledger__marks_of .nil pass0 (pa_cons (pv 7) pa_nil)) (pa_cons (pv 2) pa_nil)))))) (fun _ _ _ _ _ => (pv 6)))
    (pss_cons (ps_setLc (i := 4) (own := [("number", 6)]) (g := gName 6) rfl sc_Ledger_offer.nd rfl rfl (sw_true rfl rfl rfl (by decide +kernel)) (pi_list (pv 3)) (blkOk_by (own := [("number", 6)]) (N := n_Ledger_offer) (sc := defScope s_Ledger_offer) (by decide +kernel)) (fun _ _ _ _ _ => (pg_name (i := 6) sc_Ledger_offer.nd rfl (Or.inl rfl))) (fun _ _ _ _ _ => (pts_one (pt_cmpR op_eq (pe_ix (r := rIxL K) ix_list (pe_fldC (K := K) rfl (pv 0)) (pv 6) (fun _ _ => rfl)) (pe_ix (r := rIxT K) ix_tup (pe_glob rfl T.c_LOTS T.r_LOTS) pe_int (fun _ _ => rfl)) (nomark _)))) (fun _ _ _ _ _ => (pv 6)))
    (pss_cons (ps_setLc (i := 5) (own := [("number", 6)]) (g := gName 6) rfl sc_Ledger_offer.nd rfl rfl (sw_true rfl rfl rfl (by decide +kernel)) (pi_list (pv 3)) (blkOk_by (own := [("number", 6)]) (N := n_Ledger_offer) (sc := defScope s_Ledger_offer) (by decide +kernel)) (fun _ _ _ _ _ => (pg_name (i := 6) sc_Ledger_offer.nd rfl (Or.inl rfl))) (fun _ _ _ _ _ => (pts_one (pt_cmpR op_eq (pe_ix (r := rIxL K) ix_list (pe_fldC (K := K) rfl (pv 0)) (pv 6) (fun _ _ => rfl)) (pe_ix (r := rIxT K) ix_tup (pe_glob rfl T.c_LOTS T.r_LOTS) pe_int (fun _ _ => rfl)) (nomark _)))) (fun _ _ _ _ _ => (pv 6)))
    (pss_cons (ps_if (PW.pt (pw_and (pt_cmpR op_gt (pe_callB call_len_seq (by rfl) T.z_len (by decide +kernel) (pa_cons (pv 4) pa_nil)) pe_int (nomark _)) (pw_and1 (pt_cmpR op_gt (pe_callB call_len_seq (by rfl) T.z_len (by decide +kernel) (pa_cons (pv 5) pa_nil)) pe_int (nomark _))))) (pss_one (ps_raise rfl takes_ok (pmk_xc T.x_Torn T.iC_Torn T.tI_Torn (oki_Torn T) (hr.mono (by decide)) T.bi_Torn pass0 rfl T.mc_Torn (pa_cons (pe_ix ix_list (pv 4) pe_int (fun _ _ => rfl)) (pa_cons (pe_ix ix_list (pv 5) pe_int (fun _ _ => rfl)) pa_nil))))) pss_nil)
    (pss_one (ps_ret (pe_ifExp (pt_cmpR op_gt (pe_callB call_len_seq (by rfl) T.z_len (by decide +kernel) (pa_cons (pv 3) pa_nil)) pe_int (nomark _)) (pe_ix ix_list (pe_fld (pv 0) rfl) (pe_ix ix_list (pv 3) pe_int (fun _ _ => rfl)) (fun _ _ => rfl)) pe_non))))))))), ?_⟩
  sizeOf_list_dec
  refine isrow_go hd hw nd fun H1 s1 => ?_
  sizeOf_list_dec
  refine marks_go (L0.mono s1) g (hd.mono s1) fun m H2 fm hm s2 => ?_
  have s12 := s1.trans s2
  have hins2 := s12 _ _ hins
  have hro2 := s12 _ _ hro
  have hsi2 := s12 _ _ hsi
  sizeOf_list_dec
  rename_i D1 f1
  have hm0 := hm.2
  refine lc_it (walk_enum (K := K) (a := f.ro) (xs := rs.map V.ref)) (fun i Hx => Hold (Same H2 Hx ∧ Hx D1 = some (.lst (((alikes L.things (L.rows.take i) r)).map fun j => V.int (j : Nat))))) ⟨same_new f1 _, upd_same⟩ (fun i Hx _ h => SqL.of (h.h.1 _ _ hro2)) ?_ ?_
  · rintro i x Hx Hy hi ⟨e, hD⟩ ⟨Tp, y1, y2, rfl, fT, rfl, h1, h2⟩
    obtain rfl : V.int (i : Nat) = y1 := Option.some.inj h1
    obtain ⟨a, ha, rfl⟩ := ref_get h2
    obtain ⟨w1, h3, h4⟩ := pr_get hrs ha
    have il : i < L.rows.length := (List.getElem?_eq_some_iff.mp h3).1
    sizeOf_list_dec
    have sT := same_new fT (.tup [V.int (i : Nat), V.ref a])
    have e3 := s12.trans (e.trans sT)
    refine marks_go (L0.mono e3) g (LRowOk.mono e3 h4) fun m1 H3 fm1 hm1 s3 => ?_
    sizeOf_list_dec
    have hmT : ND P w K _ m (mkD (marks r 0 L.things)) := ND.mono (e.trans sT) hm
    have nm : m1 ≠ m := fun q => by
      obtain ⟨o, ho⟩ : ∃ o, upd Hx Tp (.tup [V.int (i : Nat), V.ref a]) m = some o := ⟨_, hmT.2.choose_spec.1⟩
      rw [q, ho] at fm1
      cases fm1
    refine hasone_go nm hm1 (ND.mono s3 hmT) (Nat.le_trans marks_len (by have := g.t4; omega)) fun H4 s4 => ?_
    rw [has_one]
    have eH4 : Same Hx H4 := sT.trans (s3.trans s4)
    have hal := alikes_step (ths := L.things) (w := r) h3
    refine ⟨_, rfl, ite2 (fun hy => ?_) (fun hn => ?_)⟩
    · rw [if_pos hy] at hal
      refine ⟨_, rfl, _, eH4 _ _ hD, ?_, ⟨Same.mut (e.trans eH4) f1 _, ?_⟩⟩
      · rw [List.length_map]
        have := alikes_len (ths := L.things) (rows := L.rows.take i) (w := r)
        rw [List.length_take] at this
        have := g.mx
        exact small' (by omega)
      · rw [upd_same, hal, List.map_append]
        rfl
    · rw [if_neg hn, List.append_nil] at hal
      refine ⟨e.trans eH4, ?_⟩
      rw [hal]
      exact eH4 _ _ hD
  rintro Hx ⟨e1, hD1⟩
  have hrl : (rs.map V.ref).length = L.rows.length := by rw [List.length_map, hlen]
  rw [hrl, List.take_length] at hD1
  have hal := alikes_len (ths := L.things) (rows := L.rows) (w := r)
  have hmem := alikes_mem (ths := L.things) (rows := L.rows) (w := r)
  unfold lrn jdg at k
  generalize alikes L.things L.rows r = als at *
  have hsi3 := e1 _ _ hsi2
  have hins3 := e1 _ _ hins2
  have hmx := g.mx
  have hlots := T.q_LOTS Hx
  sizeOf_list_dec
  rename_i D2 f2
  refine lc_list (K := K) (a := D1) (xs := als.map fun j => V.int (j : Nat)) (fun j Hy => Hold (Same Hx Hy ∧ Hy D2 = some (.lst ((inLot L.sides "learn" (als.take j)).map fun j => V.int (j : Nat))))) ⟨same_new f2 _, upd_same⟩ (fun j Hy _ h => SqL.of (h.h.1 _ _ hD1)) ?_ ?_
  · rintro j x Hy hj ⟨e2, hD⟩
    obtain ⟨n, hn, rfl⟩ := nat_get hj
    have jl : j < als.length := (List.getElem?_eq_some_iff.mp hn).1
    have hnl := hmem n (List.mem_of_getElem? hn)
    obtain ⟨z, hz⟩ : ∃ z, L.sides[n]? = some z := ⟨_, List.getElem?_eq_getElem (by rw [g.ln]; exact hnl)⟩
    have hat : atI (L.sides.map V.str) ((n : Nat) : Int) = some (.str z) := atI_nat (by rw [List.getElem?_map, hz]; rfl)
    have hlots2 := T.q_LOTS Hy
    have hl2 : atI ([.str "learn", .str "judge"] : List V) 0 = some (.str "learn") := rfl
    have hinsy := e2 _ _ hins3
    have hsiy := e2 _ _ hsi3
    have hst := inLot_step (sides := L.sides) (z := "learn") hn
    rw [hz] at hst
    sizeOf_list_dec
    refine ite2 (fun hy => ?_) (fun hn => ?_)
    · have hy : z = "learn" := V.str.inj (of_decide_eq_true hy)
      rw [hy, decide_eq_true rfl, if_pos rfl] at hst
      refine ⟨_, rfl, _, hD, ?_, ⟨Same.mut e2 f2 _, ?_⟩⟩
      · rw [List.length_map]
        have := inLot_len (sides := L.sides) (z := "learn") (is := als.take j)
        rw [List.length_take] at this
        exact small' (by omega)
      · rw [upd_same, hst, List.map_append]
        rfl
    · have hn : ¬ (some z = some ("learn" : Str)) := fun q => hn (by rw [Option.some.inj q]; exact decide_eq_true rfl)
      rw [decide_eq_false hn, if_neg (fun q => by cases q), List.append_nil] at hst
      refine ⟨e2, ?_⟩
      rw [hst]
      exact hD
  have hal2 : (als.map fun j => V.int (j : Nat)).length = als.length := List.length_map ..
  rintro Hy2 ⟨e2, hD2⟩
  rw [hal2, List.take_length] at hD2
  have hD1y := e2 _ _ hD1
  have hins4 := e2 _ _ hins3
  have hsi4 := e2 _ _ hsi3
  have hlots3 := T.q_LOTS Hy2
  sizeOf_list_dec
  rename_i D3 f3
  refine lc_list (K := K) (a := D1) (xs := als.map fun j => V.int (j : Nat)) (fun j Hy => Hold (Same Hy2 Hy ∧ Hy D3 = some (.lst ((inLot L.sides "judge" (als.take j)).map fun j => V.int (j : Nat))))) ⟨same_new f3 _, upd_same⟩ (fun j Hy _ h => SqL.of (h.h.1 _ _ hD1y)) ?_ ?_
  · rintro j x Hy hj ⟨e3, hD⟩
    obtain ⟨n, hn, rfl⟩ := nat_get hj
    have jl : j < als.length := (List.getElem?_eq_some_iff.mp hn).1
    have hnl := hmem n (List.mem_of_getElem? hn)
    obtain ⟨z, hz⟩ : ∃ z, L.sides[n]? = some z := ⟨_, List.getElem?_eq_getElem (by rw [g.ln]; exact hnl)⟩
    have hat : atI (L.sides.map V.str) ((n : Nat) : Int) = some (.str z) := atI_nat (by rw [List.getElem?_map, hz]; rfl)
    have hlots2 := T.q_LOTS Hy
    have hl2 : atI ([.str "learn", .str "judge"] : List V) 1 = some (.str "judge") := rfl
    have hinsy := e3 _ _ hins4
    have hsiy := e3 _ _ hsi4
    have hst := inLot_step (sides := L.sides) (z := "judge") hn
    rw [hz] at hst
    sizeOf_list_dec
    refine ite2 (fun hy => ?_) (fun hn => ?_)
    · have hy : z = "judge" := V.str.inj (of_decide_eq_true hy)
      rw [hy, decide_eq_true rfl, if_pos rfl] at hst
      refine ⟨_, rfl, _, hD, ?_, ⟨Same.mut e3 f3 _, ?_⟩⟩
      · rw [List.length_map]
        have := inLot_len (sides := L.sides) (z := "judge") (is := als.take j)
        rw [List.length_take] at this
        exact small' (by omega)
      · rw [upd_same, hst, List.map_append]
        rfl
    · have hn : ¬ (some z = some ("judge" : Str)) := fun q => hn (by rw [Option.some.inj q]; exact decide_eq_true rfl)
      rw [decide_eq_false hn, if_neg (fun q => by cases q), List.append_nil] at hst
      refine ⟨e3, ?_⟩
      rw [hst]
      exact hD
  rintro Hz ⟨e3, hD3⟩
  rw [hal2, List.take_length] at hD3
  have hD2z := e3 _ _ hD2
  have hD1z := e3 _ _ hD1y
  have hinsz := e3 _ _ hins4
  have hsiz := e3 _ _ hsi4
  have sz : Same H Hz := s12.trans (e1.trans (e2.trans e3))
  have hsome : ∀ n ∈ als, L.sides[n]? = some ("learn" : Str) ∨ L.sides[n]? = some ("judge" : Str) := fun n hn => by
    have hnl := hmem n hn
    have hz := List.getElem?_eq_getElem (l := L.sides) (i := n) (by rw [g.ln]; exact hnl)
    rcases Bool.or_eq_true_iff.mp (g.si _ (List.getElem_mem (l := L.sides) (n := n) (by rw [g.ln]; exact hnl))) with q | q
    · exact .inl (by rw [hz, of_decide_eq_true q])
    · exact .inr (by rw [hz, of_decide_eq_true q])
  have ret : ∀ (a0 : Nat) (as : List Nat), als = a0 :: as → (L.sides[a0]? = some ("learn" : Str) ∧ (inLot L.sides "learn" als).head? = some a0) ∨ (L.sides[a0]? = some ("judge" : Str) ∧ (inLot L.sides "judge" als).head? = some a0) := fun a0 as e => by
    subst e
    rcases hsome a0 List.mem_cons_self with q | q
    · refine .inl ⟨q, ?_⟩
      unfold inLot
      rw [List.filter_cons, q, decide_eq_true rfl]
      rfl
    · refine .inr ⟨q, ?_⟩
      unfold inLot
      rw [List.filter_cons, q, decide_eq_true rfl]
      rfl
  generalize hls : inLot L.sides "learn" als = ls at *
  generalize hjs : inLot L.sides "judge" als = js at *
  have torn : ∀ (a b : Nat) (la lb : List Nat), ls = a :: la → js = b :: lb → ∀ cls e H', Rsd K T.C_LotsError T.C_Missing T.C_NothingLeft H' cls e ("Torn", ["one", "other"]) [.int (a : Nat), .int (b : Nat)] → Same H H' → E cls e H' := fun a b la lb e1 e2 => by
    rw [e1, e2] at k
    exact k
  have one : (ls = [] ∨ js = []) → ∀ (a0 : Nat) (as : List Nat), als = a0 :: as → ∃ z, L.sides[a0]? = some z ∧ Q (.str z) Hz := fun ho a0 as e => by
    rcases ret a0 as e with ⟨q1, q2⟩ | ⟨q1, q2⟩
    · refine ⟨_, q1, ?_⟩
      rcases ho with h | h
      · rw [h] at q2
        cases q2
      · rw [q2, h] at k
        exact k _ sz
    · refine ⟨_, q1, ?_⟩
      rcases ho with h | h
      · rw [q2, h] at k
        exact k _ sz
      · rw [h] at q2
        cases q2
  have two : als = [] → Q .non Hz := fun e => by
    rw [e] at hls hjs
    have h1 : ls = [] := by rw [← hls]; rfl
    have h2 : js = [] := by rw [← hjs]; rfl
    rw [h1, h2] at k
    exact k _ sz
  have fin : (ls = [] ∨ js = []) → ∀ {t : Prop}, ((als = [] → t) ∧ (∀ (a0 : Nat) (as : List Nat) (z : Str), als = a0 :: as → L.sides[a0]? = some z → Q (.str z) Hz → t)) → t := fun ho t ht => by
    cases e : als with
    | nil => exact ht.1 e
    | cons a0 as =>
      obtain ⟨z, q1, q2⟩ := one ho a0 as e
      exact ht.2 a0 as z e q1 q2
  sizeOf_list_dec
  rcases lcase ls with e | ⟨a, la, e⟩
  · refine iteFk (len_zero e) ?_
    sizeOf_list_dec
    refine fin (.inl e) ⟨fun e0 => ?_, fun a0 as z e0 q1 q2 => ?_⟩
    · refine iteFk (len_zero e0) ?_
      exact two e0
    · refine iteTk (len_pos e0) ?_
      have hath := at_head e0
      have hats : atI (L.sides.map V.str) ((a0 : Nat) : Int) = some (.str z) := atI_nat (by rw [List.getElem?_map, q1]; rfl)
      sizeOf_list_dec
      exact q2
  · refine iteTk (len_pos e) ?_
    sizeOf_list_dec
    rcases lcase js with e' | ⟨b, lb, e'⟩
    · refine iteFk (len_zero e') ?_
      sizeOf_list_dec
      refine fin (.inr e') ⟨fun e0 => ?_, fun a0 as z e0 q1 q2 => ?_⟩
      · refine iteFk (len_zero e0) ?_
        exact two e0
      · refine iteTk (len_pos e0) ?_
        have hath := at_head e0
        have hats : atI (L.sides.map V.str) ((a0 : Nat) : Int) = some (.str z) := atI_nat (by rw [List.getElem?_map, q1]; rfl)
        sizeOf_list_dec
        exact q2
    · refine iteTk (len_pos e') ?_
      have hatl := at_head e
      have hatj := at_head e'
      sizeOf_list_dec
      exact raise_full (G := Hz) (ys := [.int (a : Nat), .int (b : Nat)]) T.x_Torn T.xq_Torn (by decide +kernel) rfl fun cls e1 H'' r1 s1 => torn a b la lb e e' cls e1 H'' r1 (sz.trans s1)
end
end Bl

namespace Bl
open PySem L2
open SX (S)
/-! short words: array_get_dec closes a side condition; array_mem_dec goes one step into a reading; sizeOf_list_dec goes on while it can -/
local macro_rules | `(tactic| array_get_dec) => `(tactic| first
  | (with_reducible assumption)
  | ((with_reducible apply Bl.gEq); first
    | rfl
    | assumption
    | exact upd_same
    | (with_reducible exact kit_d some_str)
    | (with_reducible exact kit_d some_int)
    | (with_reducible exact kit_d some_bool)
    | (with_reducible exact kit_d some_list)
    | (with_reducible exact kit_d some_tuple)
    | ((with_reducible apply Bl.get_new); assumption; array_get_dec)
    | ((with_reducible apply Bl.get_tr); assumption; array_get_dec)
    )
  | ((with_reducible apply Bl.gLe); first
    | omega
    | exact small (by omega)
    | exact small (by simp only [List.length_cons, List.length_nil]; decide)
    | exact small (by simp only [List.length_append, List.length_cons, List.length_nil]; omega)
    | decide)
  | ((with_reducible apply Bl.gLt); first
    | omega
    | exact small' (by omega)
    | exact small' (by simp only [List.length_cons, List.length_nil]; decide)
    | decide)
  | ((fail_if_success (with_reducible apply Bl.gEq)); (fail_if_success (with_reducible apply Bl.gLe)); (fail_if_success (with_reducible apply Bl.gLt)); first
    | assumption
    | exact SqL.of upd_same
    | exact SqT.of upd_same
    | ((with_reducible apply SqL.of); assumption)
    | ((with_reducible apply SqT.of); assumption)
    | exact Same.refl _
    | exact .ty _
    | exact .str _
    | exact .int _
    | exact ⟨_, rfl⟩
    | ((with_reducible apply Dp.ty); assumption)
    | ((with_reducible apply Bl.seq_new); assumption; array_get_dec)
    | ((with_reducible apply Bl.tup_new); assumption; array_get_dec)
    | ((with_reducible apply Bl.dp_new); assumption; array_get_dec)
    | ((with_reducible apply Bl.dpa_new); assumption; array_get_dec)
    | ((with_reducible apply Bl.same_nw); assumption; array_get_dec)
    | ((with_reducible apply Bl.seq_tr); assumption; array_get_dec)
    | ((with_reducible apply Bl.tup_tr); assumption; array_get_dec)
    | ((with_reducible apply Bl.dp_tr); assumption; array_get_dec)
    | ((with_reducible apply Bl.dpa_tr); assumption; array_get_dec)
    | ((with_reducible apply Bl.same_tr); assumption; array_get_dec)
    | ((with_reducible apply Dp.ty); assumption)
    | ((with_reducible apply Dp.ty); array_get_dec)
    | ((with_reducible refine Or.inl ?_); array_get_dec)
    | ((with_reducible refine Or.inr ?_); array_get_dec)
    | ((with_reducible apply Bl.gEx); array_get_dec)))
local macro_rules | `(tactic| array_mem_dec) => `(tactic| first
  | ((with_reducible apply Bl.gIte); first
    | (refine Bl.gT (by rfl) ?_)
    | (refine Bl.gF (by rfl) ?_))
  | ((fail_if_success (with_reducible apply Bl.gIte)); (fail_if_success (with_reducible apply Bl.gLoop)); (fail_if_success (with_reducible apply Bl.gComp)); (fail_if_success (with_reducible apply Bl.gWhile)); first
    | (with_reducible intro _ _)
    | (with_reducible intro _)
    | (refine And.intro (by array_get_dec) ?_)
    | (apply Bl.gEx)
    | (refine Or.inl (And.intro (by array_get_dec) ?_))
    | (refine Or.inr (And.intro (by array_get_dec) ?_))
    | (refine Or.inl ⟨_, by array_get_dec, ?_⟩)
    | (refine Or.inr ⟨_, by array_get_dec, ?_⟩)
    ))
local macro_rules | `(tactic| sizeOf_list_dec) => `(tactic| repeat array_mem_dec)

abbrev n_Ledger_tally : List Str := ["self", "lot"]
theorem sc_Ledger_tally : FnScope n_Ledger_tally ["self", "lot"] (defScope s_Ledger_tally) := ⟨rfl, rfl, rfl, by decide +kernel, rfl, by decide +kernel, by decide +kernel⟩
abbrev n_Ledger__emptier : List Str := ["self"]
theorem sc_Ledger__emptier : FnScope n_Ledger__emptier ["self"] (defScope s_Ledger__emptier) := ⟨rfl, rfl, rfl, by decide +kernel, rfl, by decide +kernel, by decide +kernel⟩
abbrev n_Ledger_add : List Str := ["self", "row", "side", "due", "taken"]
theorem sc_Ledger_add : FnScope n_Ledger_add ["self", "row", "side"] (defScope s_Ledger_add) := ⟨rfl, rfl, rfl, by decide +kernel, rfl, by decide +kernel, by decide +kernel⟩
def emptier (ss : List Str) : Str := if ss.count ("judge" : Str) < ss.count ("learn" : Str) then "judge" else "learn"
inductive AddR where
  | full
  | torn (a b : Nat)
  | taken (z : Str)
  | ok (z : Str)
def dueR (z : Str) : Option Str → AddR
  | none => .ok z
  | some y => if y = z then .ok z else .taken z
def freeR (L : LSt) : Option Str → Str
  | none => emptier L.sides
  | some z => z
def tornOf (L : LSt) (r : Row) : Option (Nat × Nat) := match lrn L r, jdg L r with
  | some a, some b => some (a, b)
  | _, _ => none
def dueOf (L : LSt) (r : Row) : Option Str := match lrn L r, jdg L r with
  | some _, _ => some "learn"
  | none, some _ => some "judge"
  | none, none => none
def dueA (L : LSt) (r : Row) (sd : Option Str) : AddR := match dueOf L r with
  | some z => dueR z sd
  | none => .ok (freeR L sd)
def addR (L : LSt) (r : Row) (sd : Option Str) : AddR := if 200 ≤ L.rows.length then .full else
  match tornOf L r with
  | some (a, b) => .torn a b
  | none => dueA L r sd
def sdV : Option Str → V
  | none => .non
  | some z => .str z
@[irreducible] def spTally (K : PySem.W.Frag) (C : Addr) : Sp := fun vs H Q _ => ∃ (p : Addr) (z : Str) (f : LFt) (L : LSt), vs = [.ref p, .str z] ∧ lotB z = true ∧ LedAt K C H p f L ∧ Q (.int (L.sides.count z : Nat)) H
@[irreducible] def spEmptier (K : PySem.W.Frag) (C : Addr) : Sp := fun vs H Q _ => ∃ (p : Addr) (f : LFt) (L : LSt), vs = [.ref p] ∧ LedAt K C H p f L ∧ Q (.str (emptier L.sides)) H
@[irreducible] def spAdd {K : PySem.W.Frag} {mg : Str → Option Value} (T : Top K mg) : Sp := fun vs H Q E => ∃ (p d : Addr) (f : LFt) (L : LSt) (r : Row) (sd : Option Str), vs = [.ref p, .ref d, sdV sd] ∧ (∀ z, sd = some z → lotB z = true) ∧ LedAt K T.C_Ledger H p f L ∧ LGood L ∧ LRowOk H d r ∧ RowV r ∧ (r.map (·.1)).Nodup ∧
  match addR L r sd with
  | .full => ∀ cls e H', Rsd K T.C_LotsError T.C_Missing T.C_NothingLeft H' cls e ("Full", ["most"]) [.int 200] → Same H H' → E cls e H'
  | .torn a b => ∀ cls e H', Rsd K T.C_LotsError T.C_Missing T.C_NothingLeft H' cls e ("Torn", ["one", "other"]) [.int (a : Nat), .int (b : Nat)] → Same H H' → E cls e H'
  | .taken z => ∀ cls e H', Rsd K T.C_LotsError T.C_Missing T.C_NothingLeft H' cls e ("SideTaken", ["taken"]) [.str z] → Same H H' → E cls e H'
  | .ok z => ∀ (au : Addr) (H' : Hp), LedAt K T.C_Ledger H' p { f with un := au } ⟨L.things, L.rows ++ [r], L.sides ++ [z], []⟩ → Fr (f.wr p) H H' → H au = none → (LedAt K T.C_Ledger (hide d H) p f L → LedAt K T.C_Ledger (hide d H') p { f with un := au } ⟨L.things, L.rows ++ [r], L.sides ++ [z], []⟩) → Q (.str z) H'
section
variable {P : Program} {w : World} {K : PySem.W.Frag} {mg : Str → Option Value} {base : Heap}
theorem lot_in {z : Str} (h : lotB z = true) : inV (.str z) [.str "learn", .str "judge"] = true := by
  rcases Bool.or_eq_true_iff.mp h with h | h
  · rw [of_decide_eq_true h]
    decide +kernel
  · rw [of_decide_eq_true h]
    decide +kernel
theorem ok_Ledger_tally (T : Top K mg) : FnOk P w K mg base CX0 4 T.a_Ledger_tally T.d_Ledger_tally ["self", "lot"] (spTally K T.C_Ledger) := by
  refine T.F_Ledger_tally.ok sc_Ledger_tally (fun vs H Q E h => ?_) (fun cdv A outer s H vs Q E hr h => ?_)
  · unfold spTally at h
    obtain ⟨p, z, f, L, rfl, _⟩ := h
    rfl
  unfold spTally at h
  obtain ⟨p, z, f, L, rfl, hz, L0, k⟩ := h
  have hcl := T.cl_Ledger
  have hn2 := T.n_Ledger__sides
  have hsi := L0.si
  have hins := L0.ins
  have hlkS := f.lkS
  have hlots := T.q_LOTS H
  have hin := lot_in hz
  have hnin : (!inV (.str z) [.str "learn", .str "judge"]) = false := by rw [hin]; rfl
  refine ⟨_, (pss_cons (ps_if (pt_cmpR op_notIn_seq (pv 1) (pe_glob rfl T.c_LOTS T.r_LOTS) rfl) (pss_one ps_never) pss_nil)
    (pss_one (ps_ret (pe_bm PySem.F.plainAttrs_list PySem.F.slot_list_count PySem.F.type_list_count mt_lcountS (pe_fld (pv 0) rfl) (pa_cons (pv 1) pa_nil))))), ?_⟩
  sizeOf_list_dec
  refine gF hnin ?_
  sizeOf_list_dec
  exact ⟨.inl ⟨rfl, _, SqL.of hsi⟩, _, rfl, f.si, L.sides, z, rfl, rfl, SqL.of hsi, k⟩
theorem tally_go {C p : Addr} {z : Str} {f : LFt} {L : LSt} {H : Hp} {Q : VK} {E : XK} (hz : lotB z = true) (L0 : LedAt K C H p f L) (k : Q (.int (L.sides.count z : Nat)) H) : spTally K C [.ref p, .str z] H Q E := by
  unfold spTally
  exact ⟨p, z, f, L, rfl, hz, L0, k⟩
theorem ok_Ledger__emptier (T : Top K mg) : FnOk P w K mg base CX0 6 T.a_Ledger__emptier T.d_Ledger__emptier ["self"] (spEmptier K T.C_Ledger) := by
  refine T.F_Ledger__emptier.ok sc_Ledger__emptier (fun vs H Q E h => ?_) (fun cdv A outer s H vs Q E hr h => ?_)
  · unfold spEmptier at h
    obtain ⟨p, f, L, rfl, _⟩ := h
    rfl
  unfold spEmptier at h
  obtain ⟨p, f, L, rfl, L0, k⟩ := h
  have hcl := T.cl_Ledger
  have hins := L0.ins
  have hlots := T.q_LOTS H
  have hlo : f.fs.lookup ("tally" : Str) = none := LFt.lkN (by decide +kernel)
  have hl0 : atI ([.str "learn", .str "judge"] : List V) 0 = some (.str "learn") := rfl
  have hl1 : atI ([.str "learn", .str "judge"] : List V) 1 = some (.str "judge") := rfl
  refine ⟨_, (pss_one (ps_ret (pe_ifExp (pt_cmpR op_lt (pe_meth (pv 0) T.cl_Ledger T.M_Ledger_tally (ok_Ledger_tally T) (hr.mono (by decide)) T.b_Ledger_tally .nil pass0 (pa_cons (pe_ix ix_tup (pe_glob rfl T.c_LOTS T.r_LOTS) pe_int (fun _ _ => rfl)) pa_nil)) (pe_meth (pv 0) T.cl_Ledger T.M_Ledger_tally (ok_Ledger_tally T) (hr.mono (by decide)) T.b_Ledger_tally .nil pass0 (pa_cons (pe_ix ix_tup (pe_glob rfl T.c_LOTS T.r_LOTS) pe_int (fun _ _ => rfl)) pa_nil)) (nomark _)) (pe_ix ix_tup (pe_glob rfl T.c_LOTS T.r_LOTS) pe_int (fun _ _ => rfl)) (pe_ix ix_tup (pe_glob rfl T.c_LOTS T.r_LOTS) pe_int (fun _ _ => rfl))))), ?_⟩
  sizeOf_list_dec
  refine tally_go (by decide +kernel) L0 ?_
  sizeOf_list_dec
  refine tally_go (by decide +kernel) L0 ?_
  sizeOf_list_dec
  unfold emptier at k
  refine ite2 (fun h => ?_) (fun h => ?_)
  · have h := of_decide_eq_true h
    rw [if_pos (by omega)] at k
    sizeOf_list_dec
    exact k
  · have h : ¬ ((L.sides.count ("judge" : Str) : Nat) : Int) < ((L.sides.count ("learn" : Str) : Nat) : Int) := fun q => h (decide_eq_true q)
    rw [if_neg (by omega)] at k
    sizeOf_list_dec
    exact k
theorem empt_go {C p : Addr} {f : LFt} {L : LSt} {H : Hp} {Q : VK} {E : XK} (L0 : LedAt K C H p f L) (k : Q (.str (emptier L.sides)) H) : spEmptier K C [.ref p] H Q E := by
  unfold spEmptier
  exact ⟨p, f, L, rfl, L0, k⟩
theorem offer_torn (T : Top K mg) {p d : Addr} {f : LFt} {L : LSt} {r : Row} {H : Hp} {Q : VK} {E : XK} {a b : Nat} (L0 : LedAt K T.C_Ledger H p f L) (g : LGood L) (hd : LRowOk H d r) (hw : RowV r) (nd : (r.map (·.1)).Nodup) (e : tornOf L r = some (a, b))
    (k : ∀ cls e H', Rsd K T.C_LotsError T.C_Missing T.C_NothingLeft H' cls e ("Torn", ["one", "other"]) [.int (a : Nat), .int (b : Nat)] → Same H H' → E cls e H') : spOffer T [.ref p, .ref d] H Q E := by
  unfold spOffer
  refine ⟨p, d, f, L, r, rfl, L0, g, hd, hw, nd, ?_⟩
  unfold tornOf at e
  cases e1 : lrn L r with
  | none =>
    rw [e1] at e
    cases e
  | some a' =>
    rw [e1] at e
    cases e2 : jdg L r with
    | none =>
      rw [e2] at e
      cases e
    | some b' =>
      rw [e2] at e
      cases e
      exact k
theorem offer_due (T : Top K mg) {p d : Addr} {f : LFt} {L : LSt} {r : Row} {H : Hp} {Q : VK} {E : XK} (L0 : LedAt K T.C_Ledger H p f L) (g : LGood L) (hd : LRowOk H d r) (hw : RowV r) (nd : (r.map (·.1)).Nodup) (e : tornOf L r = none)
    (k : ∀ H', Same H H' → Q (sdV (dueOf L r)) H') : spOffer T [.ref p, .ref d] H Q E := by
  unfold spOffer
  refine ⟨p, d, f, L, r, rfl, L0, g, hd, hw, nd, ?_⟩
  unfold tornOf at e
  unfold dueOf at k
  cases e1 : lrn L r with
  | none =>
    rw [e1] at k
    cases e2 : jdg L r with
    | none =>
      rw [e2] at k
      exact k
    | some b =>
      rw [e2] at k
      exact k
  | some a' =>
    rw [e1] at k e
    cases e2 : jdg L r with
    | none =>
      exact k
    | some b' =>
      rw [e2] at e
      cases e
theorem led_add {K : PySem.W.Frag} {C p rr au : Addr} {f : LFt} {L : LSt} {r : Row} {z : Str} {rs : List Addr} {G : Hp} (l : LedAt K C G p f L) (hro : G f.ro = some (.lst (rs.map V.ref))) (hr2 : G rr = some (.dK (rowK r)))
    (fa : upd (upd G f.ro (.lst (rs.map V.ref ++ [V.ref rr]))) f.si (.lst (L.sides.map V.str ++ [V.str z])) au = none) :
    LedAt K C (upd (upd (upd (upd G f.ro (.lst (rs.map V.ref ++ [V.ref rr]))) f.si (.lst (L.sides.map V.str ++ [V.str z]))) au (.lst [])) p (.ins C f.dx (putF "_undone" (V.ref au) f.fs))) p { f with un := au } ⟨L.things, L.rows ++ [r], L.sides ++ [z], []⟩ := by
  obtain ⟨n1, n2, n3, n4, n5, n6, n7, n8, n9, n10⟩ := l.ne
  have hli : ∀ x ∈ f.wr p, ListIns G x := fun x hx => l.li x (LFt.wr_all hx)
  have hins := l.ins
  have hsi := l.si
  obtain ⟨ts, h1, h2⟩ := l.th
  obtain ⟨rs', h3, h4⟩ := l.ro
  have hrs : PySem.Paired (LRowOk G) rs L.rows := by
    rw [hro] at h3
    have h3 : rs.map V.ref = rs'.map V.ref := HO.lst.inj (Option.some.inj h3)
    rw [List.map_inj_right (fun _ _ => V.ref.inj)] at h3
    rw [h3]
    exact h4
  have hins4 : upd (upd G f.ro (.lst (rs.map V.ref ++ [V.ref rr]))) f.si (.lst (L.sides.map V.str ++ [V.str z])) p = _ := (upd_ne n3).trans ((upd_ne n2).trans hins)
  have hpa : p ≠ au := ne_of_none hins4 fa
  have hra : f.ro ≠ au := ne_of_none (by rw [upd_ne n8]; exact upd_same) fa
  have hsa : f.si ≠ au := ne_of_none upd_same fa
  have hta : f.th ≠ au := ne_of_none (by rw [upd_ne n6, upd_ne n5]; exact h1) fa
  have m1 : p ∈ f.wr p := by simp [LFt.wr]
  have m2 : f.ro ∈ f.wr p := by simp [LFt.wr]
  have m3 : f.si ∈ f.wr p := by simp [LFt.wr]
  have F4 : Fr (f.wr p) G _ := ((((Fr.of (Same.refl G)).put m2 (o := .lst (rs.map V.ref ++ [V.ref rr]))).put m3 (o := .lst (L.sides.map V.str ++ [V.str z]))).new fa (o := .lst [])).put m1 (o := .ins C f.dx (putF "_undone" (V.ref au) f.fs))
  refine ⟨?_, ⟨ts, ?_, fr_th F4 hli h2⟩, ⟨rs ++ [rr], ?_, pr_app (fr_ro F4 hli hrs) (.cons (fr_dk F4 hli hr2) .nil)⟩, ?_, ⟨[], ?_, .nil⟩, ?_⟩
  · rw [upd_same, LFt.putU]
  · rw [upd_ne n1.symm, upd_ne hta, upd_ne n6, upd_ne n5]
    exact h1
  · rw [upd_ne n2.symm, upd_ne hra, upd_ne n8, upd_same, List.map_append]
    rfl
  · rw [upd_ne n3.symm, upd_ne hsa, upd_same, List.map_append]
    rfl
  · rw [upd_ne hpa.symm]
    exact upd_same
  · simp [LFt.all, n1, n2, n3, n5, n6, n8, hpa, hra, hsa, hta]
theorem ok_Ledger_add (T : Top K mg) : FnOk P w K mg base (L2.CX P w) 10 T.a_Ledger_add T.d_Ledger_add ["self", "row", "side"] (spAdd T) := by
  refine T.F_Ledger_add.okX sc_Ledger_add (fun vs H Q E h => ?_) (fun cdv A outer s H vs Q E hr h => ?_)
  · unfold spAdd at h
    obtain ⟨p, d, f, L, r, sd, rfl, _⟩ := h
    rfl
  unfold spAdd at h
  obtain ⟨p, d, f, L, r, sd, rfl, hz, L0, g, hd, hw, nd, k⟩ := h
  have hcl := T.cl_Ledger
  have hcr := T.cr_Ledger
  have hcv := T.cv_Ledger_MOST
  have hn1 := T.n_Ledger__rows
  have hn2 := T.n_Ledger__sides
  have hn3 := T.n_Ledger__undone
  obtain ⟨rs, hro, hrs⟩ := L0.ro
  have hsi := L0.si
  have hins := L0.ins
  have hlkR := f.lkR
  have hlkS := f.lkS
  have hlkU := f.lkU
  have hlo : f.fs.lookup ("offer" : Str) = none := LFt.lkN (by decide +kernel)
  have hle : f.fs.lookup ("_emptier" : Str) = none := LFt.lkN (by decide +kernel)
  have hlots := T.q_LOTS H
  have hlen := pr_len hrs
  have hrl : ((rs.map V.ref).length : Int) = (L.rows.length : Int) := by rw [List.length_map, hlen]
  refine ⟨_, (pss_cutI (ps_if (PW.pt (pw_and (pt_cmpR op_notN (pv 2) pe_non (nomark _)) (pw_and1 (pt_cmpR op_notIn_seq (pv 2) (pe_glob rfl T.c_LOTS T.r_LOTS) rfl)))) (pss_one ps_never) pss_nil)
    (pss_cons (ps_if (pt_cmpR op_ge (pe_callB call_len_seq (by rfl) T.z_len (by decide +kernel) (pa_cons (pe_fld (pv 0) rfl) pa_nil)) (ClX.pe_cval (pe_glob (v := .ref T.C_Ledger) rfl T.mc_Ledger rfl)) (nomark _)) (pss_one (ps_raise rfl takes_ok (pmk_xc T.x_Full T.iC_Full T.tI_Full (oki_Full T) (hr.mono (by decide)) T.bi_Full pass0 rfl T.mc_Full (pa_cons (ClX.pe_cval (pe_glob (v := .ref T.C_Ledger) rfl T.mc_Ledger rfl)) pa_nil)))) pss_nil)
    (pss_cons (ps_set (i := 3) sc_Ledger_add.nd rfl (Or.inl rfl) (pe_meth (pv 0) T.cl_Ledger T.M_Ledger_offer (ok_Ledger_offer T) (hr.mono (by decide)) T.b_Ledger_offer .nil passes_ok (pa_cons (pv 1) pa_nil)))
    (pss_cutI (ps_if (pt_cmpR op_isN (pv 3) pe_non (nomark _)) (pss_one (ps_set (i := 4) sc_Ledger_add.nd rfl (Or.inl rfl) (pe_ifExp (pt_cmpR op_isN (pv 2) pe_non (nomark _)) (pe_meth0 (pv 0) T.cl_Ledger T.M_Ledger__emptier (ok_Ledger__emptier T) (hr.mono (by decide)) T.b_Ledger__emptier .nil pass0) (pv 2)))) (pss_one (ps_if (PW.pt (pw_or (pt_cmpR op_isN (pv 2) pe_non (nomark _)) (pw_or1 (pt_cmpR op_eq (pv 2) (pv 3) (nomark _))))) (pss_one (ps_set (i := 4) sc_Ledger_add.nd rfl (Or.inl rfl) (pv 3))) (pss_one (ps_raise rfl takes_ok (pmk_xc T.x_SideTaken T.iC_SideTaken T.tI_SideTaken (oki_SideTaken T) (hr.mono (by decide)) T.bi_SideTaken pass0 rfl T.mc_SideTaken (pa_cons (pv 3) pa_nil)))))))
    (pss_cons (ps_expr (pe_bm PySem.F.plainAttrs_list PySem.F.slot_list_append PySem.F.type_list_append mt_append (pe_fld (pv 0) rfl) (pa_cons (pe_callTy call_dictD (by rfl) T.z_dict (by decide +kernel) (pa_cons (pv 1) pa_nil)) pa_nil)))
    (pss_cons (ps_expr (pe_bm PySem.F.plainAttrs_list PySem.F.slot_list_append PySem.F.type_list_append mt_append (pe_fld (pv 0) rfl) (pa_cons (pv 4) pa_nil)))
    (pss_cons (ps_fld (pv 0) (pe_lst pa_nil) rfl)
    (pss_one (ps_ret (pv 4)))))))))), ?_⟩
  refine cut_mk (fun σ G => start n_Ledger_add [.ref p, .ref d, sdV sd] = σ ∧ H = G) ?_ ?_
  · cases sd with
    | none =>
      sizeOf_list_dec
      exact rfl
    | some z =>
      have hin := lot_in (hz z rfl)
      have hnin : (!inV (.str z) [.str "learn", .str "judge"]) = false := by rw [hin]; rfl
      sizeOf_list_dec
      refine gF hnin ?_
      sizeOf_list_dec
      exact rfl
  rintro _ _ ⟨rfl, rfl⟩
  unfold addR at k
  sizeOf_list_dec
  refine ite2 (fun h => ?_) (fun h => ?_)
  · have h : 200 ≤ L.rows.length := by
      have := of_decide_eq_true h
      omega
    rw [if_pos h] at k
    refine ⟨T.C_Ledger, _, _, _, rfl, hcr, hcv, ?_⟩
    exact raise_full (G := H) (ys := [.int 200]) T.x_Full T.xq_Full (by decide +kernel) rfl k
  have h : L.rows.length < 200 := by
    by_cases q : L.rows.length < 200
    · exact q
    · exact absurd (decide_eq_true (by omega)) h
  rw [if_neg (by omega)] at k
  sizeOf_list_dec
  cases e1 : tornOf L r with
  | some ab =>
    obtain ⟨a, b⟩ := ab
    rw [e1] at k
    exact offer_torn T L0 g hd hw nd e1 k
  | none =>
    rw [e1] at k
    refine offer_due T L0 g hd hw nd e1 fun G eG => ?_
    have hinsG := eG _ _ hins
    sizeOf_list_dec
    refine cut_mk (fun σ H2 => ∃ z, dueA L r sd = .ok z ∧ σ = [some (.ref p), some (.ref d), some (sdV sd), some (sdV (dueOf L r)), some (.str z)] ∧ Same H H2) ?_ ?_
    · have ka : ∀ y z, dueOf L r = some y → sd = some z → ¬ z = y → dueA L r sd = .taken y := fun y z q1 q2 q3 => by
        unfold dueA
        rw [q1, q2]
        exact if_neg q3
      unfold dueA
      cases e2 : dueOf L r with
      | none =>
        cases sd with
        | none =>
          sizeOf_list_dec
          refine empt_go (L0.mono eG) ?_
          sizeOf_list_dec
          exact eG
        | some z =>
          sizeOf_list_dec
          exact eG
      | some y =>
        cases sd with
        | none =>
          sizeOf_list_dec
          exact eG
        | some z =>
          have e3' : decide (V.str z = V.str y) = decide (z = y) := by
            by_cases e3 : z = y
            · rw [e3, decide_eq_true rfl, decide_eq_true rfl]
            · rw [decide_eq_false e3, decide_eq_false (fun q => e3 (V.str.inj q))]
          by_cases e3 : z = y
          · subst e3
            sizeOf_list_dec
            refine gT (decide_eq_true rfl) ?_
            have hdz : dueR z (some z) = .ok z := if_pos rfl
            sizeOf_list_dec
            exact eG
          · sizeOf_list_dec
            refine gF (by show decide (V.str z = V.str y) = false; rw [e3']; exact decide_eq_false e3) ?_
            rw [ka y z e2 rfl e3] at k
            sizeOf_list_dec
            exact raise_full (G := G) (ys := [.str y]) T.x_SideTaken T.xq_SideTaken (by decide +kernel) rfl fun cls e1 H'' r1 s1 => k cls e1 H'' r1 (eG.trans s1)
    rintro σ H1 ⟨z, ez, rfl, s1⟩
    rw [ez] at k
    clear ez hinsG eG
    have hd1 : H1 d = some (.dK (rowK r)) := s1 _ _ hd
    have hins1 := s1 _ _ hins
    have hro1 := s1 _ _ hro
    have hsi1 := s1 _ _ hsi
    clear hins hro hsi
    have hrd := Rd.of hd1
    have hsl : L.sides.length < 200 := by rw [g.ln]; exact h
    obtain ⟨n1, n2, n3, n4, n5, n6, n7, n8, n9, n10⟩ := L0.ne
    sizeOf_list_dec
    refine ⟨.inl ⟨rfl, _, SqL.of hro1⟩, ?_⟩
    refine ⟨_, rfl, d, _, rfl, hrd, fun rr fr => ?_⟩
    have F0 : Fr (f.wr p) H _ := (Fr.of s1).new fr (o := .dK (rowK r))
    have s2 := same_new fr (.dK (rowK r))
    have hins2 := s2 _ _ hins1
    have hro2 := s2 _ _ hro1
    have hsi2 := s2 _ _ hsi1
    have hr2 : upd H1 rr (.dK (rowK r)) rr = some (.dK (rowK r)) := upd_same
    have L2 := (L0.mono s1).mono s2
    have hli : ∀ x ∈ f.wr p, ListIns (upd H1 rr (.dK (rowK r))) x := fun x hx => L2.li x (LFt.wr_all hx)
    have hun : ∃ o, upd H1 rr (.dK (rowK r)) f.un = some o := ⟨_, L2.un.choose_spec.1⟩
    have hrs2 : PySem.Paired (LRowOk (upd H1 rr (.dK (rowK r)))) rs L.rows := prMp hrs fun _ _ x => (x.mono s1).mono s2
    have hth : ∃ ts : List Addr, upd H1 rr (.dK (rowK r)) f.th = some (.lst (ts.map V.ref)) ∧ PySem.Paired (ThOk K (upd H1 rr (.dK (rowK r)))) ts L.things := L2.th
    have LG := L2
    have sG : Same H (upd H1 rr (.dK (rowK r))) := s1.trans s2
    have hdG := s2 _ _ hd1
    have nrr : rr ≠ d := (ne_of_none hd1 fr).symm
    clear L2 s2
    generalize upd H1 rr (.dK (rowK r)) = G at *
    refine ⟨f.ro, rs.map V.ref, .ref rr, rfl, rfl, hro2, small' (by rw [List.length_map, hlen]; omega), ?_⟩
    have hins3 : upd G f.ro (.lst (rs.map V.ref ++ [V.ref rr])) p = _ := (upd_ne n2).trans hins2
    have hsi3 : upd G f.ro (.lst (rs.map V.ref ++ [V.ref rr])) f.si = _ := (upd_ne n8.symm).trans hsi2
    sizeOf_list_dec
    refine ⟨.inl ⟨rfl, _, SqL.of hsi3⟩, ?_⟩
    refine ⟨_, rfl, f.si, L.sides.map V.str, .str z, rfl, rfl, hsi3, small' (by rw [List.length_map]; omega), ?_⟩
    refine ⟨by show 0 ≤ sizeLine; decide, fun au fa => ?_⟩
    have hins4 : upd (upd G f.ro (.lst (rs.map V.ref ++ [V.ref rr]))) f.si (.lst (L.sides.map V.str ++ [V.str z])) p = _ := (upd_ne n3).trans hins3
    have hpa : p ≠ au := ne_of_none hins4 fa
    have hra : f.ro ≠ au := ne_of_none (by rw [upd_ne n8]; exact upd_same) fa
    have hsa : f.si ≠ au := ne_of_none upd_same fa
    have hta : f.th ≠ au := ne_of_none (by rw [upd_ne n6, upd_ne n5]; exact hth.choose_spec.1) fa
    have hua : f.un ≠ au := ne_of_none (by rw [upd_ne n10.symm, upd_ne n9.symm]; exact hun.choose_spec) fa
    sizeOf_list_dec
    refine ⟨by show 4 < 1000; decide, ?_⟩
    have m1 : p ∈ f.wr p := by simp [LFt.wr]
    have m2 : f.ro ∈ f.wr p := by simp [LFt.wr]
    have m3 : f.si ∈ f.wr p := by simp [LFt.wr]
    have F4 : Fr (f.wr p) G _ := ((((Fr.of (Same.refl G)).put m2 (o := .lst (rs.map V.ref ++ [V.ref rr]))).put m3 (o := .lst (L.sides.map V.str ++ [V.str z]))).new fa (o := .lst [])).put m1 (o := .ins T.C_Ledger f.dx (putF "_undone" (V.ref au) f.fs))
    refine ⟨_, rfl, k au _ (led_add LG hro2 hr2 fa) (F0.trans F4) ?_ fun hh => ?_⟩
    · refine ((F0.put m2 (o := .lst (rs.map V.ref ++ [V.ref rr]))).put m3 (o := .lst (L.sides.map V.str ++ [V.str z]))).free fa ?_
      simp [LFt.wr, hpa.symm, hra.symm, hsa.symm, hua.symm]
    · have hg := hh.mono (hide_mono sG)
      have hne : ∀ x o, hide d G x = some o → x ≠ d := fun x o e q => by
        rw [q, hide_at] at e
        cases e
      have np := hne _ _ hg.ins
      have nr := hne _ _ hg.ro.choose_spec.1
      have ns := hne _ _ hg.si
      have na : au ≠ d := fun q => by
        have hx := hdG
        rw [← q] at hx
        rw [upd_ne hsa.symm, upd_ne hra.symm, hx] at fa
        cases fa
      rw [hide_new np, hide_new na, hide_new ns, hide_new nr]
      refine led_add hg (by rw [hide_ne nr]; exact hro2) (by rw [hide_ne nrr]; exact hr2) ?_
      rw [upd_ne hsa.symm, upd_ne hra.symm, hide_ne na]
      rw [upd_ne hsa.symm, upd_ne hra.symm] at fa
      exact fa
end
end Bl

namespace Bl
open PySem L2
abbrev n_is_number : List Str := ["value", "least", "most"]
theorem sc_is_number : FnScope n_is_number ["value", "least", "most"] (defScope s_is_number) := ⟨rfl, rfl, rfl, by decide +kernel, rfl, by decide +kernel, by decide +kernel⟩
section
variable {P : Program} {w : World} {K : PySem.W.Frag} {mg : Str → Option Value} {base : Heap}
theorem ok_is_number (T : Top K mg) : FnOk P w K mg base CX0 1 T.a_is_number T.d_is_number ["value", "least", "most"] (spIsNumber K) := by
  refine T.F_is_number.ok sc_is_number (fun vs H Q E h => ?_) (fun cdv A outer s H vs Q E hr h => ?_)
  · obtain ⟨v, d, lo, hi, rfl, _⟩ := h
    rfl
  obtain ⟨v, d, lo, hi, rfl, hd, k⟩ := h
  refine ⟨_, (pss_cons (ps_if (PW.pt (pw_or (pt_not (pt_val (pe_callB call_isi (by rfl) T.z_isinstance (by decide +kernel) (pa_cons (pv 0) (pa_cons (pe_bltn (v := .ty "int") (by rfl) T.z_int (by decide +kernel) rfl) pa_nil))))) (pw_or1 (pt_val (pe_callB call_isi (by rfl) T.z_isinstance (by decide +kernel) (pa_cons (pv 0) (pa_cons (pe_bltn (v := .ty "bool") (by rfl) T.z_bool (by decide +kernel) rfl) pa_nil))))))) (pss_one (ps_ret pe_bl)) pss_nil)
    (pss_one (ps_ret (pe_chain op_le op_le (pv 1) (pv 0) (pv 2))))), ?_⟩
  refine ⟨_, rfl, v, .ty "int", _, _, _, rfl, .ty "int", Dp.ty hd, kit_d some_int, _, rfl, ?_⟩
  rw [isInt_eq]
  cases d with
  | int i =>
    obtain rfl : v = .int i := by cases hd; rfl
    refine iteF ?_
    refine ⟨_, rfl, .int i, .ty "bool", _, _, _, rfl, .ty "bool", Dp.ty hd, kit_d some_bool, _, rfl, ?_⟩
    rw [isBool_eq]
    refine iteF ?_
    refine ⟨_, rfl, _, rfl, _, _, rfl, rfl, _, rfl, ?_⟩
    have e : numD lo hi (.int i) = (decide (lo ≤ i) && decide (i ≤ hi)) := rfl
    refine ite2 (fun h1 => ?_) (fun h1 => ?_)
    · refine ⟨_, rfl, _, _, rfl, rfl, ?_⟩
      have q := k H (Same.refl _)
      rw [e, h1, Bool.true_and] at q
      exact q
    · have q := k H (Same.refl _)
      rw [e, Bool.eq_false_iff.mpr h1, Bool.false_and] at q
      exact q
  | bool b =>
    refine iteF ?_
    refine ⟨_, rfl, v, .ty "bool", _, _, _, rfl, .ty "bool", Dp.ty hd, kit_d some_bool, _, rfl, ?_⟩
    rw [isBool_eq]
    exact iteT (k H (Same.refl _))
  | _ => exact iteT (k H (Same.refl _))
end
end Bl

namespace Bl
open PySem L2
open SX (S)
/-! short words: array_get_dec closes a side condition; array_mem_dec goes one step into a reading; sizeOf_list_dec goes on while it can -/
local macro_rules | `(tactic| array_get_dec) => `(tactic| first
  | (with_reducible assumption)
  | ((with_reducible apply Bl.gEq); first
    | rfl
    | assumption
    | exact upd_same
    | (with_reducible exact kit_d some_str)
    | (with_reducible exact kit_d some_int)
    | (with_reducible exact kit_d some_bool)
    | (with_reducible exact kit_d some_list)
    | (with_reducible exact kit_d some_tuple)
    | ((with_reducible apply Bl.get_new); assumption; array_get_dec)
    | ((with_reducible apply Bl.get_tr); assumption; array_get_dec)
    )
  | ((with_reducible apply Bl.gLe); first
    | omega
    | exact small (by omega)
    | exact small (by simp only [List.length_cons, List.length_nil]; decide)
    | exact small (by simp only [List.length_append, List.length_cons, List.length_nil]; omega)
    | decide)
  | ((with_reducible apply Bl.gLt); first
    | omega
    | exact small' (by omega)
    | exact small' (by simp only [List.length_cons, List.length_nil]; decide)
    | decide)
  | ((fail_if_success (with_reducible apply Bl.gEq)); (fail_if_success (with_reducible apply Bl.gLe)); (fail_if_success (with_reducible apply Bl.gLt)); first
    | assumption
    | exact SqL.of upd_same
    | exact SqT.of upd_same
    | ((with_reducible apply SqL.of); assumption)
    | ((with_reducible apply SqT.of); assumption)
    | exact Same.refl _
    | exact .ty _
    | exact .str _
    | exact .int _
    | exact ⟨_, rfl⟩
    | ((with_reducible apply Dp.ty); assumption)
    | ((with_reducible apply Bl.seq_new); assumption; array_get_dec)
    | ((with_reducible apply Bl.tup_new); assumption; array_get_dec)
    | ((with_reducible apply Bl.dp_new); assumption; array_get_dec)
    | ((with_reducible apply Bl.dpa_new); assumption; array_get_dec)
    | ((with_reducible apply Bl.same_nw); assumption; array_get_dec)
    | ((with_reducible apply Bl.seq_tr); assumption; array_get_dec)
    | ((with_reducible apply Bl.tup_tr); assumption; array_get_dec)
    | ((with_reducible apply Bl.dp_tr); assumption; array_get_dec)
    | ((with_reducible apply Bl.dpa_tr); assumption; array_get_dec)
    | ((with_reducible apply Bl.same_tr); assumption; array_get_dec)
    | ((with_reducible apply Dp.ty); assumption)
    | ((with_reducible apply Dp.ty); array_get_dec)
    | ((with_reducible refine Or.inl ?_); array_get_dec)
    | ((with_reducible refine Or.inr ?_); array_get_dec)
    | ((with_reducible apply Bl.gEx); array_get_dec)))
local macro_rules | `(tactic| array_mem_dec) => `(tactic| first
  | ((with_reducible apply Bl.gIte); first
    | (refine Bl.gT (by rfl) ?_)
    | (refine Bl.gF (by rfl) ?_))
  | ((fail_if_success (with_reducible apply Bl.gIte)); (fail_if_success (with_reducible apply Bl.gLoop)); (fail_if_success (with_reducible apply Bl.gComp)); (fail_if_success (with_reducible apply Bl.gWhile)); first
    | (with_reducible intro _ _)
    | (with_reducible intro _)
    | (refine And.intro (by array_get_dec) ?_)
    | (apply Bl.gEx)
    | (refine Or.inl (And.intro (by array_get_dec) ?_))
    | (refine Or.inr (And.intro (by array_get_dec) ?_))
    | (refine Or.inl ⟨_, by array_get_dec, ?_⟩)
    | (refine Or.inr ⟨_, by array_get_dec, ?_⟩)
    ))
local macro_rules | `(tactic| sizeOf_list_dec) => `(tactic| repeat array_mem_dec)

abbrev n_Ledger___init__ : List Str := ["self", "things", "thing"]
theorem sc_Ledger___init__ : FnScope n_Ledger___init__ ["self", "things"] (defScope s_Ledger___init__) := ⟨rfl, rfl, rfl, by decide +kernel, rfl, by decide +kernel, by decide +kernel⟩
abbrev n_Ledger_things : List Str := ["self"]
theorem sc_Ledger_things : FnScope n_Ledger_things ["self"] (defScope s_Ledger_things) := ⟨rfl, rfl, rfl, by decide +kernel, rfl, by decide +kernel, by decide +kernel⟩
abbrev n_Ledger_row : List Str := ["self", "number"]
theorem sc_Ledger_row : FnScope n_Ledger_row ["self", "number"] (defScope s_Ledger_row) := ⟨rfl, rfl, rfl, by decide +kernel, rfl, by decide +kernel, by decide +kernel⟩
abbrev n_Ledger_side : List Str := ["self", "number"]
theorem sc_Ledger_side : FnScope n_Ledger_side ["self", "number"] (defScope s_Ledger_side) := ⟨rfl, rfl, rfl, by decide +kernel, rfl, by decide +kernel, by decide +kernel⟩
abbrev n_Ledger__check_number : List Str := ["self", "number"]
theorem sc_Ledger__check_number : FnScope n_Ledger__check_number ["self", "number"] (defScope s_Ledger__check_number) := ⟨rfl, rfl, rfl, by decide +kernel, rfl, by decide +kernel, by decide +kernel⟩
abbrev n_Ledger___getitem__ : List Str := ["self", "number"]
theorem sc_Ledger___getitem__ : FnScope n_Ledger___getitem__ ["self", "number"] (defScope s_Ledger___getitem__) := ⟨rfl, rfl, rfl, by decide +kernel, rfl, by decide +kernel, by decide +kernel⟩
abbrev n_Ledger___len__ : List Str := ["self"]
theorem sc_Ledger___len__ : FnScope n_Ledger___len__ ["self"] (defScope s_Ledger___len__) := ⟨rfl, rfl, rfl, by decide +kernel, rfl, by decide +kernel, by decide +kernel⟩
abbrev n_Ledger___repr__ : List Str := ["self"]
theorem sc_Ledger___repr__ : FnScope n_Ledger___repr__ ["self"] (defScope s_Ledger___repr__) := ⟨rfl, rfl, rfl, by decide +kernel, rfl, by decide +kernel, by decide +kernel⟩
abbrev n_Ledger_walk : List Str := ["self", "lot", "numbers", "number", "taken"]
theorem sc_Ledger_walk : GScope n_Ledger_walk ["self", "lot"] (defScope s_Ledger_walk) := ⟨rfl, rfl, rfl, by decide +kernel, rfl, by decide +kernel, by decide +kernel⟩
@[irreducible] def spInitL (K : PySem.W.Frag) (C : Addr) : Sp := fun vs H Q _ => ∃ (p t dx : Addr) (ts : List Addr) (ns : List (List Str)), vs = [.ref p, .ref t] ∧ H p = some (.ins C dx []) ∧ SqT K H t (ts.map V.ref) ∧ Paired (ThOk K H) ts ns ∧ (∀ n ∈ ns, ThV n) ∧
  1 ≤ ns.length ∧ ns.length ≤ 4 ∧ ∀ (f : LFt) (H' : Hp), LedAt K C H' p f ⟨ns, [], [], []⟩ → Fr [p] H H' → (∀ x ∈ [f.th, f.ro, f.si, f.un], H x = none) → Q .non H'
@[irreducible] def spThings (K : PySem.W.Frag) (C : Addr) : Sp := fun vs H Q _ => ∃ (p : Addr) (f : LFt) (L : LSt), vs = [.ref p] ∧ LedAt K C H p f L ∧ ∀ (a : Addr) (ts : List Addr) (H' : Hp), H a = none → H' a = some (.lst (ts.map V.ref)) → Paired (ThOk K H') ts L.things → Same H H' → Q (.ref a) H'
@[irreducible] def spRow (K : PySem.W.Frag) (C : Addr) : Sp := fun vs H Q _ => ∃ (p : Addr) (f : LFt) (L : LSt) (n : Nat) (r : Row), vs = [.ref p, .int (n : Nat)] ∧ LedAt K C H p f L ∧ L.rows[n]? = some r ∧ ∀ (a : Addr) (H' : Hp), H a = none → H' a = some (.dK (rowK r)) → Same H H' → Q (.ref a) H'
@[irreducible] def spSide (K : PySem.W.Frag) (C : Addr) : Sp := fun vs H Q _ => ∃ (p : Addr) (f : LFt) (L : LSt) (n : Nat) (z : Str), vs = [.ref p, .int (n : Nat)] ∧ LedAt K C H p f L ∧ L.sides.length = L.rows.length ∧ L.sides[n]? = some z ∧ ∀ H', Same H H' → Q (.str z) H'
@[irreducible] def spCheck (K : PySem.W.Frag) (C : Addr) : Sp := fun vs H Q _ => ∃ (p : Addr) (f : LFt) (L : LSt) (n : Nat), vs = [.ref p, .int (n : Nat)] ∧ LedAt K C H p f L ∧ n < L.rows.length ∧ ∀ H', Same H H' → Q .non H'
@[irreducible] def spLen (K : PySem.W.Frag) (C : Addr) : Sp := fun vs H Q _ => ∃ (p : Addr) (f : LFt) (L : LSt), vs = [.ref p] ∧ LedAt K C H p f L ∧ Q (.int (L.rows.length : Nat)) H
def ledTxt (ss : List Str) : Str := (((((Str.empty ++ ("Ledger(" : Str)) ++ toString ((ss.count ("learn" : Str) : Nat) : Int)) ++ (" learn, " : Str)) ++ toString ((ss.count ("judge" : Str) : Nat) : Int)) ++ (" judge)" : Str))
@[irreducible] def spRepr (K : PySem.W.Frag) (C : Addr) : Sp := fun vs H Q _ => ∃ (p : Addr) (f : LFt) (L : LSt), vs = [.ref p] ∧ LedAt K C H p f L ∧ L.sides.length ≤ 200 ∧ Q (.str (ledTxt L.sides)) H
def walkOf (ss : List Str) (z : Str) : List Nat := inLot ss z (List.range ss.length)
@[irreducible] def spWalk (K : PySem.W.Frag) (C : Addr) : SpG := fun vs H Q _ => ∃ (p : Addr) (z : Str) (f : LFt) (L : LSt), vs = [.ref p, .str z] ∧ lotB z = true ∧ LedAt K C H p f L ∧ L.sides.length ≤ 200 ∧ ∀ H', Same H H' → Q ((walkOf L.sides z).map fun n => V.int (n : Nat)) H'
section
variable {P : Program} {w : World} {K : PySem.W.Frag} {mg : Str → Option Value} {base : Heap}
theorem ok_Ledger___init__0 (T : Top K mg) (cdv : Value) (A : Around) (outer : List Env) (s : Shared) (H : Hp) (vs : List V) (Q : VK) (E : XK) (hr : Room 5 (A.deeper (PyProof.Rows.envOfC "Ledger.__init__" (defScope s_Ledger___init__) s.heap.objs.size T.a_Ledger___init__ cdv))) (h : spInitL K T.C_Ledger vs H Q E) :
    ∃ t, PSs (cxOf CX0 P w K mg base n_Ledger___init__ "Ledger.__init__" (defScope s_Ledger___init__) T.a_Ledger___init__ cdv A outer s H E).nox (defBody s_Ledger___init__) t ∧ t { nx := fun _ H' => Q .non H', rt := Q } (start n_Ledger___init__ vs) H := by
  unfold spInitL at h
  obtain ⟨p, t, dx, ts, ns, rfl, hp, ht, hts, hn, h1, h4, k⟩ := h
  refine ⟨_, (pss_cons (ps_for PassesOwn.never rfl (pi_tup (pv 1)) (pg_name (i := 2) sc_Ledger___init__.nd rfl (Or.inl rfl))
    (pss_one (ps_if (pt_not (pt_val (pe_call (ok_is_thing T) (hr.mono (by decide)) rfl T.m_is_thing T.F_is_thing.kp T.b_is_thing .nil pass0 (pa_cons (pv 2) pa_nil)))) (pss_one ps_never) pss_nil)))
    (pss_cons (ps_if (pt_cmpR op_gt (pe_callB call_len_seq (by rfl) T.z_len (by decide +kernel) (pa_cons (pv 1) pa_nil)) (ClX.pe_cval (pe_glob (v := .ref T.C_Ledger) rfl T.mc_Ledger rfl)) (nomark _)) (pss_one ps_never) pss_nil)
    (pss_cons (ps_if (pt_cmpR op_eq (pe_callB call_len_seq (by rfl) T.z_len (by decide +kernel) (pa_cons (pv 1) pa_nil)) pe_int (nomark _)) (pss_one ps_never) pss_nil)
    (pss_cons (ps_fld (pv 0) (pe_callTy call_list_of (by rfl) T.z_list (by decide +kernel) (pa_cons (pv 1) pa_nil)) rfl)
    (pss_cons (ps_fld (pv 0) (pe_lst pa_nil) rfl)
    (pss_cons (ps_fld (pv 0) (pe_lst pa_nil) rfl)
    (pss_one (ps_fld (pv 0) (pe_lst pa_nil) rfl)))))))), ?_⟩
  have hl : ts.length = ns.length := pr_len hts
  have hlm : (ts.map V.ref).length = ns.length := by rw [List.length_map, hl]
  have hcl := T.cl_Ledger
  have hcr := T.cr_Ledger
  have hcv := T.cv_Ledger_MOST_THINGS
  have hn1 := T.n_Ledger__things
  have hn2 := T.n_Ledger__rows
  have hn3 := T.n_Ledger__sides
  have hn4 := T.n_Ledger__undone
  sizeOf_list_dec
  refine for_tup (K := K) (a := t) (xs := ts.map V.ref) (fun i σ Hx => Hold (Same H Hx ∧ ∃ v, σ = [some (.ref p), some (.ref t), v])) ⟨Same.refl _, none, rfl⟩ (fun i σ Hx _ h => Same.tup h.h.1 ht) ?_ ?_
  · rintro i x σ Hx hi ⟨e, v, rfl⟩
    obtain ⟨a, ha, rfl⟩ : ∃ a, ts[i]? = some a ∧ x = .ref a := by
      rw [List.getElem?_map] at hi
      cases e : ts[i]? with
      | none => rw [e] at hi; cases hi
      | some a =>
        rw [e] at hi
        exact ⟨a, rfl, (Option.some.inj hi).symm⟩
    obtain ⟨n, h2, h3⟩ := pr_get hts ha
    refine ⟨_, rfl, isthing_go (h3.mono e) (hn n (List.mem_of_getElem? h2)) fun H3 e3 => ⟨_, rfl, iteF ?_⟩⟩
    exact ⟨e.trans e3, _, rfl⟩
  · rintro σ Hx ⟨e, v, rfl⟩
    have hp1 := e _ _ hp
    have ht1 := Same.tup e ht
    have z1 : decide (((ts.map V.ref).length : Int) > 4) = false := decide_eq_false (by omega)
    have z2 : decide (V.int ((ts.map V.ref).length : Int) = V.int 0) = false := decide_eq_false (fun z => by have := V.int.inj z; omega)
    sizeOf_list_dec
    refine gF z1 ?_
    sizeOf_list_dec
    refine gF z2 ?_
    sizeOf_list_dec
    refine ⟨pf1, ?_⟩
    sizeOf_list_dec
    refine ⟨pf2, ?_⟩
    sizeOf_list_dec
    refine ⟨pf3, ?_⟩
    rename_i a1 f1 a2 f2 a3 f3 a4 f4
    have np1 : p ≠ a1 := ne_of_none hp1 f1
    have np2 : p ≠ a2 := ne_of_none upd_same f2
    have np3 : p ≠ a3 := ne_of_none upd_same f3
    have np4 : p ≠ a4 := ne_of_none upd_same f4
    have n12 : a1 ≠ a2 := ne_of_none (by rw [upd_ne np1.symm]; exact upd_same) f2
    have n13 : a1 ≠ a3 := ne_of_none (by rw [upd_ne np1.symm, upd_ne n12, upd_ne np1.symm]; exact upd_same) f3
    have n14 : a1 ≠ a4 := ne_of_none (by rw [upd_ne np1.symm, upd_ne n13, upd_ne np1.symm, upd_ne n12, upd_ne np1.symm]; exact upd_same) f4
    have n23 : a2 ≠ a3 := ne_of_none (by rw [upd_ne np2.symm]; exact upd_same) f3
    have n24 : a2 ≠ a4 := ne_of_none (by rw [upd_ne np2.symm, upd_ne n23, upd_ne np2.symm]; exact upd_same) f4
    have n34 : a3 ≠ a4 := ne_of_none (by rw [upd_ne np3.symm]; exact upd_same) f4
    have mp : p ∈ [p] := List.mem_singleton.mpr rfl
    have F1 : Fr [p] H _ := ((Fr.of e).new f1 (o := .lst (ts.map V.ref))).put (o := .ins T.C_Ledger dx (putF "_things" (V.ref a1) [])) mp
    have F2 : Fr [p] H _ := (F1.new f2 (o := .lst [])).put (o := .ins T.C_Ledger dx (putF "_rows" (V.ref a2) (putF "_things" (V.ref a1) []))) mp
    have F3 : Fr [p] H _ := (F2.new f3 (o := .lst [])).put (o := .ins T.C_Ledger dx (putF "_sides" (V.ref a3) (putF "_rows" (V.ref a2) (putF "_things" (V.ref a1) [])))) mp
    have F4 : Fr [p] H _ := (F3.new f4 (o := .lst [])).put (o := .ins T.C_Ledger dx (putF "_undone" (V.ref a4) (putF "_sides" (V.ref a3) (putF "_rows" (V.ref a2) (putF "_things" (V.ref a1) []))))) mp
    have nm : ∀ x, p ≠ x → x ∉ [p] := fun x n h => n (List.mem_singleton.mp h).symm
    have hS : ∀ x ∈ [p], ListIns H x := fun x hx => by
      obtain rfl := List.mem_singleton.mp hx
      exact .inr ⟨_, _, _, hp⟩
    refine k ⟨dx, a1, a2, a3, a4⟩ _ ⟨?_, ⟨ts, ?_, ?_⟩, ⟨[], ?_, .nil⟩, ?_, ⟨[], ?_, .nil⟩, ?_⟩ F4 ?_
    · rw [upd_same, ← LFt.made]
    · rw [upd_ne np1.symm, upd_ne n14, upd_ne np1.symm, upd_ne n13, upd_ne np1.symm, upd_ne n12, upd_ne np1.symm]
      exact upd_same
    · exact prMp hts fun a n (h : ThOk K H a n) => fr_tup F4 hS h
    · rw [upd_ne np2.symm, upd_ne n24, upd_ne np2.symm, upd_ne n23, upd_ne np2.symm]
      exact upd_same
    · rw [upd_ne np3.symm, upd_ne n34, upd_ne np3.symm]
      exact upd_same
    · rw [upd_ne np4.symm]
      exact upd_same
    · simp [LFt.all, np1, np2, np3, np4, n12, n13, n14, n23, n24, n34]
    · intro x hx
      simp only [List.mem_cons, List.not_mem_nil, or_false] at hx
      rcases hx with rfl | rfl | rfl | rfl
      · exact (Fr.of e).free f1 (nm _ np1)
      · exact F1.free f2 (nm _ np2)
      · exact F2.free f3 (nm _ np3)
      · exact F3.free f4 (nm _ np4)

theorem ok_Ledger___init__ (T : Top K mg) : FnR P w K mg base CX0 6 T.a_Ledger___init__ (fun vs H Q E => ∃ ws rest, vs = ws ++ rest ∧ ws.length = 1 ∧ rest.length ≤ sizeLine ∧ ∀ p, H p = none → spInitL K T.C_Ledger (ws ++ [V.ref p]) (upd H p (.tup rest)) Q E) := by
  obtain ⟨oc, od, kV, doc, pm, an, cdv, ct, osl, e, lk, hcd⟩ := T.F_Ledger___init__.ex
  rw [e] at lk
  refine StX.fn_star (ps := ["self"]) (pv := "things") lk hcd sc_Ledger___init__ StX.cxUp_none (StX.bind_star1 (B := fun us => bindArgs (PySem.W.fnOf "__init__" "Ledger.__init__" (defArgs s_Ledger___init__) (defBody s_Ledger___init__) (defScope s_Ledger___init__) Value.none kV doc pm an cdv ct) ⟨us, []⟩) (p1 := "self") (pv := "things") (fun a => rfl) (fun a r rs => rfl)) fun A outer s H vs Q E hr h => ?_
  obtain ⟨t, h1, h2⟩ := ok_Ledger___init__0 (w := w) (base := base) T cdv A outer s H vs Q E hr h
  exact ⟨t, h1.nox, h2⟩

theorem ok_Ledger_things (T : Top K mg) : FnOk P w K mg base CX0 1 T.a_Ledger_things T.d_Ledger_things ["self"] (spThings K T.C_Ledger) := by
  refine T.F_Ledger_things.ok sc_Ledger_things (fun vs H Q E h => ?_) (fun cdv A outer s H vs Q E hr h => ?_)
  · unfold spThings at h
    obtain ⟨p, f, L, rfl, _⟩ := h
    rfl
  unfold spThings at h
  obtain ⟨p, f, L, rfl, L0, k⟩ := h
  have hcl := T.cl_Ledger
  have hn1 := T.n_Ledger__things
  have hins := L0.ins
  have hlk := f.lkT
  obtain ⟨ts, hth, hts⟩ := L0.th
  refine ⟨_, (pss_one (ps_ret (pe_callTy call_list_of (by rfl) T.z_list (by decide +kernel) (pa_cons (pe_fld (pv 0) rfl) pa_nil)))), ?_⟩
  sizeOf_list_dec
  rename_i a fa
  have s := same_new fa (.lst (ts.map V.ref))
  exact k a ts _ fa upd_same (prMp hts fun _ _ x => x.mono s) s
theorem ok_Ledger__check_number (T : Top K mg) : FnOk P w K mg base CX0 3 T.a_Ledger__check_number T.d_Ledger__check_number ["self", "number"] (spCheck K T.C_Ledger) := by
  refine T.F_Ledger__check_number.ok sc_Ledger__check_number (fun vs H Q E h => ?_) (fun cdv A outer s H vs Q E hr h => ?_)
  · unfold spCheck at h
    obtain ⟨p, f, L, n, rfl, _⟩ := h
    rfl
  unfold spCheck at h
  obtain ⟨p, f, L, n, rfl, L0, hn, k⟩ := h
  have hcl := T.cl_Ledger
  have hn1 := T.n_Ledger__rows
  have hins := L0.ins
  have hlk := f.lkR
  obtain ⟨rs, hro, hrs⟩ := L0.ro
  have hlen := pr_len hrs
  refine ⟨_, (pss_one (ps_if (pt_not (pt_val (pe_call (ok_is_number T) (hr.mono (by decide)) rfl T.m_is_number T.F_is_number.kp T.b_is_number .nil pass0 (pa_cons (pv 1) (pa_cons pe_int (pa_cons (pe_op op_sub (pe_callB call_len_seq (by rfl) T.z_len (by decide +kernel) (pa_cons (pe_fld (pv 0) rfl) pa_nil)) pe_int) pa_nil)))))) (pss_one ps_never) pss_nil)), ?_⟩
  sizeOf_list_dec
  have hb : numD 0 (((rs.map V.ref).length : Int) - 1) (.int (n : Nat)) = true := by
    show (decide ((0 : Int) ≤ (n : Nat)) && decide (((n : Nat) : Int) ≤ ((rs.map V.ref).length : Int) - 1)) = true
    rw [decide_eq_true (by omega), decide_eq_true (by rw [List.length_map, hlen]; omega)]
    rfl
  refine gF (by rw [hb]; rfl) ?_
  rename_i G eG
  exact k G eG
theorem check_go {C p : Addr} {n : Nat} {f : LFt} {L : LSt} {H : Hp} {Q : VK} {E : XK} (L0 : LedAt K C H p f L) (h : n < L.rows.length) (k : ∀ H', Same H H' → Q .non H') : spCheck K C [.ref p, .int (n : Nat)] H Q E := by
  unfold spCheck
  exact ⟨p, f, L, n, rfl, L0, h, k⟩
theorem ok_Ledger_row (T : Top K mg) : FnOk P w K mg base CX0 5 T.a_Ledger_row T.d_Ledger_row ["self", "number"] (spRow K T.C_Ledger) := by
  refine T.F_Ledger_row.ok sc_Ledger_row (fun vs H Q E h => ?_) (fun cdv A outer s H vs Q E hr h => ?_)
  · unfold spRow at h
    obtain ⟨p, f, L, n, r, rfl, _⟩ := h
    rfl
  unfold spRow at h
  obtain ⟨p, f, L, n, r, rfl, L0, hn, k⟩ := h
  have hcl := T.cl_Ledger
  have hn1 := T.n_Ledger__rows
  have hins := L0.ins
  have hlk := f.lkR
  have hlm : f.fs.lookup ("_check_number" : Str) = none := LFt.lkN (by decide +kernel)
  obtain ⟨rs, hro, hrs⟩ := L0.ro
  obtain ⟨a, ha, hra⟩ := pr_getR hrs hn
  have hat : atI (rs.map V.ref) ((n : Nat) : Int) = some (.ref a) := atI_nat (by rw [List.getElem?_map, ha]; rfl)
  refine ⟨_, (pss_cons (ps_expr (pe_meth (pv 0) T.cl_Ledger T.M_Ledger__check_number (ok_Ledger__check_number T) (hr.mono (by decide)) T.b_Ledger__check_number .nil pass0 (pa_cons (pv 1) pa_nil)))
    (pss_one (ps_ret (pe_callTy call_dictD (by rfl) T.z_dict (by decide +kernel) (pa_cons (pe_ix ix_list (pe_fld (pv 0) rfl) (pv 1) (fun _ _ => rfl)) pa_nil))))), ?_⟩
  sizeOf_list_dec
  refine check_go L0 (List.getElem?_eq_some_iff.mp hn).1 fun G eG => ?_
  have hins2 := eG _ _ hins
  have hro2 := eG _ _ hro
  have hra2 := Rd.of (eG _ _ hra)
  sizeOf_list_dec
  rename_i b fb
  exact k b _ (eG.free fb) upd_same (eG.trans (same_new fb _))
theorem ok_Ledger_side (T : Top K mg) : FnOk P w K mg base CX0 5 T.a_Ledger_side T.d_Ledger_side ["self", "number"] (spSide K T.C_Ledger) := by
  refine T.F_Ledger_side.ok sc_Ledger_side (fun vs H Q E h => ?_) (fun cdv A outer s H vs Q E hr h => ?_)
  · unfold spSide at h
    obtain ⟨p, f, L, n, z, rfl, _⟩ := h
    rfl
  unfold spSide at h
  obtain ⟨p, f, L, n, z, rfl, L0, hl, hn, k⟩ := h
  have hcl := T.cl_Ledger
  have hn1 := T.n_Ledger__sides
  have hins := L0.ins
  have hlk := f.lkS
  have hlm : f.fs.lookup ("_check_number" : Str) = none := LFt.lkN (by decide +kernel)
  have hsi := L0.si
  have hat : atI (L.sides.map V.str) ((n : Nat) : Int) = some (.str z) := atI_nat (by rw [List.getElem?_map, hn]; rfl)
  refine ⟨_, (pss_cons (ps_expr (pe_meth (pv 0) T.cl_Ledger T.M_Ledger__check_number (ok_Ledger__check_number T) (hr.mono (by decide)) T.b_Ledger__check_number .nil pass0 (pa_cons (pv 1) pa_nil)))
    (pss_one (ps_ret (pe_ix ix_list (pe_fld (pv 0) rfl) (pv 1) (fun _ _ => rfl))))), ?_⟩
  sizeOf_list_dec
  refine check_go L0 (by rw [← hl]; exact (List.getElem?_eq_some_iff.mp hn).1) fun G eG => ?_
  have hins2 := eG _ _ hins
  have hsi2 := eG _ _ hsi
  sizeOf_list_dec
  exact k G eG
theorem ok_Ledger___getitem__ (T : Top K mg) : FnOk P w K mg base CX0 6 T.a_Ledger___getitem__ T.d_Ledger___getitem__ ["self", "number"] (spSide K T.C_Ledger) := by
  refine T.F_Ledger___getitem__.ok sc_Ledger___getitem__ (fun vs H Q E h => ?_) (fun cdv A outer s H vs Q E hr h => ?_)
  · unfold spSide at h
    obtain ⟨p, f, L, n, z, rfl, _⟩ := h
    rfl
  unfold spSide at h
  obtain ⟨p, f, L, n, z, rfl, L0, hl, hn, k⟩ := h
  have hcl := T.cl_Ledger
  have hins := L0.ins
  have hlm : f.fs.lookup ("side" : Str) = none := LFt.lkN (by decide +kernel)
  refine ⟨_, (pss_one (ps_ret (pe_meth (pv 0) T.cl_Ledger T.M_Ledger_side (ok_Ledger_side T) (hr.mono (by decide)) T.b_Ledger_side .nil pass0 (pa_cons (pv 1) pa_nil)))), ?_⟩
  sizeOf_list_dec
  unfold spSide
  exact ⟨p, f, L, n, z, rfl, L0, hl, hn, k⟩
theorem ok_Ledger___len__ (T : Top K mg) : FnOk P w K mg base CX0 1 T.a_Ledger___len__ T.d_Ledger___len__ ["self"] (spLen K T.C_Ledger) := by
  refine T.F_Ledger___len__.ok sc_Ledger___len__ (fun vs H Q E h => ?_) (fun cdv A outer s H vs Q E hr h => ?_)
  · unfold spLen at h
    obtain ⟨p, f, L, rfl, _⟩ := h
    rfl
  unfold spLen at h
  obtain ⟨p, f, L, rfl, L0, k⟩ := h
  have hcl := T.cl_Ledger
  have hn1 := T.n_Ledger__rows
  have hins := L0.ins
  have hlk := f.lkR
  obtain ⟨rs, hro, hrs⟩ := L0.ro
  refine ⟨_, (pss_one (ps_ret (pe_callB call_len_seq (by rfl) T.z_len (by decide +kernel) (pa_cons (pe_fld (pv 0) rfl) pa_nil)))), ?_⟩
  sizeOf_list_dec
  rw [List.length_map, pr_len hrs]
  exact k
theorem few {n : Nat} (h : n ≤ 200) : ((n : Nat) : Int).natAbs.log2 < 1920 := by
  have e : ((n : Nat) : Int).natAbs = n := rfl
  rw [e]
  have := Nat.log2_lt (n := n) (k := 8)
  by_cases hz : n = 0
  · subst hz
    decide
  · have := (Nat.log2_lt hz).mpr (show n < 2 ^ 8 by omega)
    omega
theorem ok_Ledger___repr__ (T : Top K mg) : FnOk P w K mg base CX0 1 T.a_Ledger___repr__ T.d_Ledger___repr__ ["self"] (spRepr K T.C_Ledger) := by
  refine T.F_Ledger___repr__.ok sc_Ledger___repr__ (fun vs H Q E h => ?_) (fun cdv A outer s H vs Q E hr h => ?_)
  · unfold spRepr at h
    obtain ⟨p, f, L, rfl, _⟩ := h
    rfl
  unfold spRepr at h
  obtain ⟨p, f, L, rfl, L0, hl, k⟩ := h
  have hcl := T.cl_Ledger
  have hn1 := T.n_Ledger__sides
  have hins := L0.ins
  have hlk := f.lkS
  have hsi := L0.si
  have hlots := T.q_LOTS H
  have hl0 : atI ([.str "learn", .str "judge"] : List V) 0 = some (.str "learn") := rfl
  have hl1 : atI ([.str "learn", .str "judge"] : List V) 1 = some (.str "judge") := rfl
  refine ⟨_, (pss_one (ps_ret (pe_joined (.cons pe_str (.cons (pe_fmt (pe_bm PySem.F.plainAttrs_list PySem.F.slot_list_count PySem.F.type_list_count mt_lcountS (pe_fld (pv 0) rfl) (pa_cons (pe_ix ix_tup (pe_glob rfl T.c_LOTS T.r_LOTS) pe_int (fun _ _ => rfl)) pa_nil))) (.cons pe_str (.cons (pe_fmt (pe_bm PySem.F.plainAttrs_list PySem.F.slot_list_count PySem.F.type_list_count mt_lcountS (pe_fld (pv 0) rfl) (pa_cons (pe_ix ix_tup (pe_glob rfl T.c_LOTS T.r_LOTS) pe_int (fun _ _ => rfl)) pa_nil))) (.cons pe_str .nil)))))))), ?_⟩
  have c1 : L.sides.count ("learn" : Str) ≤ 200 := Nat.le_trans List.count_le_length hl
  have c2 : L.sides.count ("judge" : Str) ≤ 200 := Nat.le_trans List.count_le_length hl
  have k1 := few c1
  have k2 := few c2
  have t1 := PyProof.Rows.int_text_len_1921 k1
  have t2 := PyProof.Rows.int_text_len_1921 k2
  unfold ledTxt at k
  have l0 : (Str.empty).length = 0 := rfl
  have l1 : ("Ledger(" : Str).length = 7 := by decide +kernel
  have l2 : (" learn, " : Str).length = 8 := by decide +kernel
  have l3 : (" judge)" : Str).length = 7 := by decide +kernel
  sizeOf_list_dec
  refine ⟨.inl ⟨rfl, _, SqL.of hsi⟩, ?_⟩
  sizeOf_list_dec
  refine ⟨small (by rw [strLen_append, strLen_append]; omega), _, rfl, small (by rw [strLen_append, strLen_append, strLen_append]; omega), ?_⟩
  sizeOf_list_dec
  refine ⟨.inl ⟨rfl, _, SqL.of hsi⟩, ?_⟩
  sizeOf_list_dec
  refine ⟨small (by rw [strLen_append, strLen_append, strLen_append, strLen_append]; omega), _, rfl, small (by rw [strLen_append, strLen_append, strLen_append, strLen_append, strLen_append]; omega), ?_⟩
  exact k
/-- the walk, as a generator -/
theorem okg_walk (T : Top K mg) : GFn P w K mg base 4 T.a_Ledger_walk T.d_Ledger_walk ["self", "lot"] (spWalk K T.C_Ledger) := by
  obtain ⟨oc, od, kV, doc, pm, an, cdv, ct, osl, e, lk, hcd⟩ := T.F_Ledger_walk.ex
  rw [e] at lk ⊢
  refine gfn_of lk hcd sc_Ledger_walk (fun vs H Q E h => ?_) fun A outer s H vs Q E pn hr h => ?_
  · unfold spWalk at h
    obtain ⟨p, z, f, L, rfl, _⟩ := h
    rfl
  unfold spWalk at h
  obtain ⟨p, z, f, L, rfl, hz, L0, hl, k⟩ := h
  have hcl := T.cl_Ledger
  have hn1 := T.n_Ledger__sides
  have hins := L0.ins
  have hlk := f.lkS
  have hsi := L0.si
  have hlots := T.q_LOTS H
  have hin := lot_in hz
  have hnin : (!inV (.str z) [.str "learn", .str "judge"]) = false := by rw [hin]; rfl
  refine ⟨_, (gss_cons (gs_ps (ps_if (pt_cmpR op_notIn_seq (pv 1) (pe_glob rfl T.c_LOTS T.r_LOTS) rfl) (pss_one ps_never) pss_nil))
    (gss_cons (gs_ps (ps_setLc (i := 2) (own := [("number", 3), ("taken", 4)]) (g := gTup K 2 (gCons (gName 3) (gCons (gName 4) gNil))) rfl sc_Ledger_walk.nd rfl rfl (sw_true rfl rfl rfl (by decide +kernel)) (pi_enum (by rfl) T.z_enumerate (pa_cons (pe_fld (pv 0) rfl) pa_nil)) (blkOk_by (own := [("number", 3), ("taken", 4)]) (N := n_Ledger_walk) (sc := defScope s_Ledger_walk) (by decide +kernel)) (fun _ _ _ _ _ => by exact (pg_tup rfl (pgs_cons (pg_name (i := 3) sc_Ledger_walk.nd rfl (Or.inl rfl)) (pgs_cons (pg_name (i := 4) sc_Ledger_walk.nd rfl (Or.inl rfl)) pgs_nil)))) (fun _ _ _ _ _ => (pts_one (pt_cmpR op_eq (pv 4) (pv 1) (nomark _)))) (fun _ _ _ _ _ => (pv 3))))
    (gss_cons (gs_for owns_gcx rfl (pi_list (pv 2)) (pg_name (i := 3) sc_Ledger_walk.nd rfl (Or.inl rfl))
    (gss_cons (gs_yield (pv 3))
    gss_nil))
    gss_nil))), ?_⟩
  sizeOf_list_dec
  refine gF hnin ?_
  sizeOf_list_dec
  rename_i D fD
  have hlr : (List.range L.sides.length).length = L.sides.length := List.length_range
  refine lc_it (walk_enum (K := K) (a := f.si) (xs := L.sides.map V.str)) (fun i Hx => Hold (Same H Hx ∧ Hx D = some (.lst ((inLot L.sides z ((List.range L.sides.length).take i)).map fun j => V.int (j : Nat))))) ⟨same_new fD _, upd_same⟩ (fun i Hx _ h => SqL.of (h.h.1 _ _ hsi)) ?_ ?_
  · rintro i x Hx Hy hi ⟨e, hD⟩ ⟨Tp, y1, y2, rfl, fT, rfl, h1, h2⟩
    obtain rfl : V.int (i : Nat) = y1 := Option.some.inj h1
    obtain ⟨z2, hz2, rfl⟩ := str_get h2
    have il : i < L.sides.length := (List.getElem?_eq_some_iff.mp hz2).1
    have sT := same_new fT (.tup [V.int (i : Nat), V.str z2])
    have hst := inLot_step (sides := L.sides) (z := z) (is := List.range L.sides.length) (j := i) (n := i) (by rw [List.getElem?_range il])
    rw [hz2] at hst
    have hD2 := sT _ _ hD
    sizeOf_list_dec
    refine ite2 (fun hy => ?_) (fun hn => ?_)
    · have hy : z2 = z := V.str.inj (of_decide_eq_true hy)
      rw [hy, decide_eq_true rfl, if_pos rfl] at hst
      refine ⟨_, rfl, _, hD2, ?_, ⟨Same.mut (e.trans sT) fD _, ?_⟩⟩
      · rw [List.length_map]
        have := inLot_len (sides := L.sides) (z := z) (is := (List.range L.sides.length).take i)
        rw [List.length_take] at this
        exact small' (by omega)
      · rw [upd_same, hst, List.map_append]
        rfl
    · have hn : ¬ (some z2 = some z) := fun q => hn (by rw [Option.some.inj q]; exact decide_eq_true rfl)
      rw [decide_eq_false hn, if_neg (fun q => by cases q), List.append_nil] at hst
      refine ⟨e.trans sT, ?_⟩
      rw [hst]
      exact hD2
  rintro Hx ⟨e, hD⟩
  have hlm : (L.sides.map V.str).length = (List.range L.sides.length).length := by rw [List.length_map, hlr]
  rw [hlm, List.take_length] at hD
  have hwl : (walkOf L.sides z).length ≤ 200 := Nat.le_trans inLot_len (by rw [hlr]; exact hl)
  have hD : Hx D = some (.lst ((walkOf L.sides z).map fun j => V.int (j : Nat))) := hD
  refine ⟨_, rfl, D, rfl, ⟨_, SqL.of hD⟩, ?_⟩
  refine gfor_list (K := K) (a := D) (xs := (walkOf L.sides z).map fun j => V.int (j : Nat)) (fun i ys σ Hy => Hold (Hy = Hx ∧ ys = ((walkOf L.sides z).map fun j => V.int (j : Nat)).take i ∧ ∃ v, σ = [some (.ref p), some (.str z), some (.ref D), v, none])) ⟨rfl, rfl, _, rfl⟩ (fun i ys σ Hy _ h => by rw [h.h.1]; exact SqL.of hD) ?_ ?_
  · rintro i x ys σ Hy hi ⟨rfl, rfl, v, rfl⟩
    have il := (List.getElem?_eq_some_iff.mp hi).1
    rw [List.length_map] at il
    refine ⟨small' (by rw [List.length_take, List.length_map]; omega), _, rfl, ?_⟩
    exact ⟨rfl, by rw [List.take_add_one, hi]; rfl, _, rfl⟩
  · rintro ys σ Hy ⟨rfl, rfl, v, rfl⟩
    rw [List.take_length]
    exact k _ e
end
end Bl

namespace Bl
open PySem L2
open SX (S)
abbrev n_names : List Str := ["_law_box_here", "_law_many", "_law_letters", "_law_stem", "_law_spot", "_law_first", "_law_found", "_law_k", "_law_word"]
theorem sc_names : FnScope n_names ["_law_box_here", "_law_many"] (defScope s_names) := ⟨rfl, rfl, rfl, by decide +kernel, rfl, by decide +kernel, by decide +kernel⟩
section
variable {P : Program} {w : World} {K : PySem.W.Frag} {mg : Str → Option Value} {base : Heap}
theorem ok_names (T : Top K mg) : FnOk P w K mg base CX0 3 T.a_names T.d_names ["_law_box_here", "_law_many"] (spNames K) := by
  refine T.F_names.ok sc_names (fun vs H Q E h => ?_) (fun cdv A outer s H vs Q E hr h => ?_)
  · obtain ⟨p, b, n, rfl, _⟩ := h
    rfl
  obtain ⟨p, b, n, rfl, B, hn1, hn5, k⟩ := h
  refine ⟨_, (pss_cons (ps_set (i := 2) sc_names.nd rfl (Or.inr rfl) pe_str)
    (pss_cons (ps_set (i := 3) sc_names.nd rfl (Or.inr rfl) (pe_join pe_str (pe_lc (own := [("_law_k", 7)]) (g := gName 7) (tt := tYes) rfl sc_names.nd (pi_range1 (by rfl) T.z_range (pa_cons (pe_call (ok_of T) (hr.mono (by decide)) rfl T.m_of T.F_of.kp T.b_of .nil pass0 (pa_cons (pv 0) (pa_cons (pe_lst (pa_cons pe_int (pa_cons pe_int (pa_cons pe_int (pa_cons pe_int pa_nil))))) pa_nil))) pa_nil)) (blkOk_by (own := [("_law_k", 7)]) (N := n_names) (sc := defScope s_names) (by decide +kernel)) (fun _ _ _ _ _ => (pg_name (i := 7) sc_names.nd rfl (Or.inl rfl))) (fun _ _ _ _ _ => pts_nil) (fun _ _ _ _ _ => (pe_call (ok_of T) (hr.mono (by decide)) rfl T.m_of T.F_of.kp T.b_of .nil pass0 (pa_cons (pv 0) (pa_cons (pv 2) pa_nil)))))))
    (pss_cons (ps_asg (pe_tup (pa_cons (pe_call (ok_pull T) (hr.mono (by decide)) rfl T.m_pull T.F_pull.kp T.b_pull .nil pass0 (pa_cons (pv 0) (pa_cons (pe_op op_add (pe_callB call_len_str (by rfl) T.z_len (by decide +kernel) (pa_cons (pv 3) pa_nil)) pe_int) pa_nil))) (pa_cons (pe_call (ok_pull T) (hr.mono (by decide)) rfl T.m_pull T.F_pull.kp T.b_pull .nil pass0 (pa_cons (pv 0) (pa_cons pe_int pa_nil))) pa_nil))) (pg_tup rfl (pgs_cons (pg_name (i := 4) sc_names.nd rfl (Or.inr rfl)) (pgs_cons (pg_name (i := 5) sc_names.nd rfl (Or.inr rfl)) pgs_nil))))
    (pss_cons (ps_setLc (i := 6) (own := [("_law_k", 7)]) (g := gName 7) (tt := tYes) rfl sc_names.nd rfl rfl (sw_true rfl rfl rfl (by decide +kernel)) (pi_range1 (by rfl) T.z_range (pa_cons (pe_op op_add (pv 1) pe_int) pa_nil)) (blkOk_by (own := [("_law_k", 7)]) (N := n_names) (sc := defScope s_names) (by decide +kernel)) (fun _ _ _ _ _ => (pg_name (i := 7) sc_names.nd rfl (Or.inl rfl))) (fun _ _ _ _ _ => pts_nil) (fun _ _ _ _ _ => (pe_op op_add_str (pe_op op_add_str (pe_slice sl_str (pv 3) po_none (po_some (pv 4))) (pe_ix ix_str (pv 2) (pe_op op_mod (pe_callTy call_int1 (by rfl) T.z_int (by decide +kernel) (pa_cons (pe_op op_add (pv 5) (pe_op op_mul pe_int (pv 7))) pa_nil)) pe_int) (fun _ _ => rfl))) (pe_slice sl_str (pv 3) (po_some (pv 4)) po_none))))
    (pss_one (ps_ret (pe_slice sl_list (pe_lc (own := [("_law_word", 8)]) (g := gName 8) rfl sc_names.nd (pi_list (pv 6)) (blkOk_by (own := [("_law_word", 8)]) (N := n_names) (sc := defScope s_names) (by decide +kernel)) (fun _ _ _ _ _ => (pg_name (i := 8) sc_names.nd rfl (Or.inl rfl))) (fun _ _ _ _ _ => (pts_one (pt_cmpR (r := rIn K true) op_notIn_seq (pv 8) (pe_lst (pa_cons pe_str (pa_cons pe_str (pa_cons pe_str (pa_cons pe_str pa_nil))))) rfl))) (fun _ _ _ _ _ => (pv 8))) po_none (po_some (pv 1))))))))), ?_⟩
  -- the stem
  refine ⟨⟨_, rfl⟩, _, rfl, (by show 4 ≤ sizeLine; decide), fun l hl => ?_⟩
  have B1 := B.new hl (.lst [.int 0, .int 1, .int 2, .int 5])
  have e1 : But p H _ := But.of (same_new hl (.lst [.int 0, .int 1, .int 2, .int 5]))
  refine ⟨p, b, _, rfl, B1, .inl ⟨l, _, rfl, .inl (SqL.of (hid_same (B.ne hl))), (by decide), (by decide), fun i x H1 hx B2 e2 => ?_⟩⟩
  obtain ⟨j, rfl, hj⟩ : ∃ j : Nat, x = .int (j : Int) ∧ (j = 0 ∨ j = 1 ∨ j = 2 ∨ j = 5) := by
    match i, hx with
    | 0, h => exact ⟨0, (Option.some.inj h).symm, by decide⟩
    | 1, h => exact ⟨1, (Option.some.inj h).symm, by decide⟩
    | 2, h => exact ⟨2, (Option.some.inj h).symm, by decide⟩
    | 3, h => exact ⟨5, (Option.some.inj h).symm, by decide⟩
    | n + 4, h => cases h
  have e12 : But p H H1 := Same.trans e1 e2
  clear e1 e2 B1
  refine ⟨(j : Int), rfl, by omega, by omega, fun D hD => ?_⟩
  have nD := B2.ne hD
  have nDb := B2.nl hD
  refine lc_range (lo := 0) (n := (j : Int).toNat) (fun i H2 => BoxAt H2 p b ∧ But p H1 H2 ∧ ∃ cs : List Nat, cs.length = i ∧ (∀ c ∈ cs, c ∈ alpha) ∧ H2 D = some (.lst ((cs.map fun c => S [c]).map V.str)))
    ⟨B2.new hD _, But.of (same_new hD _), [], rfl, (by intro c hc; cases hc), upd_same⟩ ?_ ?_
  · rintro i H2 hi ⟨B3, e3, cs, hcs, hlow, hd⟩
    refine ⟨rfl, _, rfl, _, rfl, p, b, _, rfl, B3, .inr ⟨_, rfl, by decide +kernel, by decide +kernel, fun c H3 hc B4 e4 => ?_⟩⟩
    have hd' : H3 D = some (.lst ((cs.map fun c => S [c]).map V.str)) := hide_le _ _ (e4 _ _ (by rw [hide_ne nD]; exact hd))
    refine ⟨_, hd', ?_, B4.mut nD nDb _, But.mut (Same.trans e3 e4) hD _, cs ++ [c], by rw [List.length_append, hcs]; rfl, ?_, ?_⟩
    · rw [List.length_map, List.length_map]
      exact small' (by omega)
    · intro x hx
      rcases List.mem_append.mp hx with h | h
      · exact hlow x h
      · rw [List.mem_singleton.mp h, ← alpha_eq]
        exact hc
    · rw [upd_same, List.map_append, List.map_append]
      rfl
  · rintro H2 ⟨B3, e3, cs, hcs, hlow, hd⟩
    rw [Int.toNat_natCast] at hcs
    refine ⟨_, D, cs.map fun c => S [c], rfl, rfl, .inl (SqL.of hd), ?_, ?_⟩
    · have h1 : ∀ l : List Nat, ((l.map fun c => S [c]).map (·.length)).sum = l.length := by
        intro l
        induction l with
        | nil => rfl
        | cons c l ih =>
          rw [List.map_cons, List.map_cons, List.sum_cons, ih, List.length_cons]
          show 1 + l.length = l.length + 1
          omega
      rw [h1, show ("" : Str).length = 0 by decide +kernel, Nat.mul_zero]
      omega
    rw [join_one]
    have e123 : But p H H2 := Same.trans e12 e3
    -- spot, first
    refine ⟨_, rfl, _, rfl, _, rfl, small (by rw [SX.S_len]; omega), _, _, rfl, rfl, ?_⟩
    refine ⟨p, b, _, rfl, B3, by omega, by rw [SX.S_len]; omega, fun sp H3 hsp0 hsp1 B4 e4 => ?_⟩
    refine ⟨_, rfl, p, b, _, rfl, B4, by decide, by decide, fun fi H4 hf0 hf1 B5 e5 => ?_⟩
    obtain ⟨sp, rfl⟩ := Int.eq_ofNat_of_zero_le hsp0
    obtain ⟨f, rfl⟩ := Int.eq_ofNat_of_zero_le hf0
    rw [SX.S_len] at hsp1
    have hsp : sp ≤ cs.length := by omega
    refine ⟨(by show 2 ≤ sizeLine; decide), fun t ht => ?_⟩
    have B6 := B5.new ht (.tup [.int sp, .int f])
    have e6 : But p H _ := Same.trans e123 (Same.trans e4 (Same.trans e5 (But.of (same_new ht (.tup [.int sp, .int f])))))
    have ht1 : (upd H4 t (.tup [.int sp, .int f])) t = some (.tup [.int sp, .int f]) := upd_same
    refine ⟨t, _, rfl, SqT.of ht1, rfl, _, _, rfl, _, _, rfl, rfl, ?_⟩
    show tSeq _ _ _ _ (upd H4 t (.tup [.int sp, .int f]))
    generalize (upd H4 t (.tup [.int sp, .int f])) = H5 at B6 e6 ⊢
    -- the words
    refine ⟨_, rfl, _, _, rfl, rfl, _, rfl, (by omega), (by omega), fun D2 hD2 => ?_⟩
    refine lc_range (lo := 0) (n := ((n : Int) + 2).toNat) (fun i H2 => Same H5 H2 ∧ H2 D2 = some (.lst (((List.range i).map (wd cs sp f)).map nameV))) ⟨same_new hD2 _, upd_same⟩ ?_ ?_
    · rintro i H6 hi ⟨g, hd6⟩
      have hidx : ((f : Int) + 7 * (0 + (i : Int))) % 26 = (((f + 7 * i) % 26 : Nat) : Int) := by omega
      have hlt : (f + 7 * i) % 26 < 26 := Nat.mod_lt _ (by decide)
      refine ⟨rfl, _, rfl, _, rfl, _, rfl, _, rfl, small (by rw [SX.S_len]; omega), ?_⟩
      refine ⟨_, rfl, _, rfl, _, rfl, _, _, rfl, rfl, .inl (by constructor <;> decide), _, _, rfl, rfl, .inl ⟨_, rfl, _, _, rfl, rfl, (by show (0 : Int) < 26; decide), ?_⟩⟩
      refine ⟨_, _, alpha.getD ((f + 7 * i) % 26) 0, rfl, rfl, (by decide +kernel), ?_, ?_⟩
      · rw [hidx, alpha_eq]
        exact atI_nat (alpha_at _ hlt)
      · rw [cut_pre hsp]
        refine ⟨_, _, rfl, rfl, ?_, ?_⟩
        · rw [SX.S_len, List.length_take]
          show min sp cs.length + 1 ≤ sizeLine
          exact small (by omega)
        refine ⟨_, rfl, _, rfl, _, rfl, _, rfl, small (by rw [SX.S_len]; omega), ?_⟩
        rw [cut_suf hsp]
        have ew : S (cs.take sp) ++ (⟨#[alpha.getD ((f + 7 * i) % 26) 0]⟩ : Str) ++ S (cs.drop sp) = S (wd cs sp f i) := by
          show S (cs.take sp) ++ S [alpha.getD ((f + 7 * i) % 26) 0] ++ S (cs.drop sp) = _
          rw [SX.S_cat, SX.S_cat, List.append_assoc]
          rfl
        refine ⟨_, _, rfl, rfl, ?_, ?_⟩
        · have h1 : (S (cs.take sp) ++ (⟨#[alpha.getD ((f + 7 * i) % 26) 0]⟩ : Str)).length = min sp cs.length + 1 := by
            show (S (cs.take sp) ++ S [alpha.getD ((f + 7 * i) % 26) 0]).length = _
            rw [SX.S_cat, SX.S_len, List.length_append, List.length_take]
            rfl
          rw [h1, SX.S_len, List.length_drop]
          exact small (by omega)
        · rw [ew]
          refine ⟨_, hd6, ?_, Same.mut g hD2 _, ?_⟩
          · rw [List.length_map, List.length_map, List.length_range]
            exact small' (by omega)
          · rw [upd_same, List.range_succ, List.map_append, List.map_append]
            rfl
    rintro H6 ⟨g6, hd6⟩
    rw [show ((n : Int) + 2).toNat = n + 2 by omega] at hd6
    obtain ⟨hz1, hz2, hz3, hz4⟩ := wds_names (sp := sp) (f := f) hn5 hlow (by omega)
    -- those let
    refine ⟨_, rfl, D2, rfl, ⟨_, SqL.of hd6⟩, fun D3 hD3 => ?_⟩
    refine lc_list (K := K) (a := D2) (xs := (wds cs sp f (n + 2)).map nameV) (fun i H2 => Same H6 H2 ∧ H2 D3 = some (.lst ((((wds cs sp f (n + 2)).take i).filter keepB).map nameV))) ⟨same_new hD3 _, upd_same⟩ (fun i H2 _ q => q.1.seq (SqL.of hd6)) ?_ ?_
    · rintro i x H7 hx ⟨g, hd7⟩
      rw [List.getElem?_map] at hx
      obtain ⟨z, hz, rfl⟩ : ∃ z, (wds cs sp f (n + 2))[i]? = some z ∧ x = nameV z := by
        cases e : (wds cs sp f (n + 2))[i]? with
        | none => rw [e] at hx; cases hx
        | some z => rw [e] at hx; exact ⟨z, rfl, (Option.some.inj hx).symm⟩
      refine ⟨rfl, _, rfl, (by show 4 ≤ sizeLine; decide), fun l4 hl4 => ?_⟩
      have g8 := g.trans (same_new hl4 (.lst bads))
      have hd8 : (upd H7 l4 (.lst bads)) D3 = some (.lst ((((wds cs sp f (n + 2)).take i).filter keepB).map nameV)) := by
        rw [upd_ne (ne_of_none hd7 hl4)]
        exact hd7
      refine ⟨l4, bads, rfl, .inl (SqL.of upd_same), rfl, rfl, _, rfl, ?_⟩
      show if (!inV (.str (S z)) bads) = true then _ else _
      rw [inV_bads]
      have ef : ((wds cs sp f (n + 2)).take (i + 1)).filter keepB = ((wds cs sp f (n + 2)).take i).filter keepB ++ (if keepB z = true then [z] else []) := by
        rw [List.take_add_one, hz, List.filter_append]
        congr 1
        by_cases hk : keepB z = true
        · rw [if_pos hk]
          exact List.filter_cons_of_pos hk
        · rw [if_neg hk]
          exact List.filter_cons_of_neg hk
      refine ite2 (fun hk => ?_) (fun hk => ?_)
      · have hk' : keepB z = true := hk
        rw [if_pos hk'] at ef
        refine ⟨_, rfl, _, hd8, ?_, Same.mut g8 hD3 _, ?_⟩
        · rw [List.length_map]
          have h1 := List.length_filter_le keepB ((wds cs sp f (n + 2)).take i)
          have h2 : ((wds cs sp f (n + 2)).take i).length ≤ n + 2 := by
            rw [List.length_take]
            unfold wds
            rw [List.length_map, List.length_range]
            omega
          exact small' (by omega)
        · rw [upd_same, ef, List.map_append]
          rfl
      · have hk' : ¬ keepB z = true := hk
        rw [if_neg hk', List.append_nil] at ef
        refine ⟨g8, ?_⟩
        rw [ef]
        exact hd8
    · rintro H7 ⟨g7, hd7⟩
      rw [List.length_map, List.take_of_length_le (Nat.le_refl _)] at hd7
      refine ⟨_, rfl, _, rfl, D3, _, rfl, SqL.of hd7, fun q hq => ?_⟩
      rw [cutV_pre, ← List.map_take]
      have B7 := (B6.mono g6).mono g7
      have e7 : But p H H7 := Same.trans e6 (But.of (g6.trans g7))
      refine k q _ _ hz1 hz2 hz3 ⟨_, hz4⟩ ?_ (B7.ne hq) upd_same (B7.new hq _) (Same.trans e7 (But.of (same_new hq _)))
      exact e7.free (hide_free hq)
end
end Bl

namespace Bl
open PySem L2
open SX (S)
/-! short words: array_get_dec closes a side condition; array_mem_dec goes one step into a reading; sizeOf_list_dec goes on while it can -/
local macro_rules | `(tactic| array_get_dec) => `(tactic| first
  | (with_reducible assumption)
  | ((with_reducible apply Bl.gEq); first
    | rfl
    | assumption
    | exact upd_same
    | (with_reducible exact kit_d some_str)
    | (with_reducible exact kit_d some_int)
    | (with_reducible exact kit_d some_bool)
    | (with_reducible exact kit_d some_list)
    | (with_reducible exact kit_d some_tuple)
    | ((with_reducible apply Bl.get_new); assumption; array_get_dec)
    | ((with_reducible apply Bl.get_tr); assumption; array_get_dec)
    )
  | ((with_reducible apply Bl.gLe); first
    | omega
    | exact small (by omega)
    | exact small (by simp only [List.length_cons, List.length_nil]; decide)
    | exact small (by simp only [List.length_append, List.length_cons, List.length_nil]; omega)
    | decide)
  | ((with_reducible apply Bl.gLt); first
    | omega
    | exact small' (by omega)
    | exact small' (by simp only [List.length_cons, List.length_nil]; decide)
    | decide)
  | ((fail_if_success (with_reducible apply Bl.gEq)); (fail_if_success (with_reducible apply Bl.gLe)); (fail_if_success (with_reducible apply Bl.gLt)); first
    | assumption
    | exact SqL.of upd_same
    | exact SqT.of upd_same
    | ((with_reducible apply SqL.of); assumption)
    | ((with_reducible apply SqT.of); assumption)
    | exact Same.refl _
    | exact .ty _
    | exact .str _
    | exact .int _
    | exact ⟨_, rfl⟩
    | ((with_reducible apply Dp.ty); assumption)
    | ((with_reducible apply Bl.seq_new); assumption; array_get_dec)
    | ((with_reducible apply Bl.tup_new); assumption; array_get_dec)
    | ((with_reducible apply Bl.dp_new); assumption; array_get_dec)
    | ((with_reducible apply Bl.dpa_new); assumption; array_get_dec)
    | ((with_reducible apply Bl.same_nw); assumption; array_get_dec)
    | ((with_reducible apply Bl.seq_tr); assumption; array_get_dec)
    | ((with_reducible apply Bl.tup_tr); assumption; array_get_dec)
    | ((with_reducible apply Bl.dp_tr); assumption; array_get_dec)
    | ((with_reducible apply Bl.dpa_tr); assumption; array_get_dec)
    | ((with_reducible apply Bl.same_tr); assumption; array_get_dec)
    | ((with_reducible apply Dp.ty); assumption)
    | ((with_reducible apply Dp.ty); array_get_dec)
    | ((with_reducible refine Or.inl ?_); array_get_dec)
    | ((with_reducible refine Or.inr ?_); array_get_dec)
    | ((with_reducible apply Bl.gEx); array_get_dec)))
local macro_rules | `(tactic| array_mem_dec) => `(tactic| first
  | ((with_reducible apply Bl.gIte); first
    | (refine Bl.gT (by rfl) ?_)
    | (refine Bl.gF (by rfl) ?_))
  | ((fail_if_success (with_reducible apply Bl.gIte)); (fail_if_success (with_reducible apply Bl.gLoop)); (fail_if_success (with_reducible apply Bl.gComp)); (fail_if_success (with_reducible apply Bl.gWhile)); first
    | (with_reducible intro _ _)
    | (with_reducible intro _)
    | (refine And.intro (by array_get_dec) ?_)
    | (apply Bl.gEx)
    | (refine Or.inl (And.intro (by array_get_dec) ?_))
    | (refine Or.inr (And.intro (by array_get_dec) ?_))
    | (refine Or.inl ⟨_, by array_get_dec, ?_⟩)
    | (refine Or.inr ⟨_, by array_get_dec, ?_⟩)
    ))
local macro_rules | `(tactic| sizeOf_list_dec) => `(tactic| repeat array_mem_dec)

abbrev n_mixed : List Str := ["_law_box_here", "_law_some", "_law_found", "_law_item"]
theorem sc_mixed : FnScope n_mixed ["_law_box_here", "_law_some"] (defScope s_mixed) := ⟨rfl, rfl, rfl, by decide +kernel, rfl, by decide +kernel, by decide +kernel⟩
abbrev n_fields : List Str := ["_law_box_here", "_law_words", "_law_k"]
theorem sc_fields : FnScope n_fields ["_law_box_here", "_law_words"] (defScope s_fields) := ⟨rfl, rfl, rfl, by decide +kernel, rfl, by decide +kernel, by decide +kernel⟩
abbrev n_entry : List Str := ["_law_box_here", "_law_words", "_law_pool", "_law_word"]
theorem sc_entry : FnScope n_entry ["_law_box_here", "_law_words", "_law_pool"] (defScope s_entry) := ⟨rfl, rfl, rfl, by decide +kernel, rfl, by decide +kernel, by decide +kernel⟩
@[irreducible] def spMixed (K : PySem.W.Frag) : Sp := fun vs H Q _ => ∃ (p l q : Addr) (xs : List V), vs = [.ref p, .ref q] ∧ BoxAt H p l ∧ SqL K (hide p H) q xs ∧ xs.length ≤ 100 ∧
  ∀ (a : Addr) (ys : List V) (H' : Hp), ys.Perm xs → hide p H a = none → a ≠ p → H' a = some (.lst ys) → BoxAt H' p l → But p H H' → Q (.ref a) H'
section
variable {P : Program} {w : World} {K : PySem.W.Frag} {mg : Str → Option Value} {base : Heap}
theorem ok_mixed (T : Top K mg) : FnOk P w K mg base CX0 3 T.a_mixed T.d_mixed ["_law_box_here", "_law_some"] (spMixed K) := by
  refine T.F_mixed.ok sc_mixed (fun vs H Q E h => ?_) (fun cdv A outer s H vs Q E hr h => ?_)
  · unfold spMixed at h
    obtain ⟨p, b, q, xs, rfl, _⟩ := h
    rfl
  unfold spMixed at h
  obtain ⟨p, b, q, xs, rfl, B, hq, hl, k⟩ := h
  refine ⟨_, (pss_cons (ps_set (i := 2) sc_mixed.nd rfl (Or.inl rfl) (pe_lst pa_nil))
    (pss_cons (ps_for PassesOwn.never rfl (pi_list (pv 1)) (pg_name (i := 3) sc_mixed.nd rfl (Or.inl rfl))
    (pss_one (ps_expr (pe_bm PySem.F.plainAttrs_list PySem.F.slot_list_insert PySem.F.type_list_insert mt_insert (pv 2) (pa_cons (pe_call (ok_pull T) (hr.mono (by decide)) rfl T.m_pull T.F_pull.kp T.b_pull .nil pass0 (pa_cons (pv 0) (pa_cons (pe_op op_add (pe_callB call_len_seq (by rfl) T.z_len (by decide +kernel) (pa_cons (pv 2) pa_nil)) pe_int) pa_nil))) (pa_cons (pv 3) pa_nil))))))
    (pss_one (ps_ret (pv 2))))), ?_⟩
  refine ⟨by show 0 ≤ sizeLine; decide, fun D fD => ?_⟩
  have B1 := B.new fD (.lst [])
  have nD := B.ne fD
  have nDb := B.nl fD
  refine ⟨_, rfl, q, rfl, ⟨_, ((hide_le : Same (hide p H) H).trans (same_new fD _)).seq hq⟩, ?_⟩
  refine for_list (K := K) (a := q) (xs := xs) (fun i σ H2 => Hold (BoxAt H2 p b ∧ But p H H2 ∧ ∃ (ys : List V) (v : Option V), ys.Perm (xs.take i) ∧ H2 D = some (.lst ys) ∧ σ = [some (.ref p), some (.ref q), some (.ref D), v])) ⟨B1, But.of (same_new fD _), [], none, .refl _, upd_same, rfl⟩ (fun i σ H2 _ h => Same.seq (Same.trans h.h.2.1 hide_le) hq) ?_ ?_
  · rintro i x σ H2 hi ⟨B2, e2, ys, v, hp, hD, rfl⟩
    have il : i < xs.length := (List.getElem?_eq_some_iff.mp hi).1
    have yl : ys.length = i := by
      rw [hp.length_eq, List.length_take]
      omega
    refine ⟨_, rfl, .inl ⟨rfl, _, SqL.of hD⟩, ?_⟩
    refine ⟨_, rfl, _, rfl, D, ys, rfl, .inl (SqL.of hD), _, _, rfl, rfl, ?_⟩
    refine ⟨p, b, _, rfl, B2, by omega, by omega, fun d H3 d0 d1 B3 e3 => ?_⟩
    have nDp : D ≠ p := nD
    have hD3 : H3 D = some (.lst ys) := hide_le _ _ (e3 D _ (by rw [hide_ne nDp]; exact hD))
    refine ⟨_, rfl, D, ys, d, x, rfl, rfl, hD3, small' (by omega), d0, by omega, ?_⟩
    refine ⟨B3.mut nD nDb _, But.mut (Same.trans e2 e3) fD _, _, _, ?_, upd_same, rfl⟩
    rw [List.take_add_one, hi]
    show (ys.take d.toNat ++ [x] ++ ys.drop d.toNat).Perm (xs.take i ++ [x])
    rw [List.append_assoc]
    refine (List.perm_middle (l₁ := ys.take d.toNat) (l₂ := ys.drop d.toNat)).trans ?_
    rw [List.take_append_drop]
    exact (List.Perm.cons x hp).trans (List.perm_append_singleton x _).symm
  · rintro σ H2 ⟨B2, e2, ys, v, hp, hD, rfl⟩
    rw [List.take_length] at hp
    exact ⟨_, rfl, k D ys H2 hp (hide_free fD) nD hD B2 e2⟩
theorem mixed_go {p l q : Addr} {xs : List V} {H : Hp} {Q : VK} {E : XK} (B : BoxAt H p l) (hq : SqL K (hide p H) q xs) (hl : xs.length ≤ 100)
    (k : ∀ (a : Addr) (ys : List V) (H' : Hp), ys.Perm xs → hide p H a = none → a ≠ p → H' a = some (.lst ys) → BoxAt H' p l → But p H H' → Q (.ref a) H') : spMixed K [.ref p, .ref q] H Q E := by
  unfold spMixed
  exact ⟨p, l, q, xs, rfl, B, hq, hl, k⟩
/-- the words of a script: eleven different names -/
structure Wds (H : Hp) (p q : Addr) (zs : List Str) : Prop where
  at_ : hide p H q = some (.lst (zs.map V.str))
  ln : zs.length = 11
  nm : ∀ z ∈ zs, nameB z = true
  nd : zs.Nodup
theorem Wds.but {H H' : Hp} {p q : Addr} {zs : List Str} (h : Wds H p q zs) (e : But p H H') : Wds H' p q zs := ⟨e _ _ h.at_, h.ln, h.nm, h.nd⟩
theorem fr_hide {p D : Addr} {G : Hp} {o : HO} : Fr [D] (hide p G) (hide p (upd G D o)) := fun b u hb n => by
  have nb : b ≠ D := fun h => n (List.mem_singleton.mpr h)
  by_cases f : b = p
  · subst f
    rw [hide_at] at hb
    cases hb
  · rw [hide_ne f] at hb ⊢
    rw [upd_ne nb]
    exact hb
theorem perm_str {ys : List V} {l : List Str} (h : ys.Perm (l.map V.str)) : ∃ us : List Str, ys = us.map V.str ∧ us.Perm l := by
  let un : V → Str := fun v => match v with | .str z => z | _ => Str.empty
  have hun : ∀ z, un (V.str z) = z := fun z => rfl
  refine ⟨ys.map un, ?_, ?_⟩
  · rw [List.map_map]
    refine (List.map_id _).symm.trans (List.map_congr_left fun v hv => ?_)
    obtain ⟨z, _, rfl⟩ := List.mem_map.mp (h.mem_iff.mp hv)
    rfl
  · have := h.map un
    rw [List.map_map, show (un ∘ V.str) = id from funext hun, List.map_id] at this
    exact this
@[irreducible] def spFields (K : PySem.W.Frag) : Sp := fun vs H Q _ => ∃ (p l q : Addr) (zs : List Str), vs = [.ref p, .ref q] ∧ BoxAt H p l ∧ Wds H p q zs ∧
  ∀ (a : Addr) (ts : List Addr) (ths : List (List Str)) (H' : Hp), hide p H a = none → a ≠ p → H' a = some (.lst (ts.map V.ref)) → Paired (ThOk K (hide p H')) ts ths → (∀ th ∈ ths, ThV th ∧ ∀ f ∈ th, f ∈ zs.take 4) → 1 ≤ ths.length → ths.length ≤ 4 → BoxAt H' p l → But p H H' → Q (.ref a) H'
theorem ok_fields (T : Top K mg) : FnOk P w K mg base CX0 5 T.a_fields T.d_fields ["_law_box_here", "_law_words"] (spFields K) := by
  refine T.F_fields.ok sc_fields (fun vs H Q E h => ?_) (fun cdv A outer s H vs Q E hr h => ?_)
  · unfold spFields at h
    obtain ⟨p, b, q, zs, rfl, _⟩ := h
    rfl
  unfold spFields at h
  obtain ⟨p, b, q, zs, rfl, B, W, k⟩ := h
  refine ⟨_, (pss_one (ps_ret (pe_lc (own := [("_law_k", 2)]) (g := gName 2) (tt := tYes) rfl sc_fields.nd (pi_range1 (by rfl) T.z_range (pa_cons (pe_op op_add pe_int (pe_call (ok_pull T) (hr.mono (by decide)) rfl T.m_pull T.F_pull.kp T.b_pull .nil pass0 (pa_cons (pv 0) (pa_cons pe_int pa_nil)))) pa_nil)) (blkOk_by (own := [("_law_k", 2)]) (N := n_fields) (sc := defScope s_fields) (by decide +kernel)) (fun _ _ _ _ _ => (pg_name (i := 2) sc_fields.nd rfl (Or.inl rfl))) (fun _ _ _ _ _ => pts_nil) (fun _ _ _ _ _ => (pe_callTy (r := rTupOf K) call_tuple_of (by rfl) T.z_tuple (by decide +kernel) (pa_cons (pe_slice (r := rSlL K) sl_list (pe_call (ok_mixed T) (hr.mono (by decide)) rfl T.m_mixed T.F_mixed.kp T.b_mixed .nil pass0 (pa_cons (pv 0) (pa_cons (pe_slice (r := rSlL K) sl_list (pv 1) po_none (po_some pe_int)) pa_nil))) po_none (po_some (pe_op op_add pe_int (pe_call (ok_pull T) (hr.mono (by decide)) rfl T.m_pull T.F_pull.kp T.b_pull .nil pass0 (pa_cons (pv 0) (pa_cons pe_int pa_nil)))))) pa_nil)))))), ?_⟩
  refine ⟨_, rfl, p, b, _, rfl, B, by decide, by decide, fun d H1 d0 d1 B1 e1 => ?_⟩
  obtain ⟨d, rfl⟩ := Int.eq_ofNat_of_zero_le d0
  have W1 := W.but e1
  sizeOf_list_dec
  rename_i D fD
  have nD : D ≠ p := B1.ne fD
  have nDb := B1.nl fD
  have ed : (1 + (d : Int)).toNat = d + 1 := by omega
  refine lc_range (lo := 0) (n := (1 + (d : Int)).toNat) (fun i H2 => Hold (BoxAt H2 p b ∧ But p H1 H2 ∧ ∃ (ts : List Addr) (ths : List (List Str)), H2 D = some (.lst (ts.map V.ref)) ∧ ths.length = i ∧ Paired (ThOk K (hide p H2)) ts ths ∧ ∀ th ∈ ths, ThV th ∧ ∀ f ∈ th, f ∈ zs.take 4)) ⟨B1.new fD _, But.of (same_new fD _), [], [], upd_same, rfl, .nil, fun th h => nomatch h⟩ ?_ ?_
  · rintro i H2 hi ⟨B2, e2, ts, ths, hD, hl, hp, hv⟩
    have W2 := W1.but e2
    refine ⟨rfl, _, rfl, _, rfl, _, rfl, q, _, rfl, SqL.of (hide_le _ _ W2.at_), fun s4 f4 => ?_⟩
    have cut4 : cutV (zs.map V.str) none (some (4 : Int)) = (zs.take 4).map V.str := by
      rw [show (4 : Int) = ((4 : Nat) : Int) from rfl, cutV_pre, ← List.map_take]
    rw [cut4]
    have B3 := B2.new f4 (.lst ((zs.take 4).map V.str))
    have n4 := B2.ne f4
    refine mixed_go B3 (SqL.of (by rw [hide_ne n4]; exact upd_same)) (by rw [List.length_map, List.length_take]; omega) fun a ys H3 hperm fa na ha B4 e4 => ?_
    obtain ⟨us, rfl, hus⟩ := perm_str hperm
    refine ⟨_, rfl, p, b, _, rfl, B4, by decide, by decide, fun m H4 m0 m1 B5 e5 => ?_⟩
    obtain ⟨m, rfl⟩ := Int.eq_ofNat_of_zero_le m0
    have ha4 : H4 a = some (.lst (us.map V.str)) := hide_le _ _ (e5 _ _ (by rw [hide_ne na]; exact ha))
    refine ⟨_, _, rfl, rfl, _, rfl, a, _, rfl, SqL.of ha4, fun s5 f5 => ?_⟩
    have cutm : cutV (us.map V.str) none (some (1 + (m : Int))) = (us.take (m + 1)).map V.str := by
      rw [show (1 + (m : Int)) = ((m + 1 : Nat) : Int) by omega, cutV_pre, ← List.map_take]
    rw [cutm]
    refine ⟨s5, _, rfl, .inl ⟨SqL.of upd_same, fun t ft => ?_⟩⟩
    have E4 : But p H2 H4 := (But.of (same_new f4 _)).trans (e4.trans e5)
    have E6 : But p H2 _ := E4.trans ((But.of (same_new f5 (.lst ((us.take (m + 1)).map V.str)))).trans (But.of (same_new ft (.tup ((us.take (m + 1)).map V.str)))))
    have B6 := (B5.new f5 (.lst ((us.take (m + 1)).map V.str))).new ft (.tup ((us.take (m + 1)).map V.str))
    have nDt : D ≠ t := ne_of_none (hide_le _ _ (((But.of (same_new f4 _)).trans (e4.trans (e5.trans (But.of (same_new f5 (.lst ((us.take (m + 1)).map V.str))))))) D _ (by rw [hide_ne nD]; exact hD))) ft
    have hD6 : upd (upd H4 s5 (.lst ((us.take (m + 1)).map V.str))) t (.tup ((us.take (m + 1)).map V.str)) D = some (.lst (ts.map V.ref)) := hide_le _ _ (E6 D _ (by rw [hide_ne nD]; exact hD))
    have nt : t ≠ p := (B5.new f5 (.lst ((us.take (m + 1)).map V.str))).ne ft
    refine ⟨_, hD6, small' (by rw [List.length_map, pr_len hp]; omega), ⟨B6.mut nD nDb _, But.mut (e2.trans E6) fD _, ts ++ [t], ths ++ [us.take (m + 1)], ?_, ?_, ?_, ?_⟩⟩
    · rw [upd_same, List.map_append]
      rfl
    · rw [List.length_append, hl]
      rfl
    · refine pr_app (prMp hp fun x y hxy => ?_) (.cons ?_ .nil)
      · exact fr_tup fr_hide (fun z hz => by rw [List.mem_singleton.mp hz]; exact .inl ⟨_, by rw [hide_ne nD]; exact hD6⟩) (ThOk.mono E6 hxy)
      · exact SqT.of (by rw [hide_ne nt, upd_ne nDt.symm]; exact upd_same)
    · intro th hth
      rcases List.mem_append.mp hth with hth | hth
      · exact hv th hth
      · obtain rfl := List.mem_singleton.mp hth
        have mem4 : ∀ f ∈ us.take (m + 1), f ∈ zs.take 4 := fun f hf => hus.mem_iff.mp (List.mem_of_mem_take hf)
        have ul : us.length = 4 := by rw [hus.length_eq, List.length_take, W.ln]; rfl
        refine ⟨⟨fun n hn => W.nm n (List.mem_of_mem_take (mem4 n hn)), ?_, ?_, ?_⟩, mem4⟩
        · exact ((hus.nodup_iff.mpr (W.nd.sublist (List.take_sublist _ _))).sublist (List.take_sublist _ _))
        · rw [List.length_take]
          omega
        · rw [List.length_take]
          omega
  · rintro H2 ⟨B2, e2, ts, ths, hD, hl, hp, hv⟩
    rw [ed] at hl
    exact k D ts ths H2 (e1.free (hide_free fD)) nD hD hp hv (by omega) (by omega) B2 (e1.trans e2)
theorem put_new {K1 : Type} [DecidableEq K1] {acc : List (K1 × V)} {k : K1} {v : V} (h : k ∉ acc.map (·.1)) : putK acc k v = acc ++ [(k, v)] := by
  unfold putK
  have e : (acc.any fun kv => decide (kv.1 = k)) = false := by
    rw [List.any_eq_false]
    intro x hx q
    exact h (List.mem_map.mpr ⟨x, hx, of_decide_eq_true q⟩)
  rw [e]
  rfl
theorem merge_nd : ∀ {more acc : List (Key × V)}, ((acc ++ more).map (·.1)).Nodup → mergeK acc more = acc ++ more
  | [], acc, _ => by
    rw [List.append_nil]
    rfl
  | (k, v) :: more, acc, h => by
    show mergeK (putK acc k v) more = _
    have hk : k ∉ acc.map (·.1) := fun hm => by
      rw [List.map_append, List.nodup_append] at h
      exact h.2.2 k hm k (by simp) rfl
    rw [put_new hk, merge_nd (by rw [List.append_assoc]; exact h), List.append_assoc]
    rfl
theorem merge_row {r : Row} (h : (r.map (·.1)).Nodup) : mergeK [] (rowK r) = rowK r := by
  rw [merge_nd]
  · rfl
  · have : (([] ++ rowK r).map fun q : Key × V => q.1) = (r.map (·.1)).map (Sum.inr : Str → Key) := by
      show (rowK r).map (fun q : Key × V => q.1) = _
      unfold rowK
      rw [List.map_map, List.map_map]
      rfl
    rw [this, List.Nodup, List.pairwise_map]
    exact List.Pairwise.imp (fun hab e => hab (Sum.inr.inj e)) h
@[irreducible] def spEntry (K : PySem.W.Frag) : Sp := fun vs H Q _ => ∃ (p l q u : Addr) (zs ps : List Str), vs = [.ref p, .ref q, .ref u] ∧ BoxAt H p l ∧ Wds H p q zs ∧ hide p H u = some (.lst (ps.map V.str)) ∧ 1 ≤ ps.length ∧ ps.length ≤ 100 ∧ (∀ z ∈ ps, nameB z = true) ∧
  ∀ (a : Addr) (r : Row) (H' : Hp), hide p H a = none → a ≠ p → LRowOk H' a r → RowV r → (r.map (·.1)).Nodup → BoxAt H' p l → But p H H' → Q (.ref a) H'
theorem ok_entry (T : Top K mg) : FnOk P w K mg base CX0 4 T.a_entry T.d_entry ["_law_box_here", "_law_words", "_law_pool"] (spEntry K) := by
  refine T.F_entry.ok sc_entry (fun vs H Q E h => ?_) (fun cdv A outer s H vs Q E hr h => ?_)
  · unfold spEntry at h
    obtain ⟨p, b, q, u, zs, ps, rfl, _⟩ := h
    rfl
  unfold spEntry at h
  obtain ⟨p, b, q, u, zs, ps, rfl, B, W, hu, u1, u2, hn, k⟩ := h
  refine ⟨_, (pss_one (ps_ret (pe_callTy (call_dictP rfl) (by rfl) T.z_dict (by decide +kernel) (pa_cons (pe_lc (own := [("_law_word", 3)]) (g := gName 3) rfl sc_entry.nd (pi_list (pe_slice sl_list (pv 1) po_none (po_some pe_int))) (blkOk_by (own := [("_law_word", 3)]) (N := n_entry) (sc := defScope s_entry) (by decide +kernel)) (fun _ _ _ _ _ => (pg_name (i := 3) sc_entry.nd rfl (Or.inl rfl))) (fun _ _ _ _ _ => (pts_one (pt_cmpR op_gt (pe_call (ok_pull T) (hr.mono (by decide)) rfl T.m_pull T.F_pull.kp T.b_pull .nil pass0 (pa_cons (pv 0) (pa_cons pe_int pa_nil))) pe_int (nomark _)))) (fun _ _ _ _ _ => (pe_tup (pa_cons (pv 3) (pa_cons (pe_call (ok_of T) (hr.mono (by decide)) rfl T.m_of T.F_of.kp T.b_of .nil pass0 (pa_cons (pv 0) (pa_cons (pv 2) pa_nil))) pa_nil))))) pa_nil)))), ?_⟩
  refine ⟨_, rfl, _, rfl, q, _, rfl, SqL.of (hide_le _ _ W.at_), fun s4 f4 => ?_⟩
  have cut4 : cutV (zs.map V.str) none (some (4 : Int)) = (zs.take 4).map V.str := by
    rw [show (4 : Int) = ((4 : Nat) : Int) from rfl, cutV_pre, ← List.map_take]
  rw [cut4]
  have B1 := B.new f4 (.lst ((zs.take 4).map V.str))
  have n4 := B.ne f4
  have e1 : But p H _ := But.of (same_new f4 (.lst ((zs.take 4).map V.str)))
  have hs4 : hide p (upd H s4 (.lst ((zs.take 4).map V.str))) s4 = some (.lst ((zs.take 4).map V.str)) := by rw [hide_ne n4]; exact upd_same
  have hu1 := e1 _ _ hu
  generalize upd H s4 (.lst ((zs.take 4).map V.str)) = H1 at *
  refine ⟨s4, rfl, ⟨_, SqL.of (hide_le _ _ hs4)⟩, fun D fD => ?_⟩
  have nD : D ≠ p := B1.ne fD
  have nDb := B1.nl fD
  refine lc_list (K := K) (a := s4) (xs := (zs.take 4).map V.str) (fun i H2 => Hold (BoxAt H2 p b ∧ But p H1 H2 ∧ ∃ (ts : List Addr) (r : Row), H2 D = some (.lst (ts.map V.ref)) ∧ Paired (fun t (x : Str × Str) => SqT K (hide p H2) t [.str x.1, .str x.2]) ts r ∧ (r.map (·.1)).Sublist ((zs.take 4).take i) ∧ r.length ≤ i ∧ ∀ x ∈ r, nameB x.2 = true)) ⟨B1.new fD _, But.of (same_new fD _), [], [], upd_same, .nil, List.Sublist.refl _, Nat.le_refl _, fun th h => nomatch h⟩ (fun i H2 _ h => SqL.of (hide_le _ _ (h.h.2.1 _ _ hs4))) ?_ ?_
  · rintro i x H2 hi ⟨B2, e2, ts, r, hD, hp, hsub, hrl, hv⟩
    obtain ⟨z, hz, rfl⟩ := str_get hi
    have i4 : i < 4 := by
      have := (List.getElem?_eq_some_iff.mp hz).1
      rw [List.length_take] at this
      omega
    refine ⟨rfl, _, rfl, p, b, _, rfl, B2, by decide, by decide, fun d H3 d0 d1 B3 e3 => ⟨_, _, rfl, rfl, _, rfl, ite2 (fun hd => ?_) (fun hd => ?_)⟩⟩
    · refine ⟨_, rfl, _, rfl, _, rfl, p, b, _, rfl, B3, .inl ⟨u, ps.map V.str, rfl, .inl (SqL.of (e3 _ _ (e2 _ _ hu1))), by rw [List.length_map]; omega, by rw [List.length_map]; omega, fun j x H4 hx B4 e4 => ?_⟩⟩
      obtain ⟨v, hv2, rfl⟩ := str_get hx
      refine ⟨by show 2 ≤ sizeLine; decide, fun t ft => ?_⟩
      have E4 : But p H2 H4 := e3.trans e4
      have E5 : But p H2 _ := E4.trans (But.of (same_new ft (.tup [V.str z, V.str v])))
      have hD4 : H4 D = some (.lst (ts.map V.ref)) := hide_le _ _ (E4 D _ (by rw [hide_ne nD]; exact hD))
      have nDt : D ≠ t := ne_of_none hD4 ft
      have hD5 : upd H4 t (.tup [V.str z, V.str v]) D = some (.lst (ts.map V.ref)) := (upd_ne nDt).trans hD4
      have nt : t ≠ p := B4.ne ft
      have hn3 : (r.map (·.1)).length = r.length := List.length_map ..
      refine ⟨_, hD5, small' (by rw [List.length_map, pr_len hp]; omega), ⟨(B4.new ft _).mut nD nDb _, But.mut (e2.trans E5) fD _, ts ++ [t], r ++ [(z, v)], ?_, ?_, ?_, ?_, ?_⟩⟩
      · rw [upd_same, List.map_append]
        rfl
      · refine pr_app (prMp hp fun x y hxy => ?_) (.cons ?_ .nil)
        · exact fr_tup fr_hide (fun z hz => by rw [List.mem_singleton.mp hz]; exact .inl ⟨_, by rw [hide_ne nD]; exact hD5⟩) (Same.tup E5 hxy)
        · exact SqT.of (by rw [hide_ne nt, upd_ne nDt.symm]; exact upd_same)
      · rw [List.map_append, List.take_add_one, hz]
        exact hsub.append (List.Sublist.refl _)
      · rw [List.length_append]
        show r.length + 1 ≤ i + 1
        omega
      · intro x hx
        rcases List.mem_append.mp hx with hx | hx
        · exact hv x hx
        · rw [List.mem_singleton.mp hx]
          exact hn v (List.mem_of_getElem? hv2)
    · refine ⟨B3, e2.trans e3, ts, r, hide_le _ _ (e3 D _ (by rw [hide_ne nD]; exact hD)), prMp hp fun x y hxy => Same.tup e3 hxy, hsub.trans ?_, by omega, hv⟩
      generalize zs.take 4 = l
      rw [List.take_add_one]
      exact List.sublist_append_left _ _
  · rintro H2 ⟨B2, e2, ts, r, hD, hp, hsub, hrl, hv⟩
    have hs : (r.map (·.1)).Sublist (zs.take 4) := hsub.trans (List.take_sublist _ _)
    have hnd : (r.map (·.1)).Nodup := (W.nd.sublist (List.take_sublist _ _)).sublist hs
    refine ⟨D, ts, rowK r, rfl, SqL.of hD, ?_, fun a fa => ?_⟩
    · exact pr_map1 (prMp hp fun t x hx => Same.tup hide_le hx)
    · have hm : mergeK [] (rowK r) = rowK r := merge_row hnd
      rw [hm]
      have E2 := e1.trans e2
      have h4 : r.length ≤ 4 := by
        rw [List.length_map, List.length_take] at hrl
        omega
      refine k a r _ (E2.free (hide_free fa)) (B2.ne fa) upd_same ⟨fun x hx => ⟨?_, hv x hx⟩, by omega⟩ hnd (B2.new fa _) (E2.trans (But.of (same_new fa _)))
      exact W.nm x.1 (List.mem_of_mem_take (hs.subset (List.mem_map_of_mem hx)))
end
end Bl

namespace Bl
open PySem L2
open SX (S)
/-! short words: array_get_dec closes a side condition; array_mem_dec goes one step into a reading; sizeOf_list_dec goes on while it can -/
local macro_rules | `(tactic| array_get_dec) => `(tactic| first
  | (with_reducible assumption)
  | ((with_reducible apply Bl.gEq); first
    | rfl
    | assumption
    | exact upd_same
    | (with_reducible exact kit_d some_str)
    | (with_reducible exact kit_d some_int)
    | (with_reducible exact kit_d some_bool)
    | (with_reducible exact kit_d some_list)
    | (with_reducible exact kit_d some_tuple)
    | ((with_reducible apply Bl.get_new); assumption; array_get_dec)
    | ((with_reducible apply Bl.get_tr); assumption; array_get_dec)
    )
  | ((with_reducible apply Bl.gLe); first
    | omega
    | exact small (by omega)
    | exact small (by simp only [List.length_cons, List.length_nil]; decide)
    | exact small (by simp only [List.length_append, List.length_cons, List.length_nil]; omega)
    | decide)
  | ((with_reducible apply Bl.gLt); first
    | omega
    | exact small' (by omega)
    | exact small' (by simp only [List.length_cons, List.length_nil]; decide)
    | decide)
  | ((fail_if_success (with_reducible apply Bl.gEq)); (fail_if_success (with_reducible apply Bl.gLe)); (fail_if_success (with_reducible apply Bl.gLt)); first
    | assumption
    | exact SqL.of upd_same
    | exact SqT.of upd_same
    | ((with_reducible apply SqL.of); assumption)
    | ((with_reducible apply SqT.of); assumption)
    | exact Same.refl _
    | exact .ty _
    | exact .str _
    | exact .int _
    | exact ⟨_, rfl⟩
    | ((with_reducible apply Dp.ty); assumption)
    | ((with_reducible apply Bl.seq_new); assumption; array_get_dec)
    | ((with_reducible apply Bl.tup_new); assumption; array_get_dec)
    | ((with_reducible apply Bl.dp_new); assumption; array_get_dec)
    | ((with_reducible apply Bl.dpa_new); assumption; array_get_dec)
    | ((with_reducible apply Bl.same_nw); assumption; array_get_dec)
    | ((with_reducible apply Bl.seq_tr); assumption; array_get_dec)
    | ((with_reducible apply Bl.tup_tr); assumption; array_get_dec)
    | ((with_reducible apply Bl.dp_tr); assumption; array_get_dec)
    | ((with_reducible apply Bl.dpa_tr); assumption; array_get_dec)
    | ((with_reducible apply Bl.same_tr); assumption; array_get_dec)
    | ((with_reducible apply Dp.ty); assumption)
    | ((with_reducible apply Dp.ty); array_get_dec)
    | ((with_reducible refine Or.inl ?_); array_get_dec)
    | ((with_reducible refine Or.inr ?_); array_get_dec)
    | ((with_reducible apply Bl.gEx); array_get_dec)))
local macro_rules | `(tactic| array_mem_dec) => `(tactic| first
  | ((with_reducible apply Bl.gIte); first
    | (refine Bl.gT (by rfl) ?_)
    | (refine Bl.gF (by rfl) ?_))
  | ((fail_if_success (with_reducible apply Bl.gIte)); (fail_if_success (with_reducible apply Bl.gLoop)); (fail_if_success (with_reducible apply Bl.gComp)); (fail_if_success (with_reducible apply Bl.gWhile)); first
    | (with_reducible intro _ _)
    | (with_reducible intro _)
    | (refine And.intro (by array_get_dec) ?_)
    | (apply Bl.gEx)
    | (refine Or.inl (And.intro (by array_get_dec) ?_))
    | (refine Or.inr (And.intro (by array_get_dec) ?_))
    | (refine Or.inl ⟨_, by array_get_dec, ?_⟩)
    | (refine Or.inr ⟨_, by array_get_dec, ?_⟩)
    ))
local macro_rules | `(tactic| sizeOf_list_dec) => `(tactic| repeat array_mem_dec)

abbrev n_meet : List Str := ["_law_things", "_law_one", "_law_other", "_law_thing", "_law_field_here"]
theorem sc_meet : FnScope n_meet ["_law_things", "_law_one", "_law_other"] (defScope s_meet) := ⟨rfl, rfl, rfl, by decide +kernel, rfl, by decide +kernel, by decide +kernel⟩
abbrev n_offer : List Str := ["_law_things", "_law_rows", "_law_row", "_law_found", "_law_lot", "_law_k"]
theorem sc_offer : FnScope n_offer ["_law_things", "_law_rows", "_law_row"] (defScope s_offer) := ⟨rfl, rfl, rfl, by decide +kernel, rfl, by decide +kernel, by decide +kernel⟩
abbrev n_added : List Str := ["_law_things", "_law_rows", "_law_row", "_law_flank", "_law_learn", "_law_judge", "_law_due", "_law_many", "_law_had"]
theorem sc_added : FnScope n_added ["_law_things", "_law_rows", "_law_row", "_law_flank"] (defScope s_added) := ⟨rfl, rfl, rfl, by decide +kernel, rfl, by decide +kernel, by decide +kernel⟩
/-- the things as the law keeps them -/
structure ThsAt (K : PySem.W.Frag) (H : Hp) (a : Addr) (ths : List (List Str)) : Prop where
  ex : ∃ ts : List Addr, H a = some (.lst (ts.map V.ref)) ∧ Paired (ThOk K H) ts ths
theorem ThsAt.mono {K : PySem.W.Frag} {H H' : Hp} {a : Addr} {ths : List (List Str)} (e : Same H H') (h : ThsAt K H a ths) : ThsAt K H' a ths := ⟨let ⟨ts, x, y⟩ := h.ex; ⟨ts, e _ _ x, prMp y fun _ _ z => z.mono e⟩⟩
@[irreducible] def spMeet (K : PySem.W.Frag) : Sp := fun vs H Q _ => ∃ (a u v : Addr) (ths : List (List Str)) (r s : Row), vs = [.ref a, .ref u, .ref v] ∧ ThsAt K H a ths ∧ (∀ th ∈ ths, th.length ≤ 3) ∧ ths.length ≤ 4 ∧ LRowOk H u r ∧ LRowOk H v s ∧ ∀ H', Same H H' → Q (.bl (meet ths r s)) H'
theorem get_eq {r s : Row} {f : Str} : decide (((valV (rowK r) (Sum.inr f)).getD (.int 0)) = ((valV (rowK s) (Sum.inr f)).getD (.int 1))) = (match look r f, look s f with | some x, some y => decide (x = y) | _, _ => false) := by
  rw [look_rowK, look_rowK]
  cases look r f with
  | none =>
    cases look s f with
    | none => exact decide_eq_false (fun h => by cases h)
    | some y => exact decide_eq_false (fun h => by cases h)
  | some x =>
    cases look s f with
    | none => exact decide_eq_false (fun h => by cases h)
    | some y =>
      show decide (V.str x = V.str y) = decide (x = y)
      by_cases e : x = y
      · rw [e, decide_eq_true rfl, decide_eq_true rfl]
      · rw [decide_eq_false e, decide_eq_false fun h => e (V.str.inj h)]
theorem get_scal {r s : Row} {f : Str} : scal ((valV (rowK r) (Sum.inr f)).getD (.int 0)) ((valV (rowK s) (Sum.inr f)).getD (.int 1)) = true := by
  rw [look_rowK, look_rowK]
  cases look r f <;> cases look s f <;> rfl
section
variable {P : Program} {w : World} {K : PySem.W.Frag} {mg : Str → Option Value} {base : Heap}
theorem ok_meet (T : Top K mg) : FnOk P w K mg base CX0 2 T.a_meet T.d_meet ["_law_things", "_law_one", "_law_other"] (spMeet K) := by
  refine T.F_meet.ok sc_meet (fun vs H Q E h => ?_) (fun cdv A outer s H vs Q E hr h => ?_)
  · unfold spMeet at h
    obtain ⟨a, u, v, ths, r, s, rfl, _⟩ := h
    rfl
  unfold spMeet at h
  obtain ⟨a, u, v, ths, r, s, rfl, ha, h3, h4, hu, hv, k⟩ := h
  obtain ⟨ts, hts, hp⟩ := ha.ex
  have hl := pr_len hp
  have hu : H u = some (.dK (rowK r)) := hu
  have hv : H v = some (.dK (rowK s)) := hv
  refine ⟨_, (pss_one (ps_ret (pe_callB (cr_any rfl) (by rfl) T.z_any (by decide +kernel) (pa_cons (pe_lc (own := [("_law_thing", 3)]) (g := gName 3) (tt := tYes) rfl sc_meet.nd (pi_list (pv 0)) (blkOk_by (own := [("_law_thing", 3)]) (N := n_meet) (sc := defScope s_meet) (by decide +kernel)) (fun _ _ _ _ _ => (pg_name (i := 3) sc_meet.nd rfl (Or.inl rfl))) (fun _ _ _ _ _ => pts_nil) (fun _ _ _ _ _ => (pe_callB (r := rAll K) (cr_all rfl) (by rfl) T.z_all (by decide +kernel) (pa_cons (pe_lc (own := [("_law_field_here", 4)]) (g := gName 4) (tt := tYes) rfl sc_meet.nd (pi_tupC (K := K) rfl (pv 3)) (by refine blkOk_by (N := n_meet) ?_; rfl) (fun _ _ _ _ _ => (pg_name (i := 4) sc_meet.nd rfl (Or.inl rfl))) (fun _ _ _ _ _ => pts_nil) (fun _ _ _ _ _ => (pe_cmpR op_eq (pe_dget2 (hu_of hr) (pv 1) (pv 4) pe_int ⟨rfl, rfl, rfl, rfl⟩) (pe_dget2 (hu_of hr) (pv 2) (pv 4) pe_int ⟨rfl, rfl, rfl, rfl⟩) (nomark _)))) pa_nil)))) pa_nil)))), ?_⟩
  sizeOf_list_dec
  rename_i D fD
  refine lc_list (K := K) (a := a) (xs := ts.map V.ref) (fun i Hx => Hold (Same H Hx ∧ Hx D = some (.lst (((ths.take i).map (same1 r s)).map V.bl)))) ⟨same_new fD _, upd_same⟩ (fun i Hx _ h => SqL.of (h.h.1 _ _ hts)) ?_ ?_
  · rintro i x Hx hi ⟨e, hD⟩
    obtain ⟨t, ht, rfl⟩ := ref_get hi
    obtain ⟨th, hth, htt⟩ := pr_get hp ht
    have ht2 : SqT K Hx t (th.map V.str) := Same.tup e htt
    have hu2 := e _ _ hu
    have hv2 := e _ _ hv
    have tl := h3 th (List.mem_of_getElem? hth)
    have il : i < ths.length := (List.getElem?_eq_some_iff.mp hth).1
    refine ⟨rfl, _, rfl, t, rfl, ⟨_, ht2⟩, fun D2 fD2 => ?_⟩
    refine lc_tup (K := K) (a := t) (xs := th.map V.str) (fun j Hz => Hold (Same Hx Hz ∧ Hz D2 = some (.lst (((th.take j).map fun f => match look r f, look s f with | some x, some y => decide (x = y) | _, _ => false).map V.bl)))) ⟨same_new fD2 _, upd_same⟩ (fun j Hz _ h => Same.tup h.h.1 ht2) ?_ ?_
    · rintro j x Hz hj ⟨ez, hD2⟩
      obtain ⟨f, hf, rfl⟩ := str_get hj
      have hu3 := ez _ _ hu2
      have hv3 := ez _ _ hv2
      have d1 : IsD Hz u := .inl ⟨_, Rd.of hu3⟩
      have d2 : IsD Hz v := .inl ⟨_, Rd.of hv3⟩
      refine ⟨rfl, _, rfl, u, rfl, d1, _, rfl, _, DGet.k (k := Sum.inr f) hu3, ?_⟩
      refine ⟨_, rfl, v, rfl, d2, _, rfl, _, DGet.k (k := Sum.inr f) hv3, ?_⟩
      refine ⟨get_scal, _, hD2, ?_, ⟨Same.mut ez fD2 _, ?_⟩⟩
      · rw [List.length_map, List.length_map, List.length_take]
        exact small' (by omega)
      · rw [upd_same, get_eq, List.take_add_one, hf, List.map_append, List.map_append]
        rfl
    · rintro Hz ⟨ez, hD2⟩
      have hl2 : (th.map V.str).length = th.length := List.length_map ..
      rw [hl2, List.take_length] at hD2
      refine ⟨D2, _, rfl, SqL.of hD2, _, ez _ _ hD, ?_, ⟨Same.mut (e.trans ez) fD _, ?_⟩⟩
      · rw [List.length_map, List.length_map, List.length_take]
        exact small' (by omega)
      · rw [upd_same, List.take_add_one, hth, List.map_append, List.map_append, List.all_map]
        rfl
  · rintro Hx ⟨e, hD⟩
    rw [List.length_map, hl, List.take_length] at hD
    refine ⟨D, _, rfl, SqL.of hD, ?_⟩
    rw [List.any_map]
    exact k _ e
theorem meet_go {a u v : Addr} {ths : List (List Str)} {r s : Row} {H : Hp} {Q : VK} {E : XK} (ha : ThsAt K H a ths) (h3 : ∀ th ∈ ths, ThV th) (h4 : ths.length ≤ 4) (hu : LRowOk H u r) (hv : LRowOk H v s) (k : ∀ H', Same H H' → Q (.bl (meet ths r s)) H') : spMeet K [.ref a, .ref u, .ref v] H Q E := by
  unfold spMeet
  exact ⟨a, u, v, ths, r, s, rfl, ha, fun th ht => (h3 th ht).hi, h4, hu, hv, k⟩
/-- the rows as the law keeps them -/
structure RowsAt (K : PySem.W.Frag) (H : Hp) (a : Addr) (rws : List (Row × Str)) : Prop where
  ex : ∃ us : List Addr, H a = some (.lst (us.map V.ref)) ∧ Paired (UndOk K H) us rws
theorem RowsAt.mono {H H' : Hp} {a : Addr} {rws : List (Row × Str)} (e : Same H H') (h : RowsAt K H a rws) : RowsAt K H' a rws := ⟨let ⟨ts, x, y⟩ := h.ex; ⟨ts, e _ _ x, prMp y fun _ _ z => z.mono e⟩⟩
def fits1 (ths : List (List Str)) (rws : List (Row × Str)) (r : Row) (z : Str) (j : Nat) : Bool := match rws[j]? with
  | some x => decide (x.2 = z) && meet ths r x.1
  | none => false
def fitsL (ths : List (List Str)) (rws : List (Row × Str)) (r : Row) (z : Str) (i : Nat) : List Nat := (List.range i).filter (fits1 ths rws r z)
theorem fitsL_all {ths : List (List Str)} {rws : List (Row × Str)} {r : Row} {z : Str} : fitsL ths rws r z rws.length = inLot (rws.map (·.2)) z (alikes ths (rws.map (·.1)) r) := by
  unfold fitsL inLot alikes
  rw [List.filter_filter, List.length_map]
  refine List.filter_congr fun j hj => ?_
  have hj := List.mem_range.mp hj
  unfold fits1
  rw [List.getElem?_map, List.getElem?_map, List.getElem?_eq_getElem hj]
  show (decide (rws[j].2 = z) && meet ths r rws[j].1) = (decide (some rws[j].2 = some z) && meet ths rws[j].1 r)
  rw [meet_comm (a := r)]
  congr 1
  by_cases e : rws[j].2 = z
  · rw [decide_eq_true e, decide_eq_true (by rw [e])]
  · rw [decide_eq_false e, decide_eq_false fun h => e (Option.some.inj h)]
theorem fitsL_step {ths : List (List Str)} {rws : List (Row × Str)} {r : Row} {z : Str} {i : Nat} : fitsL ths rws r z (i + 1) = fitsL ths rws r z i ++ if fits1 ths rws r z i = true then [i] else [] := by
  unfold fitsL
  rw [List.range_succ, List.filter_append, List.filter_cons]
  rfl
theorem fitsL_len {ths : List (List Str)} {rws : List (Row × Str)} {r : Row} {z : Str} {i : Nat} : (fitsL ths rws r z i).length ≤ i := by
  have := List.length_filter_le (fits1 ths rws r z) (List.range i)
  rw [List.length_range] at this
  exact this
def intL (xs : List Nat) : List V := xs.map fun j => V.int (j : Nat)
@[irreducible] def spOfferL (K : PySem.W.Frag) : Sp := fun vs H Q _ => ∃ (a b u : Addr) (ths : List (List Str)) (rws : List (Row × Str)) (r : Row), vs = [.ref a, .ref b, .ref u] ∧ ThsAt K H a ths ∧ (∀ th ∈ ths, ThV th) ∧ ths.length ≤ 4 ∧ RowsAt K H b rws ∧ rws.length ≤ 200 ∧ LRowOk H u r ∧
  ∀ (p x y : Addr) (H' : Hp), H p = none → H' p = some (.lst [.ref x, .ref y]) → H' x = some (.lst (intL ((fitsL ths rws r "learn" rws.length).take 1))) → H' y = some (.lst (intL ((fitsL ths rws r "judge" rws.length).take 1))) → Same H H' → Q (.ref p) H'
theorem ok_offer (T : Top K mg) : FnOk P w K mg base CX0 4 T.a_offer T.d_offer ["_law_things", "_law_rows", "_law_row"] (spOfferL K) := by
  refine T.F_offer.ok sc_offer (fun vs H Q E h => ?_) (fun cdv A outer s H vs Q E hr h => ?_)
  · unfold spOfferL at h
    obtain ⟨a, b, u, ths, rws, r, rfl, _⟩ := h
    rfl
  unfold spOfferL at h
  obtain ⟨a, b, u, ths, rws, r, rfl, ha, h3, h4, hb, hl, hu, k⟩ := h
  obtain ⟨us, hus, hp⟩ := hb.ex
  have hlen := pr_len hp
  refine ⟨_, (pss_cons (ps_set (i := 3) sc_offer.nd rfl (Or.inl rfl) (pe_lst pa_nil))
    (pss_cons (ps_for PassesOwn.never rfl (pi_list (pe_lst (pa_cons pe_str (pa_cons pe_str pa_nil)))) (pg_name (i := 4) sc_offer.nd rfl (Or.inr rfl))
    (pss_one (ps_expr (pe_bm PySem.F.plainAttrs_list PySem.F.slot_list_append PySem.F.type_list_append mt_append (pv 3) (pa_cons (pe_slice sl_list (pe_lc (own := [("_law_k", 5)]) (g := gName 5) rfl sc_offer.nd (pi_range1 (by rfl) T.z_range (pa_cons (pe_callB call_len_seq (by rfl) T.z_len (by decide +kernel) (pa_cons (pv 1) pa_nil)) pa_nil)) (blkOk_by (own := [("_law_k", 5)]) (N := n_offer) (sc := defScope s_offer) (by decide +kernel)) (fun _ _ _ _ _ => (pg_name (i := 5) sc_offer.nd rfl (Or.inl rfl))) (fun _ _ _ _ _ => (pts_one (PW.pt (pw_and (pt_cmpR op_eq (pe_ix (r := rIxT K) ix_tup (pe_ix (r := rIxL K) ix_list (pv 1) (pv 5) (fun _ _ => rfl)) pe_int (fun _ _ => rfl)) (pv 4) (nomark _)) (pw_and1 (pt_val (pe_call (ok_meet T) (hr.mono (by decide)) rfl T.m_meet T.F_meet.kp T.b_meet .nil pass0 (pa_cons (pv 0) (pa_cons (pv 2) (pa_cons (pe_ix (r := rIxT K) ix_tup (pe_ix (r := rIxL K) ix_list (pv 1) (pv 5) (fun _ _ => rfl)) pe_int (fun _ _ => rfl)) pa_nil)))))))))) (fun _ _ _ _ _ => (pv 5))) po_none (po_some pe_int)) pa_nil)))))
    (pss_one (ps_ret (pv 3))))), ?_⟩
  sizeOf_list_dec
  rename_i F fF Lz fL
  have nLF : Lz ≠ F := (ne_of_none upd_same fL).symm
  have s0 : Same H (upd (upd H F (.lst [])) Lz (.lst [.str "learn", .str "judge"])) := (same_new fF _).trans (same_new fL _)
  refine for_list (K := K) (a := Lz) (xs := (["learn", "judge"] : List Str).map V.str) (fun i σ Hx => Hold (Same H Hx ∧ Hx Lz = some (.lst [.str "learn", .str "judge"]) ∧ ∃ (xs : List Addr) (v : Option V), Hx F = some (.lst (xs.map V.ref)) ∧ Paired (fun x z => x ≠ F ∧ Hx x = some (.lst (intL ((fitsL ths rws r z rws.length).take 1)))) xs ((["learn", "judge"] : List Str).take i) ∧ σ = [some (.ref a), some (.ref b), some (.ref u), some (.ref F), v, none]))
    ⟨s0, upd_same, [], none, (upd_ne nLF.symm).trans upd_same, .nil, rfl⟩ (fun i σ Hx _ h => SqL.of h.h.2.1) ?_ ?_
  · rintro i x σ Hx hi ⟨e, hL, xs, v, hF, hx, rfl⟩
    obtain ⟨z, hz, rfl⟩ := str_get hi
    have i2 : i < 2 := (List.getElem?_eq_some_iff.mp hz).1
    have hus2 := e _ _ hus
    refine ⟨_, rfl, .inl ⟨rfl, _, SqL.of hF⟩, ?_⟩
    sizeOf_list_dec
    have hn : (((us.map V.ref).length : Nat) : Int).toNat = rws.length := by rw [Int.toNat_natCast, List.length_map, hlen]
    refine ⟨by rw [List.length_map]; omega, fun D fD => ?_⟩
    refine lc_range (lo := 0) (n := (((us.map V.ref).length : Nat) : Int).toNat) (fun j Hy => Hold (Same Hx Hy ∧ Hy D = some (.lst (intL (fitsL ths rws r z j))))) ⟨same_new fD _, upd_same⟩ ?_ ?_
    · rintro j Hy hj ⟨ey, hD⟩
      rw [hn] at hj
      have E2 := e.trans ey
      obtain ⟨uj, hu1, rr, hu2, hu3⟩ := pr_getR hp (List.getElem?_eq_getElem hj)
      have hat : atI (us.map V.ref) (0 + (j : Int)) = some (.ref uj) := by
        rw [Int.zero_add]
        exact atI_nat (by rw [List.getElem?_map, hu1]; rfl)
      have huj : SqT K Hy uj [.ref rr, .str rws[j].2] := Same.tup E2 hu2
      have hrr := LRowOk.mono E2 hu3
      have h1 : atI ([.ref rr, .str rws[j].2] : List V) 1 = some (.str rws[j].2) := rfl
      have h0 : atI ([.ref rr, .str rws[j].2] : List V) 0 = some (.ref rr) := rfl
      have husy := ey _ _ hus2
      have hst := fitsL_step (ths := ths) (rws := rws) (r := r) (z := z) (i := j)
      have hfit : fits1 ths rws r z j = (decide (rws[j].2 = z) && meet ths r rws[j].1) := by
        unfold fits1
        rw [List.getElem?_eq_getElem hj]
      have hsv : decide (V.str rws[j].2 = V.str z) = decide (rws[j].2 = z) := by
        by_cases q : rws[j].2 = z
        · rw [q, decide_eq_true rfl, decide_eq_true rfl]
        · rw [decide_eq_false q, decide_eq_false fun h => q (V.str.inj h)]
      refine ⟨rfl, ?_⟩
      sizeOf_list_dec
      have yes : ∀ (Hw : Hp), Same Hy Hw → fits1 ths rws r z j = true → ∃ acc, Hw D = some (.lst acc) ∧ acc.length < sizeLine ∧ Hold (Same Hx (upd Hw D (.lst (acc ++ [V.int (0 + (j : Int))]))) ∧ upd Hw D (.lst (acc ++ [V.int (0 + (j : Int))])) D = some (.lst (intL (fitsL ths rws r z (j + 1))))) := fun Hw ew hf => by
        rw [if_pos hf] at hst
        refine ⟨_, ew _ _ hD, ?_, ⟨Same.mut (ey.trans ew) fD _, ?_⟩⟩
        · unfold intL
          rw [List.length_map]
          have := fitsL_len (ths := ths) (rws := rws) (r := r) (z := z) (i := j)
          exact small' (by omega)
        · rw [upd_same, hst, Int.zero_add]
          unfold intL
          rw [List.map_append]
          rfl
      have no : ∀ (Hw : Hp), Same Hy Hw → fits1 ths rws r z j = false → Hold (Same Hx Hw ∧ Hw D = some (.lst (intL (fitsL ths rws r z (j + 1))))) := fun Hw ew hf => by
        rw [hf, if_neg (by decide), List.append_nil] at hst
        refine ⟨ey.trans ew, ?_⟩
        rw [hst]
        exact ew _ _ hD
      refine ite2 (fun hy => ?_) (fun hno => ?_)
      · have hy : decide (rws[j].2 = z) = true := by rw [← hsv]; exact hy
        rw [hy, Bool.true_and] at hfit
        sizeOf_list_dec
        refine meet_go (ha.mono E2) h3 h4 (hu.mono E2) hrr fun H5 e5 => ⟨_, rfl, ite2 (fun hm => ?_) (fun hm => ?_)⟩
        · exact ⟨_, rfl, yes _ e5 (by rw [hfit]; exact hm)⟩
        · exact no _ e5 (by rw [hfit]; exact Bool.eq_false_iff.mpr hm)
      · have hno : decide (rws[j].2 = z) = false := by rw [← hsv]; exact Bool.eq_false_iff.mpr hno
        rw [hno, Bool.false_and] at hfit
        exact iteFk rfl (no _ (Same.refl _) hfit)
    · rintro Hy ⟨ey, hD⟩
      rw [hn] at hD
      refine ⟨_, rfl, D, _, rfl, SqL.of hD, fun C fC => ?_⟩
      have cut1 : cutV (intL (fitsL ths rws r z rws.length)) none (some (1 : Int)) = intL ((fitsL ths rws r z rws.length).take 1) := by
        unfold intL
        rw [show (1 : Int) = ((1 : Nat) : Int) from rfl, cutV_pre, ← List.map_take]
      rw [cut1]
      have hFy := ey _ _ hF
      have nCF : C ≠ F := (ne_of_none hFy fC).symm
      have sC := same_new fC (.lst (intL ((fitsL ths rws r z rws.length).take 1)))
      refine ⟨F, xs.map V.ref, .ref C, rfl, rfl, sC _ _ hFy, small' (by rw [List.length_map, pr_len hx, List.length_take]; omega), ?_⟩
      refine ⟨Same.mut ((e.trans ey).trans sC) fF _, ?_, xs ++ [C], _, ?_, ?_, rfl⟩
      · rw [upd_ne nLF]
        exact sC _ _ (ey _ _ hL)
      · rw [upd_same, List.map_append]
        rfl
      · have ht : (["learn", "judge"] : List Str).take (i + 1) = (["learn", "judge"] : List Str).take i ++ [z] := by
          rw [List.take_add_one, hz]
          rfl
        rw [ht]
        refine pr_app (prMp hx fun x y hxy => ⟨hxy.1, ?_⟩) (.cons ⟨nCF, ?_⟩ .nil)
        · rw [upd_ne hxy.1]
          exact sC _ _ (ey _ _ hxy.2)
        · rw [upd_ne nCF]
          exact upd_same
  · rintro σ Hx ⟨e, hL, xs, v, hF, hx, rfl⟩
    have hx' : Paired (fun x z => x ≠ F ∧ Hx x = some (.lst (intL ((fitsL ths rws r z rws.length).take 1)))) xs ["learn", "judge"] := hx
    cases hx' with
    | @cons x _ xs _ h1 t =>
      cases t with
      | @cons y _ xs _ h2 t =>
        cases t
        exact ⟨_, rfl, k F x y Hx fF hF h1.2 h2.2 e⟩
end
/-- what the law says of an add, as it stands -/
def ResAt (H : Hp) (t : Addr) : AddR → Prop
  | .full => False
  | .torn a b => ∃ w, H t = some (.tup [.str "Torn", .ref w]) ∧ H w = some (.tup [.int (a : Nat), .int (b : Nat)])
  | .taken z => H t = some (.tup [.str "SideTaken", .str z])
  | .ok z => H t = some (.tup [.str "", .str z])
def resL (rws : List (Row × Str)) : LSt := ⟨[], rws.map (·.1), rws.map (·.2), []⟩
@[irreducible] def spAdded (K : PySem.W.Frag) : Sp := fun vs H Q _ => ∃ (a b u : Addr) (ths : List (List Str)) (rws : List (Row × Str)) (r : Row) (sd : Option Str), vs = [.ref a, .ref b, .ref u, sdV sd] ∧ ThsAt K H a ths ∧ (∀ th ∈ ths, ThV th) ∧ ths.length ≤ 4 ∧ RowsAt K H b rws ∧ rws.length < 200 ∧ (∀ x ∈ rws, lotB x.2 = true) ∧ LRowOk H u r ∧
  (∀ z, sd = some z → lotB z = true) ∧ ∀ (t : Addr) (H' : Hp), H t = none → ResAt H' t (addR ⟨ths, rws.map (·.1), rws.map (·.2), []⟩ r sd) → Same H H' → Q (.ref t) H'
section
variable {P : Program} {w : World} {K : PySem.W.Frag} {mg : Str → Option Value} {base : Heap}
theorem offer_go {a b u : Addr} {ths : List (List Str)} {rws : List (Row × Str)} {r : Row} {H : Hp} {Q : VK} {E : XK} (ha : ThsAt K H a ths) (h3 : ∀ th ∈ ths, ThV th) (h4 : ths.length ≤ 4) (hb : RowsAt K H b rws) (hl : rws.length ≤ 200) (hu : LRowOk H u r)
    (k : ∀ (p x y : Addr) (H' : Hp), H p = none → H' p = some (.lst [.ref x, .ref y]) → H' x = some (.lst (intL ((fitsL ths rws r "learn" rws.length).take 1))) → H' y = some (.lst (intL ((fitsL ths rws r "judge" rws.length).take 1))) → Same H H' → Q (.ref p) H') : spOfferL K [.ref a, .ref b, .ref u] H Q E := by
  unfold spOfferL
  exact ⟨a, b, u, ths, rws, r, rfl, ha, h3, h4, hb, hl, hu, k⟩
theorem take1 {l : List Nat} : (l.take 1 = [] ∧ l.head? = none) ∨ ∃ v, l.take 1 = [v] ∧ l.head? = some v := by
  cases l with
  | nil => exact .inl ⟨rfl, rfl⟩
  | cons v l => exact .inr ⟨v, rfl, rfl⟩
theorem lrn_eq {ths : List (List Str)} {rws : List (Row × Str)} {r : Row} : lrn ⟨ths, rws.map (·.1), rws.map (·.2), []⟩ r = (fitsL ths rws r "learn" rws.length).head? := by
  rw [fitsL_all]
  rfl
theorem jdg_eq {ths : List (List Str)} {rws : List (Row × Str)} {r : Row} : jdg ⟨ths, rws.map (·.1), rws.map (·.2), []⟩ r = (fitsL ths rws r "judge" rws.length).head? := by
  rw [fitsL_all]
  rfl
theorem dp_none {H : Hp} {x : Addr} (h : H x = some (.lst (intL []))) : Dp K H (.ref x) (.list []) := .lst (SqL.of h) .nil
theorem dp_one1 {H : Hp} {x : Addr} {v : Nat} (h : H x = some (.lst (intL [v]))) : Dp K H (.ref x) (.list [.int (v : Nat)]) := .lst (SqL.of h) (.cons (.int _) .nil)
theorem nonempty {i : Nat} {x : Addr} {l : List Nat} {σ : L2.St} {G : Hp} {Q : Bool → Hp → Prop} (hs : σ[i]? = some (some (.ref x))) (hx : G x = some (.lst (intL (l.take 1)))) (k : ∀ G', Same G G' → Q (l.head?.isSome) G') : tTest (tOp (rNeD K) (tVar i) (tLst tNil)) σ G Q := by
  refine ⟨_, hs, (by show 0 ≤ sizeLine; decide), fun e fe => ?_⟩
  have s := same_new fe (.lst [])
  have hx2 := s _ _ hx
  have he : Dp K (upd G e (.lst [])) (.ref e) (.list []) := .lst (SqL.of upd_same) .nil
  rcases take1 (l := l) with ⟨t, q⟩ | ⟨v, t, q⟩
  · rw [t] at hx2
    rw [q] at k
    exact ⟨_, _, dp_none hx2, he, by decide +kernel, by decide +kernel, _, rfl, k _ s⟩
  · rw [t] at hx2
    rw [q] at k
    refine ⟨_, _, dp_one1 hx2, he, rfl, by decide +kernel, _, ?_, k _ s⟩
    show V.bl (!PyData.eqv (.list [.int (v : Nat)]) (.list [])) = V.bl true
    rw [PyData.eqv, PyData.eqvAll]
    rfl
theorem count_two : ∀ {ss : List Str}, (∀ z ∈ ss, lotB z = true) → ss.count ("learn" : Str) + ss.count ("judge" : Str) = ss.length
  | [], _ => rfl
  | z :: ss, h => by
    have ih := count_two (ss := ss) fun y hy => h y (List.mem_cons_of_mem _ hy)
    rw [List.count_cons, List.count_cons, List.length_cons]
    rcases Bool.or_eq_true_iff.mp (h z List.mem_cons_self) with q | q
    · have q := of_decide_eq_true q
      subst q
      rw [if_pos (beq_self_eq_true _), if_neg (by decide +kernel)]
      omega
    · have q := of_decide_eq_true q
      subst q
      rw [if_pos (beq_self_eq_true _), if_neg (by decide +kernel)]
      omega
theorem ok_added (T : Top K mg) : FnOk P w K mg base CX0 6 T.a_added T.d_added ["_law_things", "_law_rows", "_law_row", "_law_flank"] (spAdded K) := by
  refine T.F_added.ok sc_added (fun vs H Q E h => ?_) (fun cdv A outer s H vs Q E hr h => ?_)
  · unfold spAdded at h
    obtain ⟨a, b, u, ths, rws, r, sd, rfl, _⟩ := h
    rfl
  unfold spAdded at h
  obtain ⟨a, b, u, ths, rws, r, sd, rfl, ha, h3, h4, hb, hl, hlo, hu, hsd, k⟩ := h
  refine ⟨_, (pss_cons (ps_asg (pe_call (ok_offer T) (hr.mono (by decide)) rfl T.m_offer T.F_offer.kp T.b_offer .nil pass0 (pa_cons (pv 0) (pa_cons (pv 1) (pa_cons (pv 2) pa_nil)))) (pg_lst rfl (pgs_cons (pg_name (i := 4) sc_added.nd rfl (Or.inl rfl)) (pgs_cons (pg_name (i := 5) sc_added.nd rfl (Or.inl rfl)) pgs_nil))))
    (pss_cutI (ps_if (PW.pt (pw_and (pt_cmpR (op_neD hr.units) (pv 4) (pe_lst pa_nil) (nomark _)) (pw_and1 (pt_cmpR (op_neD hr.units) (pv 5) (pe_lst pa_nil) (nomark _))))) (pss_one (ps_ret (pe_tup (pa_cons pe_str (pa_cons (pe_tup (pa_cons (pe_ix ix_list (pv 4) pe_int (fun _ _ => rfl)) (pa_cons (pe_ix ix_list (pv 5) pe_int (fun _ _ => rfl)) pa_nil))) pa_nil))))) pss_nil)
    (pss_cutI (ps_set (i := 6) sc_added.nd rfl (Or.inl rfl) (pe_ifExp (pt_cmpR (op_neD hr.units) (pv 4) (pe_lst pa_nil) (nomark _)) pe_str (pe_ifExp (pt_cmpR (op_neD hr.units) (pv 5) (pe_lst pa_nil) (nomark _)) pe_str pe_non)))
    (pss_cutI (ps_if (PW.pt (pw_and (pt_cmpR op_notN (pv 6) pe_non (nomark _)) (pw_and (pt_cmpR op_notN (pv 3) pe_non (nomark _)) (pw_and1 (pt_cmpR op_ne (pv 3) (pv 6) (nomark _)))))) (pss_one (ps_ret (pe_tup (pa_cons pe_str (pa_cons (pv 6) pa_nil))))) pss_nil)
    (pss_cons (ps_set (i := 7) sc_added.nd rfl (Or.inl rfl) (pe_callB call_len_seq (by rfl) T.z_len (by decide +kernel) (pa_cons (pe_lc (own := [("_law_had", 8)]) (g := gName 8) rfl sc_added.nd (pi_list (pv 1)) (blkOk_by (own := [("_law_had", 8)]) (N := n_added) (sc := defScope s_added) (by decide +kernel)) (fun _ _ _ _ _ => (pg_name (i := 8) sc_added.nd rfl (Or.inl rfl))) (fun _ _ _ _ _ => (pts_one (pt_cmpR op_eq (pe_ix (r := rIxT K) ix_tup (pv 8) pe_int (fun _ _ => rfl)) pe_str (nomark _)))) (fun _ _ _ _ _ => (pv 8))) pa_nil)))
    (pss_one (ps_ret (pe_tup (pa_cons pe_str (pa_cons (pe_ifExp (pt_cmpR op_notN (pv 6) pe_non (nomark _)) (pv 6) (pe_ifExp (pt_cmpR op_notN (pv 3) pe_non (nomark _)) (pv 3) (pe_ifExp (pt_cmpR op_le (pe_op op_mul (pv 7) pe_int) (pe_callB call_len_seq (by rfl) T.z_len (by decide +kernel) (pa_cons (pv 1) pa_nil)) (nomark _)) pe_str pe_str))) pa_nil)))))))))), ?_⟩
  sizeOf_list_dec
  refine offer_go ha h3 h4 hb (by omega) hu fun p x y H1 fp hp hx hy e1 => ?_
  have lq := lrn_eq (ths := ths) (rws := rws) (r := r)
  have jq := jdg_eq (ths := ths) (rws := rws) (r := r)
  refine ⟨p, _, rfl, SqL.of hp, rfl, ?_⟩
  generalize hL1 : fitsL ths rws r "learn" rws.length = l1 at *
  generalize hL2 : fitsL ths rws r "judge" rws.length = l2 at *
  sizeOf_list_dec
  refine cut_mk (fun σ G => tornOf ⟨ths, rws.map (·.1), rws.map (·.2), []⟩ r = none ∧ σ = [some (.ref a), some (.ref b), some (.ref u), some (sdV sd), some (.ref x), some (.ref y), none, none, none] ∧ Same H1 G) ?_ ?_
  · refine nonempty (l := l1) rfl hx fun G1 g1 => ?_
    rcases take1 (l := l1) with ⟨t1, q1⟩ | ⟨v1, t1, q1⟩
    · rw [q1]
      refine iteFk rfl ?_
      refine iteFk rfl ?_
      exact ⟨by unfold tornOf; rw [lq, q1], rfl, g1⟩
    · rw [q1]
      refine iteTk rfl ?_
      refine nonempty (l := l2) rfl (g1 _ _ hy) fun G2 g2 => ?_
      rcases take1 (l := l2) with ⟨t2, q2⟩ | ⟨v2, t2, q2⟩
      · rw [q2]
        refine iteFk rfl ?_
        exact ⟨by unfold tornOf; rw [lq, q1, jq, q2], rfl, g1.trans g2⟩
      · rw [q2]
        refine iteTk rfl ?_
        have hx2 := g2 _ _ (g1 _ _ hx)
        have hy2 := g2 _ _ (g1 _ _ hy)
        rw [t1] at hx2
        rw [t2] at hy2
        have hax : atI (intL [v1]) 0 = some (.int (v1 : Nat)) := rfl
        have hay : atI (intL [v2]) 0 = some (.int (v2 : Nat)) := rfl
        refine ⟨_, rfl, x, _, _, _, rfl, rfl, SqL.of hx2, hax, ?_⟩
        refine ⟨_, rfl, y, _, _, _, rfl, rfl, SqL.of hy2, hay, ?_⟩
        refine ⟨by show 2 ≤ sizeLine; decide, fun w1 f1 => ⟨by show 2 ≤ sizeLine; decide, fun t ft => ?_⟩⟩
        have e3 := (g1.trans g2).trans ((same_new f1 (.tup [.int (v1 : Nat), .int (v2 : Nat)])).trans (same_new ft (.tup [.str "Torn", .ref w1])))
        refine k t _ ((e1.trans ((g1.trans g2).trans (same_new f1 (.tup [.int (v1 : Nat), .int (v2 : Nat)])))).free ft) ?_ (e1.trans e3)
        have hadd : addR ⟨ths, rws.map (·.1), rws.map (·.2), []⟩ r sd = .torn v1 v2 := by
          unfold addR
          rw [if_neg (by show ¬ 200 ≤ (rws.map (·.1)).length; rw [List.length_map]; omega)]
          unfold tornOf
          rw [lq, q1, jq, q2]
        rw [hadd]
        have nt : w1 ≠ t := ne_of_none upd_same ft
        exact ⟨w1, upd_same, by rw [upd_ne nt]; exact upd_same⟩
  rintro σ G ⟨ht, rfl, eG⟩
  have hadd : addR ⟨ths, rws.map (·.1), rws.map (·.2), []⟩ r sd = dueA ⟨ths, rws.map (·.1), rws.map (·.2), []⟩ r sd := by
    unfold addR
    rw [if_neg (by show ¬ 200 ≤ (rws.map (·.1)).length; rw [List.length_map]; omega), ht]
  rw [hadd] at k
  refine cut_mk (fun σ G' => σ = [some (.ref a), some (.ref b), some (.ref u), some (sdV sd), some (.ref x), some (.ref y), some (sdV (dueOf ⟨ths, rws.map (·.1), rws.map (·.2), []⟩ r)), none, none] ∧ Same H1 G') ?_ ?_
  · refine nonempty (l := l1) rfl (eG _ _ hx) fun G1 g1 => ?_
    rcases take1 (l := l1) with ⟨t1, q1⟩ | ⟨v1, t1, q1⟩
    · rw [q1]
      refine iteFk rfl ?_
      refine nonempty (l := l2) rfl (g1 _ _ (eG _ _ hy)) fun G2 g2 => ?_
      rcases take1 (l := l2) with ⟨t2, q2⟩ | ⟨v2, t2, q2⟩
      · rw [q2]
        refine iteFk rfl ?_
        have hd : dueOf ⟨ths, rws.map (·.1), rws.map (·.2), []⟩ r = none := by unfold dueOf; rw [lq, q1, jq, q2]
        rw [hd]
        exact ⟨rfl, eG.trans (g1.trans g2)⟩
      · rw [q2]
        refine iteTk rfl ?_
        have hd : dueOf ⟨ths, rws.map (·.1), rws.map (·.2), []⟩ r = some ("judge" : Str) := by unfold dueOf; rw [lq, q1, jq, q2]
        rw [hd]
        exact ⟨rfl, eG.trans (g1.trans g2)⟩
    · rw [q1]
      refine iteTk rfl ?_
      have hd : dueOf ⟨ths, rws.map (·.1), rws.map (·.2), []⟩ r = some ("learn" : Str) := by unfold dueOf; rw [lq, q1]
      rw [hd]
      exact ⟨rfl, eG.trans g1⟩
  clear ht eG
  rintro σ G2 ⟨rfl, eG⟩
  have hda : dueA ⟨ths, rws.map (·.1), rws.map (·.2), []⟩ r sd = (match dueOf ⟨ths, rws.map (·.1), rws.map (·.2), []⟩ r with | some z => dueR z sd | none => .ok (freeR ⟨ths, rws.map (·.1), rws.map (·.2), []⟩ sd)) := rfl
  rw [hda] at k
  clear hadd hda
  generalize dueOf ⟨ths, rws.map (·.1), rws.map (·.2), []⟩ r = due at *
  clear lq jq hx hy
  refine cut_mk (fun σ G' => (∀ z y, due = some z → sd = some y → y = z) ∧ σ = [some (.ref a), some (.ref b), some (.ref u), some (sdV sd), some (.ref x), some (.ref y), some (sdV due), none, none] ∧ Same H1 G') ?_ ?_
  · cases due with
    | none =>
      sizeOf_list_dec
      exact ⟨(fun z y q => nomatch q), rfl, eG⟩
    | some z =>
      cases sd with
      | none =>
        sizeOf_list_dec
        exact ⟨(fun z y _ q => nomatch q), rfl, eG⟩
      | some y' =>
        sizeOf_list_dec
        refine ite2 (fun h => ?_) (fun h => ?_)
        · have hne : ¬ y' = z := fun q => by
            subst q
            have h : (!decide (V.str y' = V.str y')) = true := h
            rw [decide_eq_true rfl] at h
            cases h
          have hk : dueR z (some y') = .taken z := if_neg hne
          sizeOf_list_dec
          rename_i t ft
          refine k t _ (e1.trans eG |>.free ft) ?_ (e1.trans eG |>.trans (same_new ft _))
          show ResAt _ t (dueR z (some y'))
          rw [hk]
          exact upd_same
        · have he : y' = z := by
            by_cases q : y' = z
            · exact q
            · refine absurd ?_ h
              show (!decide (V.str y' = V.str z)) = true
              rw [decide_eq_false fun h => q (V.str.inj h)]
              rfl
          exact ⟨fun z2 y2 q1 q2 => by cases q1; cases q2; exact he, rfl, eG⟩
  rintro σ G ⟨hok, rfl, eG⟩
  obtain ⟨us, hus, hp⟩ := hb.ex
  have e2 := e1.trans eG
  have hus2 := e2 _ _ hus
  have hlen := pr_len hp
  sizeOf_list_dec
  rename_i D fD
  refine lc_list (K := K) (a := b) (xs := us.map V.ref) (fun i Hx => Hold (Same G Hx ∧ ∃ vs : List V, Hx D = some (.lst vs) ∧ vs.length = ((rws.map (·.2)).take i).count ("learn" : Str))) ⟨same_new fD _, [], upd_same, rfl⟩ (fun i Hx _ h => SqL.of (h.h.1 _ _ hus2)) ?_ ?_
  · rintro i x' Hx hi ⟨e, vs, hD, hvl⟩
    obtain ⟨ui, hu1, rfl⟩ := ref_get hi
    obtain ⟨x2, hx2, rr, hu2, hu3⟩ := pr_get hp hu1
    have il : i < rws.length := (List.getElem?_eq_some_iff.mp hx2).1
    have huj : SqT K Hx ui [.ref rr, .str x2.2] := Same.tup (e2.trans e) hu2
    have h1 : atI ([.ref rr, .str x2.2] : List V) 1 = some (.str x2.2) := rfl
    have hcnt : ((rws.map (·.2)).take (i + 1)).count ("learn" : Str) = ((rws.map (·.2)).take i).count ("learn" : Str) + if decide (V.str x2.2 = V.str "learn") = true then 1 else 0 := by
      rw [List.take_add_one, List.getElem?_map, hx2]
      show (_ ++ [x2.2]).count _ = _
      rw [List.count_append, List.count_cons]
      by_cases q : x2.2 = ("learn" : Str)
      · rw [q, decide_eq_true rfl]
        simp
      · rw [decide_eq_false fun h => q (V.str.inj h)]
        simp [q]
    refine ⟨rfl, ?_⟩
    sizeOf_list_dec
    refine ite2 (fun hy => ?_) (fun hn => ?_)
    · rw [if_pos hy] at hcnt
      refine ⟨_, rfl, _, hD, ?_, ⟨Same.mut e fD _, _, upd_same, ?_⟩⟩
      · have := List.count_le_length (a := ("learn" : Str)) (l := (rws.map (·.2)).take i)
        rw [List.length_take] at this
        exact small' (by omega)
      · rw [hcnt, List.length_append, hvl]
        rfl
    · rw [if_neg hn] at hcnt
      exact ⟨e, vs, hD, by rw [hvl, hcnt]; rfl⟩
  rintro Hx ⟨e, vs, hD, hvl⟩
  have husx := e _ _ hus2
  rw [List.length_map, hlen, List.take_of_length_le (by rw [List.length_map]; exact Nat.le_refl _)] at hvl
  have e3 := e2.trans e
  cases due with
  | some z =>
    have hk : dueR z sd = .ok z := by
      cases sd with
      | none => rfl
      | some y =>
        have := hok z y rfl rfl
        subst this
        exact if_pos rfl
    sizeOf_list_dec
    rename_i t ft
    refine k t _ (e3.free ft) ?_ (e3.trans (same_new ft _))
    show ResAt _ t (dueR z sd)
    rw [hk]
    exact upd_same
  | none =>
    cases sd with
    | some z =>
      sizeOf_list_dec
      rename_i t ft
      exact k t _ (e3.free ft) upd_same (e3.trans (same_new ft _))
    | none =>
      have hvl2 : vs.length ≤ 200 := by
        rw [hvl]
        refine Nat.le_trans List.count_le_length ?_
        rw [List.length_map]
        omega
      have hemp : emptier (rws.map (·.2)) = if vs.length * 2 ≤ rws.length then "learn" else "judge" := by
        rw [hvl]
        have := count_two (ss := rws.map (·.2)) (fun z hz => by
          obtain ⟨x, hx, rfl⟩ := List.mem_map.mp hz
          exact hlo x hx)
        rw [List.length_map] at this
        unfold emptier
        by_cases q : (rws.map (·.2)).count ("learn" : Str) * 2 ≤ rws.length
        · rw [if_pos q, if_neg (by omega)]
        · rw [if_neg q, if_pos (by omega)]
      sizeOf_list_dec
      refine ⟨.inl (by constructor <;> omega), ?_⟩
      sizeOf_list_dec
      refine ite2 (fun h => ?_) (fun h => ?_)
      · have h := of_decide_eq_true h
        rw [List.length_map, hlen] at h
        rw [if_pos (by omega)] at hemp
        sizeOf_list_dec
        rename_i t ft
        refine k t _ (e3.free ft) ?_ (e3.trans (same_new ft _))
        show ResAt _ t (.ok (emptier (rws.map (·.2))))
        rw [hemp]
        exact upd_same
      · have h : ¬ ((vs.length : Nat) : Int) * 2 ≤ ((us.map V.ref).length : Nat) := fun q => h (decide_eq_true q)
        rw [List.length_map, hlen] at h
        rw [if_neg (by omega)] at hemp
        sizeOf_list_dec
        rename_i t ft
        refine k t _ (e3.free ft) ?_ (e3.trans (same_new ft _))
        show ResAt _ t (.ok (emptier (rws.map (·.2))))
        rw [hemp]
        exact upd_same
end
end Bl

namespace Bl
open PySem L2
open SX (S)
/-! short words: array_get_dec closes a side condition; array_mem_dec goes one step into a reading; sizeOf_list_dec goes on while it can -/
local macro_rules | `(tactic| array_get_dec) => `(tactic| first
  | (with_reducible assumption)
  | ((with_reducible apply Bl.gEq); first
    | rfl
    | assumption
    | exact upd_same
    | (with_reducible exact kit_d some_str)
    | (with_reducible exact kit_d some_int)
    | (with_reducible exact kit_d some_bool)
    | (with_reducible exact kit_d some_list)
    | (with_reducible exact kit_d some_tuple)
    | ((with_reducible apply Bl.get_new); assumption; array_get_dec)
    | ((with_reducible apply Bl.get_tr); assumption; array_get_dec)
    )
  | ((with_reducible apply Bl.gLe); first
    | omega
    | exact small (by omega)
    | exact small (by simp only [List.length_cons, List.length_nil]; decide)
    | exact small (by simp only [List.length_append, List.length_cons, List.length_nil]; omega)
    | decide)
  | ((with_reducible apply Bl.gLt); first
    | omega
    | exact small' (by omega)
    | exact small' (by simp only [List.length_cons, List.length_nil]; decide)
    | decide)
  | ((fail_if_success (with_reducible apply Bl.gEq)); (fail_if_success (with_reducible apply Bl.gLe)); (fail_if_success (with_reducible apply Bl.gLt)); first
    | assumption
    | exact SqL.of upd_same
    | exact SqT.of upd_same
    | ((with_reducible apply SqL.of); assumption)
    | ((with_reducible apply SqT.of); assumption)
    | exact Same.refl _
    | exact .ty _
    | exact .str _
    | exact .int _
    | exact ⟨_, rfl⟩
    | ((with_reducible apply Dp.ty); assumption)
    | ((with_reducible apply Bl.seq_new); assumption; array_get_dec)
    | ((with_reducible apply Bl.tup_new); assumption; array_get_dec)
    | ((with_reducible apply Bl.dp_new); assumption; array_get_dec)
    | ((with_reducible apply Bl.dpa_new); assumption; array_get_dec)
    | ((with_reducible apply Bl.same_nw); assumption; array_get_dec)
    | ((with_reducible apply Bl.seq_tr); assumption; array_get_dec)
    | ((with_reducible apply Bl.tup_tr); assumption; array_get_dec)
    | ((with_reducible apply Bl.dp_tr); assumption; array_get_dec)
    | ((with_reducible apply Bl.dpa_tr); assumption; array_get_dec)
    | ((with_reducible apply Bl.same_tr); assumption; array_get_dec)
    | ((with_reducible apply Dp.ty); assumption)
    | ((with_reducible apply Dp.ty); array_get_dec)
    | ((with_reducible refine Or.inl ?_); array_get_dec)
    | ((with_reducible refine Or.inr ?_); array_get_dec)
    | ((with_reducible apply Bl.gEx); array_get_dec)))
local macro_rules | `(tactic| array_mem_dec) => `(tactic| first
  | ((with_reducible apply Bl.gIte); first
    | (refine Bl.gT (by rfl) ?_)
    | (refine Bl.gF (by rfl) ?_))
  | ((fail_if_success (with_reducible apply Bl.gIte)); (fail_if_success (with_reducible apply Bl.gLoop)); (fail_if_success (with_reducible apply Bl.gComp)); (fail_if_success (with_reducible apply Bl.gWhile)); first
    | (with_reducible intro _ _)
    | (with_reducible intro _)
    | (refine And.intro (by array_get_dec) ?_)
    | (apply Bl.gEx)
    | (refine Or.inl (And.intro (by array_get_dec) ?_))
    | (refine Or.inr (And.intro (by array_get_dec) ?_))
    | (refine Or.inl ⟨_, by array_get_dec, ?_⟩)
    | (refine Or.inr ⟨_, by array_get_dec, ?_⟩)
    ))
local macro_rules | `(tactic| sizeOf_list_dec) => `(tactic| repeat array_mem_dec)

abbrev n_ledger : List Str := ["_law_things"]
theorem sc_ledger : FnScope n_ledger ["_law_things"] (defScope s_ledger) := ⟨rfl, rfl, rfl, by decide +kernel, rfl, by decide +kernel, by decide +kernel⟩
@[irreducible] def spLedger (K : PySem.W.Frag) (C : Addr) : Sp := fun vs H Q _ => ∃ (a : Addr) (ts : List Addr) (ns : List (List Str)), vs = [.ref a] ∧ SqL K H a (ts.map V.ref) ∧ PySem.Paired (ThOk K H) ts ns ∧ (∀ n ∈ ns, ThV n) ∧ 1 ≤ ns.length ∧ ns.length ≤ 4 ∧
  ∀ (p : Addr) (f : LFt) (H' : Hp), LedAt K C H' p f ⟨ns, [], [], []⟩ → Same H H' → (∀ x ∈ f.all p, H x = none) → Q (.ref p) H'
section
variable {P : Program} {w : World} {K : PySem.W.Frag} {mg : Str → Option Value} {base : Heap}
/-- what a new ledger gives -/
theorem made_led {C p dx t : Addr} {H : Hp} {ts : List Addr} {ns : List (List Str)} {Q : VK} {E : XK} (fp : H p = none) (fd : H dx = none) (nd : dx ≠ p) (ft : upd (upd H dx (.own p)) p (.ins C dx []) t = none) (hts : PySem.Paired (ThOk K H) ts ns) (hn : ∀ n ∈ ns, ThV n)
    (h1 : 1 ≤ ns.length) (h4 : ns.length ≤ 4) (k : ∀ (f : LFt) (H' : Hp), LedAt K C H' p f ⟨ns, [], [], []⟩ → Same H H' → (∀ x ∈ f.all p, H x = none) → Q .non H') :
    spInitL K C [.ref p, .ref t] (upd (upd (upd H dx (.own p)) p (.ins C dx [])) t (.tup (ts.map V.ref))) Q E := by
  have s1 : Same H (upd (upd H dx (.own p)) p (.ins C dx [])) := fun b o e => by
    rw [upd_ne (ne_of_none e fp), upd_ne (ne_of_none e fd)]
    exact e
  have s2 := s1.trans (same_new ft (.tup (ts.map V.ref)))
  have np : p ≠ t := ne_of_none upd_same ft
  unfold spInitL
  refine ⟨p, t, dx, ts, ns, rfl, ?_, SqT.of upd_same, prMp hts fun _ _ x => x.mono s2, hn, h1, h4, fun f H' L0 F hf => k f H' L0 ?_ ?_⟩
  · rw [upd_ne np]
    exact upd_same
  · intro b o e
    refine F b o (s2 b o e) fun hb => ?_
    rw [List.mem_singleton.mp hb, fp] at e
    cases e
  · intro x hx
    simp only [LFt.all, List.mem_cons, List.not_mem_nil, or_false] at hx
    have fr : ∀ x, x ∈ [f.th, f.ro, f.si, f.un] → H x = none := fun x hx => by
      cases e : H x with
      | none => rfl
      | some o =>
        have := hf x hx
        rw [s2 x o e] at this
        cases this
    rcases hx with rfl | rfl | rfl | rfl | rfl
    · exact fp
    · exact fr _ (by simp)
    · exact fr _ (by simp)
    · exact fr _ (by simp)
    · exact fr _ (by simp)
theorem four {α : Type} : ∀ {ts : List α}, 1 ≤ ts.length → ts.length ≤ 4 → (∃ a, ts = [a]) ∨ (∃ a b, ts = [a, b]) ∨ (∃ a b c, ts = [a, b, c]) ∨ ∃ a b c d, ts = [a, b, c, d]
  | [a], _, _ => .inl ⟨a, rfl⟩
  | [a, b], _, _ => .inr (.inl ⟨a, b, rfl⟩)
  | [a, b, c], _, _ => .inr (.inr (.inl ⟨a, b, c, rfl⟩))
  | [a, b, c, d], _, _ => .inr (.inr (.inr ⟨a, b, c, d, rfl⟩))
  | [], h, _ => absurd h (by simp)
  | _ :: _ :: _ :: _ :: _ :: _, _, h => absurd h (by simp)
theorem ok_ledger (T : Top K mg) : FnOk P w K mg base CX0 8 T.a_ledger T.d_ledger ["_law_things"] (spLedger K T.C_Ledger) := by
  refine T.F_ledger.ok sc_ledger (fun vs H Q E h => ?_) (fun cdv A outer s H vs Q E hr h => ?_)
  · unfold spLedger at h
    obtain ⟨a, ts, ns, rfl, _⟩ := h
    rfl
  unfold spLedger at h
  obtain ⟨a, ts, ns, rfl, ha, hts, hn, l1, l4, k⟩ := h
  have hlt := pr_len hts
  refine ⟨_, (pss_cons (ps_if (pt_cmpR op_eq (pe_callB call_len_seq (by rfl) T.z_len (by decide +kernel) (pa_cons (pv 0) pa_nil)) pe_int (nomark _)) (pss_one (ps_ret (StX.pe_makeR (mk_Ledger T) (ok_Ledger___init__ T) (hr.mono (by decide)) rfl T.mc_Ledger pass0 (pa_cons (pe_ix ix_list (pv 0) pe_int (fun _ _ => rfl)) pa_nil)))) pss_nil)
    (pss_cons (ps_if (pt_cmpR op_eq (pe_callB call_len_seq (by rfl) T.z_len (by decide +kernel) (pa_cons (pv 0) pa_nil)) pe_int (nomark _)) (pss_one (ps_ret (StX.pe_makeR (mk_Ledger T) (ok_Ledger___init__ T) (hr.mono (by decide)) rfl T.mc_Ledger pass0 (pa_cons (pe_ix ix_list (pv 0) pe_int (fun _ _ => rfl)) (pa_cons (pe_ix ix_list (pv 0) pe_int (fun _ _ => rfl)) pa_nil))))) pss_nil)
    (pss_cons (ps_if (pt_cmpR op_eq (pe_callB call_len_seq (by rfl) T.z_len (by decide +kernel) (pa_cons (pv 0) pa_nil)) pe_int (nomark _)) (pss_one (ps_ret (StX.pe_makeR (mk_Ledger T) (ok_Ledger___init__ T) (hr.mono (by decide)) rfl T.mc_Ledger pass0 (pa_cons (pe_ix ix_list (pv 0) pe_int (fun _ _ => rfl)) (pa_cons (pe_ix ix_list (pv 0) pe_int (fun _ _ => rfl)) (pa_cons (pe_ix ix_list (pv 0) pe_int (fun _ _ => rfl)) pa_nil)))))) pss_nil)
    (pss_one (ps_ret (StX.pe_makeR (mk_Ledger T) (ok_Ledger___init__ T) (hr.mono (by decide)) rfl T.mc_Ledger pass0 (pa_cons (pe_ix ix_list (pv 0) pe_int (fun _ _ => rfl)) (pa_cons (pe_ix ix_list (pv 0) pe_int (fun _ _ => rfl)) (pa_cons (pe_ix ix_list (pv 0) pe_int (fun _ _ => rfl)) (pa_cons (pe_ix ix_list (pv 0) pe_int (fun _ _ => rfl)) pa_nil)))))))))), ?_⟩
  rcases four (ts := ts) (by omega) (by omega) with ⟨t0, rfl⟩ | ⟨t0, t1, rfl⟩ | ⟨t0, t1, t2, rfl⟩ | ⟨t0, t1, t2, t3, rfl⟩
  · sizeOf_list_dec
    refine fun x dx fx fd ne => ⟨[.ref x], [.ref t0], rfl, rfl, (by show 1 ≤ sizeLine; decide), fun t ft => ?_⟩
    exact made_led fx fd ne ft hts hn (by omega) (by omega) fun f H' L0 s hf => ⟨rfl, k x f H' L0 s hf⟩
  · sizeOf_list_dec
    refine fun x dx fx fd ne => ⟨[.ref x], [.ref t0, .ref t1], rfl, rfl, (by show 2 ≤ sizeLine; decide), fun t ft => ?_⟩
    exact made_led fx fd ne ft hts hn (by omega) (by omega) fun f H' L0 s hf => ⟨rfl, k x f H' L0 s hf⟩
  · sizeOf_list_dec
    refine fun x dx fx fd ne => ⟨[.ref x], [.ref t0, .ref t1, .ref t2], rfl, rfl, (by show 3 ≤ sizeLine; decide), fun t ft => ?_⟩
    exact made_led fx fd ne ft hts hn (by omega) (by omega) fun f H' L0 s hf => ⟨rfl, k x f H' L0 s hf⟩
  · sizeOf_list_dec
    refine fun x dx fx fd ne => ⟨[.ref x], [.ref t0, .ref t1, .ref t2, .ref t3], rfl, rfl, (by show 4 ≤ sizeLine; decide), fun t ft => ?_⟩
    exact made_led fx fd ne ft hts hn (by omega) (by omega) fun f H' L0 s hf => ⟨rfl, k x f H' L0 s hf⟩
end
end Bl

namespace Bl
open PySem L2
abbrev n_field : List Str := ["_law_e"]
theorem sc_field : FnScope n_field ["_law_e"] (defScope s_field) := ⟨rfl, rfl, rfl, by decide +kernel, rfl, by decide +kernel, by decide +kernel⟩
section
variable {P : Program} {w : World} {K : PySem.W.Frag} {mg : Str → Option Value} {base : Heap}
theorem okh_field (T : Top K mg) : FnP P w K mg base 1 T.a_field T.d_field ["_law_e"] (spFieldH K) := by
  refine okP T.F_field sc_field (fun a cls d vs H Q E h => ?_) (fun cdv A outer s H vs Q p cls d hz hf hr h => ?_)
  · obtain ⟨r, ys, ds, rfl, _⟩ := h
    rfl
  obtain ⟨r, ys, ds, rfl, h, hd, k⟩ := h
  obtain ⟨C, dd, rfl, rfl, X, N, hrow, h5, h4⟩ := h.ex
  have tb := List.all_eq_true.mp fieldR_all r hrow
  unfold fieldR oneR twoR at tb
  clear h
  refine ⟨_, (pss_cons (ps_if (pt_cmpR op_in_seq (pe_xp (p := p) (List.mem_singleton.mpr rfl) hz hf (pv 0)) (pe_lst (pa_cons pe_str (pa_cons pe_str (pa_cons pe_str (pa_cons pe_str (pa_cons pe_str (pa_cons pe_str (pa_cons pe_str pa_nil)))))))) rfl) (pss_one (ps_ret (pe_xp (p := p) (List.mem_singleton.mpr rfl) hz hf (pv 0)))) pss_nil)
    (pss_cons (ps_if (pt_cmpR op_in_seq (pe_xp (p := p) (List.mem_singleton.mpr rfl) hz hf (pv 0)) (pe_lst (pa_cons pe_str (pa_cons pe_str (pa_cons pe_str (pa_cons pe_str pa_nil))))) rfl) (pss_one (ps_ret (pe_xp (p := p) (List.mem_singleton.mpr rfl) hz hf (pv 0)))) pss_nil)
    (pss_cons (ps_if (pt_cmpR op_eq (pe_xp (p := p) (List.mem_singleton.mpr rfl) hz hf (pv 0)) pe_str (nomark _)) (pss_one (ps_ret (pe_tup (pa_cons (pe_xp (p := p) (List.mem_singleton.mpr rfl) hz hf (pv 0)) (pa_cons (pe_xp (p := p) (List.mem_singleton.mpr rfl) hz hf (pv 0)) pa_nil))))) pss_nil)
    (pss_cons (ps_if (pt_cmpR op_eq (pe_xp (p := p) (List.mem_singleton.mpr rfl) hz hf (pv 0)) pe_str (nomark _)) (pss_one (ps_ret (pe_tup (pa_cons (pe_xp (p := p) (List.mem_singleton.mpr rfl) hz hf (pv 0)) (pa_cons (pe_xp (p := p) (List.mem_singleton.mpr rfl) hz hf (pv 0)) pa_nil))))) pss_nil)
    (pss_cons (ps_if (pt_cmpR op_in_seq (pe_xp (p := p) (List.mem_singleton.mpr rfl) hz hf (pv 0)) (pe_lst (pa_cons pe_str (pa_cons pe_str (pa_cons pe_str pa_nil)))) rfl) (pss_one (ps_ret (pe_xp (p := p) (List.mem_singleton.mpr rfl) hz hf (pv 0)))) pss_nil)
    (pss_cons (ps_if (pt_cmpR op_in_seq (pe_xp (p := p) (List.mem_singleton.mpr rfl) hz hf (pv 0)) (pe_lst (pa_cons pe_str (pa_cons pe_str pa_nil))) rfl) (pss_one (ps_ret (pe_xp (p := p) (List.mem_singleton.mpr rfl) hz hf (pv 0)))) pss_nil)
    (pss_cons (ps_if (pt_cmpR op_eq (pe_xp (p := p) (List.mem_singleton.mpr rfl) hz hf (pv 0)) pe_str (nomark _)) (pss_one (ps_ret (pe_xp (p := p) (List.mem_singleton.mpr rfl) hz hf (pv 0)))) pss_nil)
    (pss_cons (ps_if (pt_cmpR op_eq (pe_xp (p := p) (List.mem_singleton.mpr rfl) hz hf (pv 0)) pe_str (nomark _)) (pss_one (ps_ret (pe_xp (p := p) (List.mem_singleton.mpr rfl) hz hf (pv 0)))) pss_nil)
    (pss_one (ps_ret (pe_ifExp (pt_cmpR op_eq (pe_xp (p := p) (List.mem_singleton.mpr rfl) hz hf (pv 0)) pe_str (nomark _)) (pe_xp (p := p) (List.mem_singleton.mpr rfl) hz hf (pv 0)) pe_non))))))))))), ?_⟩
  refine ⟨_, rfl, C, dd, _, _, rfl, rfl, rfl, X, N.code, h4, rfl, (by show 7 ≤ sizeLine; decide), fun p1 q1 => ?_⟩
  have e1 := same_new q1 (.lst [.str "InvalidName", .str "InvalidKey", .str "InvalidTest", .str "InvalidThing", .str "InvalidSetting", .str "InvalidWord", .str "InvalidNumber"])
  replace h4 := e1 _ _ h4
  replace hd := DpAll.mono (e1) _ _ hd
  replace k := fun v H' (e : Same _ H') => k v H' (e1.trans e)
  refine ⟨p1, [.str "InvalidName", .str "InvalidKey", .str "InvalidTest", .str "InvalidThing", .str "InvalidSetting", .str "InvalidWord", .str "InvalidNumber"], rfl, .inl (SqL.of upd_same), rfl, rfl, _, rfl, ?_⟩
  refine ite2 (fun c => ?_) (fun c => ?_)
  · rw [if_pos (show inV (.str r.1) l1 = true from c)] at tb
    have tb := of_decide_eq_true tb
    obtain ⟨y, rfl⟩ := one_of h5 tb
    exact ⟨_, rfl, C, dd, _, y, rfl, rfl, rfl, X, nof_one N tb, h4, lk_one tb (by decide +kernel), k _ _ (Same.refl _) (dp_one hd)⟩
  rw [if_neg (show ¬ inV (.str r.1) l1 = true from c)] at tb
  clear c
  refine ⟨_, rfl, C, dd, _, _, rfl, rfl, rfl, X, N.code, h4, rfl, (by show 4 ≤ sizeLine; decide), fun p1 q1 => ?_⟩
  have e1 := same_new q1 (.lst [.str "InvalidColumn", .str "InvalidSide", .str "InvalidStep", .str "InvalidCommand"])
  replace h4 := e1 _ _ h4
  replace hd := DpAll.mono (e1) _ _ hd
  replace k := fun v H' (e : Same _ H') => k v H' (e1.trans e)
  refine ⟨p1, [.str "InvalidColumn", .str "InvalidSide", .str "InvalidStep", .str "InvalidCommand"], rfl, .inl (SqL.of upd_same), rfl, rfl, _, rfl, ?_⟩
  refine ite2 (fun c => ?_) (fun c => ?_)
  · rw [if_pos (show inV (.str r.1) l2 = true from c)] at tb
    have tb := of_decide_eq_true tb
    obtain ⟨y, rfl⟩ := one_of h5 tb
    exact ⟨_, rfl, C, dd, _, y, rfl, rfl, rfl, X, nof_one N tb, h4, lk_one tb (by decide +kernel), k _ _ (Same.refl _) (dp_one hd)⟩
  rw [if_neg (show ¬ inV (.str r.1) l2 = true from c)] at tb
  clear c
  refine ⟨_, rfl, C, dd, _, _, rfl, rfl, rfl, X, N.code, h4, rfl, rfl, _, rfl, ?_⟩
  refine ite2 (fun c => ?_) (fun c => ?_)
  · rw [if_pos c] at tb
    have tb := of_decide_eq_true tb
    obtain ⟨y, z, rfl⟩ := two_of h5 tb
    refine ⟨_, rfl, C, dd, _, y, rfl, rfl, rfl, X, nof_fst N tb, h4, lk_fst tb (by decide +kernel) (by decide +kernel), ?_⟩
    refine ⟨_, rfl, C, dd, _, z, rfl, rfl, rfl, X, nof_snd N tb, h4, lk_snd tb (by decide +kernel), (by show 2 ≤ sizeLine; decide), fun p hp => ?_⟩
    have e := same_new hp (.tup [y, z])
    exact k _ _ e (dp_two (DpAll.mono e _ _ hd) (SqT.of upd_same))
  rw [if_neg c] at tb
  clear c
  refine ⟨_, rfl, C, dd, _, _, rfl, rfl, rfl, X, N.code, h4, rfl, rfl, _, rfl, ?_⟩
  refine ite2 (fun c => ?_) (fun c => ?_)
  · rw [if_pos c] at tb
    have tb := of_decide_eq_true tb
    obtain ⟨y, z, rfl⟩ := two_of h5 tb
    refine ⟨_, rfl, C, dd, _, y, rfl, rfl, rfl, X, nof_fst N tb, h4, lk_fst tb (by decide +kernel) (by decide +kernel), ?_⟩
    refine ⟨_, rfl, C, dd, _, z, rfl, rfl, rfl, X, nof_snd N tb, h4, lk_snd tb (by decide +kernel), (by show 2 ≤ sizeLine; decide), fun p hp => ?_⟩
    have e := same_new hp (.tup [y, z])
    exact k _ _ e (dp_two (DpAll.mono e _ _ hd) (SqT.of upd_same))
  rw [if_neg c] at tb
  clear c
  refine ⟨_, rfl, C, dd, _, _, rfl, rfl, rfl, X, N.code, h4, rfl, (by show 3 ≤ sizeLine; decide), fun p1 q1 => ?_⟩
  have e1 := same_new q1 (.lst [.str "DuplicateName", .str "UnknownName", .str "UnknownColumn"])
  replace h4 := e1 _ _ h4
  replace hd := DpAll.mono (e1) _ _ hd
  replace k := fun v H' (e : Same _ H') => k v H' (e1.trans e)
  refine ⟨p1, [.str "DuplicateName", .str "UnknownName", .str "UnknownColumn"], rfl, .inl (SqL.of upd_same), rfl, rfl, _, rfl, ?_⟩
  refine ite2 (fun c => ?_) (fun c => ?_)
  · rw [if_pos (show inV (.str r.1) l5 = true from c)] at tb
    have tb := of_decide_eq_true tb
    obtain ⟨y, rfl⟩ := one_of h5 tb
    exact ⟨_, rfl, C, dd, _, y, rfl, rfl, rfl, X, nof_one N tb, h4, lk_one tb (by decide +kernel), k _ _ (Same.refl _) (dp_one hd)⟩
  rw [if_neg (show ¬ inV (.str r.1) l5 = true from c)] at tb
  clear c
  refine ⟨_, rfl, C, dd, _, _, rfl, rfl, rfl, X, N.code, h4, rfl, (by show 2 ≤ sizeLine; decide), fun p1 q1 => ?_⟩
  have e1 := same_new q1 (.lst [.str "TooMany", .str "Full"])
  replace h4 := e1 _ _ h4
  replace hd := DpAll.mono (e1) _ _ hd
  replace k := fun v H' (e : Same _ H') => k v H' (e1.trans e)
  refine ⟨p1, [.str "TooMany", .str "Full"], rfl, .inl (SqL.of upd_same), rfl, rfl, _, rfl, ?_⟩
  refine ite2 (fun c => ?_) (fun c => ?_)
  · rw [if_pos (show inV (.str r.1) l6 = true from c)] at tb
    have tb := of_decide_eq_true tb
    obtain ⟨y, rfl⟩ := one_of h5 tb
    exact ⟨_, rfl, C, dd, _, y, rfl, rfl, rfl, X, nof_one N tb, h4, lk_one tb (by decide +kernel), k _ _ (Same.refl _) (dp_one hd)⟩
  rw [if_neg (show ¬ inV (.str r.1) l6 = true from c)] at tb
  clear c
  refine ⟨_, rfl, C, dd, _, _, rfl, rfl, rfl, X, N.code, h4, rfl, rfl, _, rfl, ?_⟩
  refine ite2 (fun c => ?_) (fun c => ?_)
  · rw [if_pos c] at tb
    have tb := of_decide_eq_true tb
    obtain ⟨y, rfl⟩ := one_of h5 tb
    exact ⟨_, rfl, C, dd, _, y, rfl, rfl, rfl, X, nof_one N tb, h4, lk_one tb (by decide +kernel), k _ _ (Same.refl _) (dp_one hd)⟩
  rw [if_neg c] at tb
  clear c
  refine ⟨_, rfl, C, dd, _, _, rfl, rfl, rfl, X, N.code, h4, rfl, rfl, _, rfl, ?_⟩
  refine ite2 (fun c => ?_) (fun c => ?_)
  · rw [if_pos c] at tb
    have tb := of_decide_eq_true tb
    obtain ⟨y, rfl⟩ := one_of h5 tb
    exact ⟨_, rfl, C, dd, _, y, rfl, rfl, rfl, X, nof_one N tb, h4, lk_one tb (by decide +kernel), k _ _ (Same.refl _) (dp_one hd)⟩
  rw [if_neg c] at tb
  clear c
  refine ⟨_, rfl, C, dd, _, _, rfl, rfl, rfl, X, N.code, h4, rfl, rfl, _, rfl, ?_⟩
  refine ite2 (fun c => ?_) (fun c => ?_)
  · rw [if_pos c] at tb
    have tb := of_decide_eq_true tb
    obtain ⟨y, rfl⟩ := one_of h5 tb
    exact ⟨_, rfl, C, dd, _, y, rfl, rfl, rfl, X, nof_one N tb, h4, lk_one tb (by decide +kernel), k _ _ (Same.refl _) (dp_one hd)⟩
  rw [if_neg c] at tb
  have tb := of_decide_eq_true tb
  obtain rfl := nix_of h5 tb
  cases hd
  exact k _ _ (Same.refl _) .non
end
end Bl

namespace Bl
open PySem L2
abbrev n_got : List Str := ["_law_ask", "_law_e"]
theorem sc_got : FnScope n_got ["_law_ask"] (defScope s_got) := ⟨rfl, rfl, rfl, by decide +kernel, rfl, by decide +kernel, by decide +kernel⟩
/-- what the law's asker makes of a question: ("", answer), or the error's code and field -/
def Ecatch {K : PySem.W.Frag} {mg : Str → Option Value} (T : Top K mg) (Q : VK) : XK := fun cls d H => ∃ (r : Str × List Str) (ys : List V) (ds : List PyData), InHand K H cls d r ys ∧ DpAll K H ys ds ∧
  PySem.W.exmAny K cls [.ref T.C_LotsError, .ref T.C_Missing, .ref T.C_NothingLeft] = some true ∧ ∀ (v : V) (H' : Hp), Same H H' → Dp K H' v (.tuple [.str r.1, datOf ds]) → Q v H'
def TGot {K : PySem.W.Frag} {mg : Str → Option Value} (T : Top K mg) : (XK → Hp → VK → Prop) → Hp → VK → Prop := fun tl H Q =>
  tl (Ecatch T Q) H fun v G => ([.str "", v] : List V).length ≤ sizeLine ∧ ∀ t, G t = none → Q (.ref t) (upd G t (.tup [.str "", v]))
section
variable {X : Cx}
theorem got_gives (T : Top X.K X.mg) {cdg : Value} {q : Str} (hr : Room 3 X.A) : LamX.GivesTo X n_got "_law_got" (defScope s_got) T.a_got cdg (defBody s_got) "_law_ask" q (TGot T) := by
  intro f c' s H Q tl act hc h
  have hr2 := hr.deeper (PyProof.Rows.envOfC "_law_got" (defScope s_got) s.heap.objs.size T.a_got cdg)
  refine ⟨_, pss_one (ps_try_as3 (X := (cxOf C8.CX0 X.prog X.w X.K X.mg X.base n_got "_law_got" (defScope s_got) T.a_got cdg X.A X.stack s H C8.E0).nox) (i := 1) (c1 := .ref T.C_LotsError) (c2 := .ref T.C_Missing) (c3 := .ref T.C_NothingLeft)
    (ts := fun a cls d => tRet (tTup (tCons (tXp X.K a cls d "code" (tVar 1)) (tCons (tCallP (spFieldH X.K) a cls d (tCons (tVar 1) tNil)) tNil))))
    (tb := fun W D σ G => ∃ Ech : XK, (∀ cls d σ' G', Ech cls d G' → W cls d σ' G') ∧
      tRet (tTup (tCons (tC (.str "")) (tCons (fun σZ HZ Q => σZ[0]? = some (some (.ref f)) ∧ HZ c' = some (LamX.CodeO c' q) ∧ tl Ech HZ Q) tNil))) D σ G)
    rfl rfl sc_got.nd rfl rfl ⟨rfl, by decide, .inl T.mc_LotsError⟩ ⟨rfl, by decide, .inl T.mc_Missing⟩ ⟨rfl, by decide, .inl T.mc_NothingLeft⟩ (fun W pn xe tk => ?_) (fun a oe cls d pn hz hf => ?_)), ?_⟩
  · refine ⟨fun pins s' σ G D I h' => ?_⟩
    obtain ⟨Ech, hW, h1⟩ := h'
    exact (pss_one (ps_ret (pe_tup (pa_cons pe_str (pa_cons (act W pn xe Ech _ _ tk hW) pa_nil))))).run pins s' σ G D I h1
  · exact pss_one (ps_ret (pe_tup (pa_cons (pe_xp (p := (a, oe)) List.mem_cons_self hz hf (pv 1)) (pa_cons (pe_callP (p := (a, oe)) (okh_field T) ⟨(hr2.mono (j := 1) (by decide)).dp, (hr2.mono (j := 1) (by decide)).un⟩ List.mem_cons_self hz hf rfl T.m_field T.F_field.kp T.b_field (pa_cons (pv 1) pa_nil)) pa_nil))))
  refine ⟨Ecatch T Q, fun cls d σ' G hE => ?_, ?_⟩
  · obtain ⟨r, ys, ds, hh, hd, hany, k⟩ := hE
    refine ⟨hany, fun a ha hl => ?_⟩
    obtain ⟨x, y, rfl⟩ : ∃ x y, σ' = [x, y] := by
      match σ', hl with
      | [x, y], _ => exact ⟨x, y, rfl⟩
    obtain ⟨C, dd, rfl, rfl, XC1, N, hrow, h5, h4⟩ := id hh.ex
    refine ⟨_, rfl, C, dd, _, _, rfl, rfl, rfl, XC1, N.code, h4, rfl, _, rfl, r, ys, ds, rfl, hh, hd, fun v G' e hv => ⟨(by show 2 ≤ sizeLine; decide), fun t ht => ?_⟩⟩
    have e2 := same_new ht (.tup [.str r.1, v])
    exact k _ _ (e.trans e2) (.tup (SqT.of upd_same) (.cons (.str _) (.cons (Dp.mono e2 _ _ hv) .nil)))
  · exact ⟨rfl, hc, h⟩
theorem pe_got (T : Top X.K X.mg) {Tb : List (Addr × Str)} {c P : Addr} {k : Nat} {params : Arguments} {body : Expr} {scope : Scope} {t : XK → TE} {p lpos pos : Pos} (hg : Gl X "_law_got") (TB : LamX.TabB X.base X.mg c P) (hcode : X.env.code = .ref c)
    (hmT : (P, X.env.qual ++ "<lambda>") ∈ Tb) (hu : ∀ p ∈ Tb, p.1 = P → p.2 = X.env.qual ++ "<lambda>") (hr : Room (k + 2) X.A) (hr3 : Room 3 X.A) (L : LamX.LamS X.env.scope scope) (hdef : defaultsOf params X.env = ([], []))
    (hbind : ∀ (q : Str) (cl : List (Str × Addr)) (pm cv ctv : Value), bindArgs (PySem.W.kla_fn "<lambda>" q params body scope cl pm cv ctv) ⟨[], []⟩ = pure [])
    (hbody : ∀ (A : Around) (outer : List Env) (s : Shared) (H : Hp) (E : XK) (f c' : Addr), Room k (A.deeper (LamX.lamEnv X scope s.heap.objs.size f c')) →
      PE (LamX.lamCx X A outer s H E scope f c') body (t E)) :
    PE X (.Call (.Name "_law_got" p) [.Lambda params body scope lpos] [] pos) (LamX.tLam Tb (TGot T) t) := by
  obtain ⟨oc, od, kV, doc, pm, an, cdv, ct, osl, e, lk, hcg⟩ := T.F_got.ex
  rw [e] at lk
  exact LamX.pe_lamcall hg T.m_got T.F_got.kp lk hcg (by rw [← e]; exact T.b_got) sc_got rfl (.inl rfl) (got_gives T hr3) TB hcode hmT hu hr L hdef hbind hbody
/-- the same, not opened by the short words -/
@[irreducible] def tGL {K : PySem.W.Frag} {mg : Str → Option Value} (T : Top K mg) (Tb : List (Addr × Str)) (t : XK → TE) : TE := LamX.tLam Tb (TGot T) t
theorem pe_gl (T : Top X.K X.mg) {Tb : List (Addr × Str)} {c P : Addr} {k : Nat} {params : Arguments} {body : Expr} {scope : Scope} {t : XK → TE} {p lpos pos : Pos} (hg : Gl X "_law_got") (TB : LamX.TabB X.base X.mg c P) (hcode : X.env.code = .ref c)
    (hmT : (P, X.env.qual ++ "<lambda>") ∈ Tb) (hu : ∀ p ∈ Tb, p.1 = P → p.2 = X.env.qual ++ "<lambda>") (hr : Room (k + 2) X.A) (hr3 : Room 3 X.A) (L : LamX.LamS X.env.scope scope) (hdef : defaultsOf params X.env = ([], []))
    (hbind : ∀ (q : Str) (cl : List (Str × Addr)) (pm cv ctv : Value), bindArgs (PySem.W.kla_fn "<lambda>" q params body scope cl pm cv ctv) ⟨[], []⟩ = pure [])
    (hbody : ∀ (A : Around) (outer : List Env) (s : Shared) (H : Hp) (E : XK) (f c' : Addr), Room k (A.deeper (LamX.lamEnv X scope s.heap.objs.size f c')) →
      PE (LamX.lamCx X A outer s H E scope f c') body (t E)) :
    PE X (.Call (.Name "_law_got" p) [.Lambda params body scope lpos] [] pos) (tGL T Tb t) := by
  unfold tGL
  exact pe_got T hg TB hcode hmT hu hr hr3 L hdef hbind hbody
end
end Bl

namespace Bl
open PySem L2
open SX (S)
/-! short words: array_get_dec closes a side condition; array_mem_dec goes one step into a reading; sizeOf_list_dec goes on while it can -/
local macro_rules | `(tactic| array_get_dec) => `(tactic| first
  | (with_reducible assumption)
  | ((with_reducible apply Bl.gEq); first
    | rfl
    | assumption
    | exact upd_same
    | (with_reducible exact kit_d some_str)
    | (with_reducible exact kit_d some_int)
    | (with_reducible exact kit_d some_bool)
    | (with_reducible exact kit_d some_list)
    | (with_reducible exact kit_d some_tuple)
    | ((with_reducible apply Bl.get_new); assumption; array_get_dec)
    | ((with_reducible apply Bl.get_tr); assumption; array_get_dec)
    )
  | ((with_reducible apply Bl.gLe); first
    | omega
    | exact small (by omega)
    | exact small (by simp only [List.length_cons, List.length_nil]; decide)
    | exact small (by simp only [List.length_append, List.length_cons, List.length_nil]; omega)
    | decide)
  | ((with_reducible apply Bl.gLt); first
    | omega
    | exact small' (by omega)
    | exact small' (by simp only [List.length_cons, List.length_nil]; decide)
    | decide)
  | ((fail_if_success (with_reducible apply Bl.gEq)); (fail_if_success (with_reducible apply Bl.gLe)); (fail_if_success (with_reducible apply Bl.gLt)); first
    | assumption
    | exact SqL.of upd_same
    | exact SqT.of upd_same
    | ((with_reducible apply SqL.of); assumption)
    | ((with_reducible apply SqT.of); assumption)
    | exact Same.refl _
    | exact .ty _
    | exact .str _
    | exact .int _
    | exact ⟨_, rfl⟩
    | ((with_reducible apply Dp.ty); assumption)
    | ((with_reducible apply Bl.seq_new); assumption; array_get_dec)
    | ((with_reducible apply Bl.tup_new); assumption; array_get_dec)
    | ((with_reducible apply Bl.dp_new); assumption; array_get_dec)
    | ((with_reducible apply Bl.dpa_new); assumption; array_get_dec)
    | ((with_reducible apply Bl.same_nw); assumption; array_get_dec)
    | ((with_reducible apply Bl.seq_tr); assumption; array_get_dec)
    | ((with_reducible apply Bl.tup_tr); assumption; array_get_dec)
    | ((with_reducible apply Bl.dp_tr); assumption; array_get_dec)
    | ((with_reducible apply Bl.dpa_tr); assumption; array_get_dec)
    | ((with_reducible apply Bl.same_tr); assumption; array_get_dec)
    | ((with_reducible apply Dp.ty); assumption)
    | ((with_reducible apply Dp.ty); array_get_dec)
    | ((with_reducible refine Or.inl ?_); array_get_dec)
    | ((with_reducible refine Or.inr ?_); array_get_dec)
    | ((with_reducible apply Bl.gEx); array_get_dec)))
local macro_rules | `(tactic| array_mem_dec) => `(tactic| first
  | ((with_reducible apply Bl.gIte); first
    | (refine Bl.gT (by rfl) ?_)
    | (refine Bl.gF (by rfl) ?_))
  | ((fail_if_success (with_reducible apply Bl.gIte)); (fail_if_success (with_reducible apply Bl.gLoop)); (fail_if_success (with_reducible apply Bl.gComp)); (fail_if_success (with_reducible apply Bl.gWhile)); first
    | (with_reducible intro _ _)
    | (with_reducible intro _)
    | (refine And.intro (by array_get_dec) ?_)
    | (apply Bl.gEx)
    | (refine Or.inl (And.intro (by array_get_dec) ?_))
    | (refine Or.inr (And.intro (by array_get_dec) ?_))
    | (refine Or.inl ⟨_, by array_get_dec, ?_⟩)
    | (refine Or.inr ⟨_, by array_get_dec, ?_⟩)
    ))
local macro_rules | `(tactic| sizeOf_list_dec) => `(tactic| repeat array_mem_dec)

abbrev n_lived : List Str := ["_law_box_here", "_law_ledger_here", "_law_things", "_law_words", "_law_many", "_law_rows", "_law_pool", "_law_k", "_law_row", "_law_flank", "_law_due", "_law_found"]
theorem sc_lived : FnScope n_lived ["_law_box_here", "_law_ledger_here", "_law_things", "_law_words", "_law_many"] (defScope s_lived) := ⟨rfl, rfl, rfl, by decide +kernel, rfl, by decide +kernel, by decide +kernel⟩
def Tbl {K : PySem.W.Frag} {mg : Str → Option Value} (T : Top K mg) : List (Addr × Str) := [(T.P_law, ("law" : Str) ++ ".<locals>." ++ "<lambda>"), (T.P_lived, ("_law_lived" : Str) ++ ".<locals>." ++ "<lambda>"), (T.P_ledger_back, ("_law_ledger_back" : Str) ++ ".<locals>." ++ "<lambda>")]
theorem lam_in_law {K : PySem.W.Frag} {mg : Str → Option Value} (T : Top K mg) : (T.P_law, ("law" : Str) ++ ".<locals>." ++ "<lambda>") ∈ Tbl T := List.mem_cons_self
theorem lam_in_lived {K : PySem.W.Frag} {mg : Str → Option Value} (T : Top K mg) : (T.P_lived, ("_law_lived" : Str) ++ ".<locals>." ++ "<lambda>") ∈ Tbl T := List.mem_cons_of_mem _ (List.mem_cons_self)
theorem lam_in_ledger_back {K : PySem.W.Frag} {mg : Str → Option Value} (T : Top K mg) : (T.P_ledger_back, ("_law_ledger_back" : Str) ++ ".<locals>." ++ "<lambda>") ∈ Tbl T := List.mem_cons_of_mem _ (List.mem_cons_of_mem _ (List.mem_cons_self))
theorem lam_on_law {K : PySem.W.Frag} {mg : Str → Option Value} (T : Top K mg) : ∀ p ∈ Tbl T, p.1 = T.P_law → p.2 = ("law" : Str) ++ ".<locals>." ++ "<lambda>" := fun p hp e => by
  unfold Tbl at hp
  simp only [List.mem_cons, List.not_mem_nil, or_false] at hp
  rcases hp with rfl | rfl | rfl
  · first | exact absurd e T.Pne_law_lived | exact absurd e.symm T.Pne_law_lived | exact absurd e T.Pne_law_ledger_back | exact absurd e.symm T.Pne_law_ledger_back | exact absurd e T.Pne_lived_ledger_back | exact absurd e.symm T.Pne_lived_ledger_back | rfl
  · first | exact absurd e T.Pne_law_lived | exact absurd e.symm T.Pne_law_lived | exact absurd e T.Pne_law_ledger_back | exact absurd e.symm T.Pne_law_ledger_back | exact absurd e T.Pne_lived_ledger_back | exact absurd e.symm T.Pne_lived_ledger_back | rfl
  · first | exact absurd e T.Pne_law_lived | exact absurd e.symm T.Pne_law_lived | exact absurd e T.Pne_law_ledger_back | exact absurd e.symm T.Pne_law_ledger_back | exact absurd e T.Pne_lived_ledger_back | exact absurd e.symm T.Pne_lived_ledger_back | rfl
theorem lam_on_lived {K : PySem.W.Frag} {mg : Str → Option Value} (T : Top K mg) : ∀ p ∈ Tbl T, p.1 = T.P_lived → p.2 = ("_law_lived" : Str) ++ ".<locals>." ++ "<lambda>" := fun p hp e => by
  unfold Tbl at hp
  simp only [List.mem_cons, List.not_mem_nil, or_false] at hp
  rcases hp with rfl | rfl | rfl
  · first | exact absurd e T.Pne_law_lived | exact absurd e.symm T.Pne_law_lived | exact absurd e T.Pne_law_ledger_back | exact absurd e.symm T.Pne_law_ledger_back | exact absurd e T.Pne_lived_ledger_back | exact absurd e.symm T.Pne_lived_ledger_back | rfl
  · first | exact absurd e T.Pne_law_lived | exact absurd e.symm T.Pne_law_lived | exact absurd e T.Pne_law_ledger_back | exact absurd e.symm T.Pne_law_ledger_back | exact absurd e T.Pne_lived_ledger_back | exact absurd e.symm T.Pne_lived_ledger_back | rfl
  · first | exact absurd e T.Pne_law_lived | exact absurd e.symm T.Pne_law_lived | exact absurd e T.Pne_law_ledger_back | exact absurd e.symm T.Pne_law_ledger_back | exact absurd e T.Pne_lived_ledger_back | exact absurd e.symm T.Pne_lived_ledger_back | rfl
theorem lam_on_ledger_back {K : PySem.W.Frag} {mg : Str → Option Value} (T : Top K mg) : ∀ p ∈ Tbl T, p.1 = T.P_ledger_back → p.2 = ("_law_ledger_back" : Str) ++ ".<locals>." ++ "<lambda>" := fun p hp e => by
  unfold Tbl at hp
  simp only [List.mem_cons, List.not_mem_nil, or_false] at hp
  rcases hp with rfl | rfl | rfl
  · first | exact absurd e T.Pne_law_lived | exact absurd e.symm T.Pne_law_lived | exact absurd e T.Pne_law_ledger_back | exact absurd e.symm T.Pne_law_ledger_back | exact absurd e T.Pne_lived_ledger_back | exact absurd e.symm T.Pne_lived_ledger_back | rfl
  · first | exact absurd e T.Pne_law_lived | exact absurd e.symm T.Pne_law_lived | exact absurd e T.Pne_law_ledger_back | exact absurd e.symm T.Pne_law_ledger_back | exact absurd e T.Pne_lived_ledger_back | exact absurd e.symm T.Pne_lived_ledger_back | rfl
  · first | exact absurd e T.Pne_law_lived | exact absurd e.symm T.Pne_law_lived | exact absurd e T.Pne_law_ledger_back | exact absurd e.symm T.Pne_law_ledger_back | exact absurd e T.Pne_lived_ledger_back | exact absurd e.symm T.Pne_lived_ledger_back | rfl
def resD : AddR → PyData
  | .full => .tuple [.str "Full", .int 200]
  | .torn a b => .tuple [.str "Torn", .tuple [.int (a : Nat), .int (b : Nat)]]
  | .taken z => .tuple [.str "SideTaken", .str z]
  | .ok z => .tuple [.str "", .str z]
theorem resD_fits (R : AddR) : Fits 4 (resD R) := by
  cases R with
  | full => exact ⟨by show 2 < 1000000; decide, fun d hd => by rcases List.mem_cons.mp hd with rfl | hd; exact True.intro; rw [List.mem_singleton.mp hd]; exact True.intro⟩
  | taken z => exact ⟨by show 2 < 1000000; decide, fun d hd => by rcases List.mem_cons.mp hd with rfl | hd; exact True.intro; rw [List.mem_singleton.mp hd]; exact True.intro⟩
  | ok z => exact ⟨by show 2 < 1000000; decide, fun d hd => by rcases List.mem_cons.mp hd with rfl | hd; exact True.intro; rw [List.mem_singleton.mp hd]; exact True.intro⟩
  | torn a b =>
    refine ⟨by show 2 < 1000000; decide, fun d hd => ?_⟩
    rcases List.mem_cons.mp hd with rfl | hd
    · exact True.intro
    · rw [List.mem_singleton.mp hd]
      exact ⟨by show 2 < 1000000; decide, fun d hd => by rcases List.mem_cons.mp hd with rfl | hd; exact True.intro; rw [List.mem_singleton.mp hd]; exact True.intro⟩
theorem res_dp {K : PySem.W.Frag} {H : Hp} {t : Addr} {R : AddR} (h : ResAt H t R) : Dp K H (.ref t) (resD R) := by
  cases R with
  | full => exact h.elim
  | taken z => exact .tup (SqT.of h) (.cons (.str _) (.cons (.str _) .nil))
  | ok z => exact .tup (SqT.of h) (.cons (.str _) (.cons (.str _) .nil))
  | torn a b =>
    obtain ⟨w, h1, h2⟩ := h
    exact .tup (SqT.of h1) (.cons (.str _) (.cons (.tup (SqT.of h2) (.cons (.int _) (.cons (.int _) .nil))) .nil))
def g3 {α : Type} (us ws : List α) : List α := match us, ws with | [a, b], [c] => [a, b, c] | _, _ => []
theorem g3_rel {us : List Value} {vs : List V} {ws : List Value} {zs : List V} (r : Vals vs us) (r2 : Vals zs ws) : Vals (g3 vs zs) (g3 us ws) := by
  cases r with
  | nil => exact .nil
  | cons a k =>
    cases k with
    | nil => exact .nil
    | cons b k =>
      cases k with
      | cons _ _ => exact .nil
      | nil =>
        cases r2 with
        | nil => exact .nil
        | cons c k =>
          cases k with
          | nil => exact .cons a (.cons b (.cons c .nil))
          | cons _ _ => exact .nil
theorem g3_three {α : Type} : ∀ {us ws : List α}, (g3 us ws).length = 3 → ∃ a b c, us = [a, b] ∧ ws = [c]
  | [a, b], [c], _ => ⟨a, b, c, rfl, rfl⟩
section
variable {P : Program} {w : World} {K : PySem.W.Frag} {mg : Str → Option Value} {base : Heap}
theorem kb_Ledger_add_side (T : Top K mg) : KBinds K T.d_Ledger_add ["self", "row", "side"] ["side"] g3 g3 := ⟨fun s us ws _ hl => by
  obtain ⟨a, b, c, rfl, rfl⟩ := g3_three hl
  obtain ⟨oc, od, kV, doc, pm, an, cdv, ct, osl, e, _⟩ := T.F_Ledger_add.ex
  rw [e]
  exact .of_eq rfl, g3_rel⟩
theorem entry_go {p l q u : Addr} {zs ps : List Str} {H : Hp} {Q : VK} {E : XK} (B : BoxAt H p l) (W : Wds H p q zs) (hu : hide p H u = some (.lst (ps.map V.str))) (u1 : 1 ≤ ps.length) (u2 : ps.length ≤ 100) (hn : ∀ z ∈ ps, nameB z = true)
    (k : ∀ (a : Addr) (r : Row) (H' : Hp), hide p H a = none → a ≠ p → LRowOk H' a r → RowV r → (r.map (·.1)).Nodup → BoxAt H' p l → But p H H' → Q (.ref a) H') : spEntry K [.ref p, .ref q, .ref u] H Q E := by
  unfold spEntry
  exact ⟨p, l, q, u, zs, ps, rfl, B, W, hu, u1, u2, hn, k⟩
theorem added_go {a b u : Addr} {ths : List (List Str)} {rws : List (Row × Str)} {r : Row} {sd : Option Str} {H : Hp} {Q : VK} {E : XK} (ha : ThsAt K H a ths) (h3 : ∀ th ∈ ths, ThV th) (h4 : ths.length ≤ 4) (hb : RowsAt K H b rws) (hl : rws.length < 200) (hlo : ∀ x ∈ rws, lotB x.2 = true) (hu : LRowOk H u r)
    (hsd : ∀ z, sd = some z → lotB z = true) (k : ∀ (t : Addr) (H' : Hp), H t = none → ResAt H' t (addR ⟨ths, rws.map (·.1), rws.map (·.2), []⟩ r sd) → Same H H' → Q (.ref t) H') : spAdded K [.ref a, .ref b, .ref u, sdV sd] H Q E := by
  unfold spAdded
  exact ⟨a, b, u, ths, rws, r, sd, rfl, ha, h3, h4, hb, hl, hlo, hu, hsd, k⟩
abbrev dictR : List V → Hp → VK → Prop := fun xs H Q => ∃ (a : Addr) (kvs : List (Key × V)), xs = [V.ref a] ∧ Rd H a (.dK kvs) ∧ ∀ p, H p = none → Q (.ref p) (upd H p (.dK kvs))
def after (L : LSt) (r : Row) : AddR → LSt
  | .ok z => ⟨L.things, L.rows ++ [r], L.sides ++ [z], []⟩
  | _ => L
theorem got_add (T : Top K mg) {σ : L2.St} {H : Hp} {Q : VK} {q b p u : Addr} {f : LFt} {L : LSt} {r : Row} {sd : Option Str} (i1 : σ[1]? = some (some (.ref p))) (i8 : σ[8]? = some (some (.ref u))) (i9 : σ[9]? = some (some (sdV sd)))
    (Lv : Liv K T.C_Ledger (Tbl T) H q b p f L) (g : LGood L) (hu : Im q f p H u = some (.dK (rowK r))) (hV : RowV r) (nd : (r.map (·.1)).Nodup) (hsd : ∀ z, sd = some z → lotB z = true)
    (k : ∀ (v : V) (f' : LFt) (H' : Hp), Liv K T.C_Ledger (Tbl T) H' q b p f' (after L r (addR L r sd)) → Same (Im q f p H) (Im q f' p H') → Dp K H' v (resD (addR L r sd)) → Q v H') :
    tGL T (Tbl T) (fun E => tMethK T.C_Ledger "add" (spAdd T) g3 E (tVar 1) (tCons (tCB dictR (tCons (tVar 8) tNil)) tNil) (tCons (tVar 9) tNil)) σ H Q := by
  unfold tGL
  refine ⟨Lv.tabs, fun H1 e1 t1 => ?_⟩
  have L1 := Lv.ext e1 t1
  have E1 := im_ext (q := q) (f := f) (p := p) e1
  have hu1 := E1 _ _ hu
  refine ⟨_, i1, p, _, _, rfl, L1.led.ins, LFt.lkN (by decide +kernel), ?_⟩
  refine ⟨_, i8, u, _, rfl, Rd.of (im_le _ _ hu1), fun d fd => ?_⟩
  refine ⟨_, i9, ?_⟩
  have s2 := same_new fd (.dK (rowK r))
  have L2 := L1.new s2
  have E2 := E1.trans (im_same (q := q) (f := f) (p := p) s2)
  show spAdd T [.ref p, .ref d, sdV sd] _ _ _
  unfold spAdd
  refine ⟨p, d, f, L, r, sd, rfl, hsd, L2.led, g, upd_same, hV, nd, ?_⟩
  cases hR : addR L r sd with
  | ok z =>
    rw [hR] at k
    intro au H3 l3 F3 n3 _
    refine ⟨by show 2 ≤ sizeLine; decide, fun v fv => ?_⟩
    have s4 := same_new fv (.tup [.str "", .str z])
    exact k _ _ _ ((L2.wrote l3 F3 n3).new s4) (E2.trans ((Liv.im_wrote F3 n3).trans (im_same s4))) (.tup (SqT.of upd_same) (.cons (.str _) (.cons (.str _) .nil)))
  | full =>
    rw [hR] at k
    intro cls e H3 rs s3
    exact ⟨_, _, [.int 200], rs.hand, .cons (.int _) .nil, rs.any, fun v H4 s4 hv => k v f H4 ((L2.new s3).new s4) (E2.trans ((im_same s3).trans (im_same s4))) hv⟩
  | torn x y =>
    rw [hR] at k
    intro cls e H3 rs s3
    exact ⟨_, _, [.int (x : Nat), .int (y : Nat)], rs.hand, .cons (.int _) (.cons (.int _) .nil), rs.any, fun v H4 s4 hv => k v f H4 ((L2.new s3).new s4) (E2.trans ((im_same s3).trans (im_same s4))) hv⟩
  | taken z =>
    rw [hR] at k
    intro cls e H3 rs s3
    exact ⟨_, _, [.str z], rs.hand, .cons (.str _) .nil, rs.any, fun v H4 s4 hv => k v f H4 ((L2.new s3).new s4) (E2.trans ((im_same s3).trans (im_same s4))) hv⟩
theorem Liv.li {Tb : List (Addr × Str)} {C : Addr} {H : Hp} {q b p : Addr} {f : LFt} {L : LSt} (h : Liv K C Tb H q b p f L) : ∀ x ∈ Wb q f p, ListIns H x := fun x hx => by
  rcases List.mem_cons.mp hx with rfl | hx
  · exact box_list h.box
  · exact h.led.li x (LFt.wr_all hx)
theorem tup_hw {W : List Addr} {H : Hp} {t : Addr} {xs : List V} (h : H t = some (.tup xs)) (hW : ∀ x ∈ W, ListIns H x) : hw W H t = some (.tup xs) := hw_of h (fun k => by
  rcases hW t k with ⟨ys, e⟩ | ⟨C, dx, fs, e⟩
  · rw [h] at e
    cases e
  · rw [h] at e
    cases e) (fun _ h => nomatch h)
theorem res_hw {W : List Addr} {H : Hp} {t : Addr} {R : AddR} (h : ResAt H t R) (hW : ∀ x ∈ W, ListIns H x) : ResAt (hw W H) t R := by
  cases R with
  | full => exact h.elim
  | taken z => exact tup_hw h hW
  | ok z => exact tup_hw h hW
  | torn a b =>
    obtain ⟨w, h1, h2⟩ := h
    exact ⟨w, tup_hw h1 hW, tup_hw h2 hW⟩
theorem ResAt.mono {H H' : Hp} {t : Addr} {R : AddR} (e : Same H H') (h : ResAt H t R) : ResAt H' t R := by
  cases R with
  | full => exact h.elim
  | taken z => exact e _ _ h
  | ok z => exact e _ _ h
  | torn a b =>
    obtain ⟨w, h1, h2⟩ := h
    exact ⟨w, e _ _ h1, e _ _ h2⟩
theorem res_parts {H : Hp} {t : Addr} {R : AddR} (h : ResAt H t R) : ∃ (tag : Str) (y : V), H t = some (.tup [.str tag, y]) ∧ ((∃ z, R = .ok z ∧ tag = "" ∧ y = .str z) ∨ ((∀ z, R ≠ .ok z) ∧ ¬ tag = "")) := by
  cases R with
  | full => exact h.elim
  | taken z => exact ⟨"SideTaken", .str z, h, .inr ⟨(fun z e => nomatch e), by decide +kernel⟩⟩
  | ok z => exact ⟨_, _, h, .inl ⟨z, rfl, rfl, rfl⟩⟩
  | torn a b =>
    obtain ⟨w, h1, h2⟩ := h
    exact ⟨"Torn", .ref w, h1, .inr ⟨(fun z e => nomatch e), by decide +kernel⟩⟩
theorem addR_lot {L : LSt} {r : Row} {sd : Option Str} {z : Str} (hsd : ∀ z, sd = some z → lotB z = true) (h : addR L r sd = .ok z) : lotB z = true := by
  have hl : lotB "learn" = true := by decide +kernel
  have hj : lotB "judge" = true := by decide +kernel
  unfold addR at h
  split at h
  · cases h
  · split at h
    · cases h
    · unfold dueA at h
      cases e : dueOf L r with
      | none =>
        rw [e] at h
        cases sd with
        | none =>
          have h : AddR.ok (emptier L.sides) = AddR.ok z := h
          cases h
          unfold emptier
          split
          · exact hj
          · exact hl
        | some y =>
          have h : AddR.ok y = AddR.ok z := h
          cases h
          exact hsd _ rfl
      | some y =>
        rw [e] at h
        have hy : lotB y = true := by
          unfold dueOf at e
          split at e
          · cases e
            exact hl
          · cases e
            exact hj
          · cases e
        cases sd with
        | none =>
          have h : AddR.ok y = AddR.ok z := h
          cases h
          exact hy
        | some x =>
          unfold dueR at h
          by_cases q : x = y
          · have h : (if x = y then AddR.ok y else AddR.taken y) = AddR.ok z := h
            rw [if_pos q] at h
            cases h
            exact hy
          · have h : (if x = y then AddR.ok y else AddR.taken y) = AddR.ok z := h
            rw [if_neg q] at h
            cases h
/-- every row of the list went where it stands, when it came -/
def Snd (ths : List (List Str)) (xs : List (Row × Str)) : Prop := ∀ a x c, xs = a ++ x :: c → addR ⟨ths, a.map (·.1), a.map (·.2), []⟩ x.1 (some x.2) = .ok x.2
theorem Snd.nil {ths : List (List Str)} : Snd ths [] := fun a x c h => by
  have := congrArg List.length h
  rw [List.length_append] at this
  exact absurd this (by simp)
theorem Snd.pre {ths : List (List Str)} {xs ys : List (Row × Str)} (h : Snd ths (xs ++ ys)) : Snd ths xs := fun a x c e => h a x (c ++ ys) (by rw [e, List.append_assoc]; rfl)
theorem Snd.snoc {ths : List (List Str)} {xs : List (Row × Str)} {r : Row} {z : Str} (h : Snd ths xs) (k : addR ⟨ths, xs.map (·.1), xs.map (·.2), []⟩ r (some z) = .ok z) : Snd ths (xs ++ [(r, z)]) := fun a x c e => by
  rcases List.eq_nil_or_concat c with rfl | ⟨c, y, rfl⟩
  · obtain ⟨rfl, e2⟩ := List.append_inj' e rfl
    obtain rfl : (r, z) = x := (List.cons.inj e2).1
    exact k
  · rw [List.concat_eq_append, ← List.cons_append, ← List.append_assoc] at e
    exact h a x c (List.append_inj' e rfl).1
theorem addR_some {L : LSt} {r : Row} {sd : Option Str} {z : Str} (h : addR L r sd = .ok z) : addR L r (some z) = .ok z := by
  unfold addR at h ⊢
  split at h
  · cases h
  · rename_i h1
    rw [if_neg h1]
    split at h
    · cases h
    · rename_i h2
      unfold dueA at h ⊢
      cases e : dueOf L r with
      | none =>
        rw [e] at h
        cases sd with
        | none =>
          have h : AddR.ok (emptier L.sides) = AddR.ok z := h
          cases h
          rfl
        | some y =>
          have h : AddR.ok y = AddR.ok z := h
          cases h
          rfl
      | some y =>
        rw [e] at h
        cases sd with
        | none =>
          have h : AddR.ok y = AddR.ok z := h
          cases h
          exact if_pos rfl
        | some x =>
          have h : (if x = y then AddR.ok y else AddR.taken y) = AddR.ok z := h
          by_cases q : x = y
          · rw [if_pos q] at h
            cases h
            exact if_pos rfl
          · rw [if_neg q] at h
            cases h
@[irreducible] def spLived {K : PySem.W.Frag} {mg : Str → Option Value} (T : Top K mg) : Sp := fun vs H Q _ => ∃ (q b p a wd : Addr) (n : Nat) (f : LFt) (ths : List (List Str)) (zs : List Str), vs = [.ref q, .ref p, .ref a, .ref wd, .int (n : Nat)] ∧ 1 ≤ n ∧ n ≤ 50 ∧
  Liv K T.C_Ledger (Tbl T) H q b p f ⟨ths, [], [], []⟩ ∧ Wds H q wd zs ∧ Im q f p H wd = some (.lst (zs.map V.str)) ∧ ThsAt K (Im q f p H) a ths ∧ (∀ th ∈ ths, ThV th) ∧ ths.length ≤ 4 ∧
  ∀ (t : Addr) (f' : LFt) (rws : List (Row × Str)) (H' : Hp), Liv K T.C_Ledger (Tbl T) H' q b p f' ⟨ths, rws.map (·.1), rws.map (·.2), []⟩ → RowsAt K (Im q f' p H') t rws → rws.length ≤ n → (∀ x ∈ rws, lotB x.2 = true ∧ RowV x.1 ∧ (x.1.map fun y : Str × Str => y.1).Nodup) →
    Same (Im q f p H) (Im q f' p H') → 1 ≤ rws.length → Snd ths rws → Q (.ref t) H'
theorem addR_first {ths : List (List Str)} {r : Row} {sd : Option Str} : addR ⟨ths, [], [], []⟩ r sd = .ok (freeR ⟨ths, [], [], []⟩ sd) := rfl
theorem ok_lived (T : Top K mg) (TB : LamX.TabB base mg T.c_lived T.P_lived) : FnOk P w K mg base CX0 20 T.a_lived T.d_lived ["_law_box_here", "_law_ledger_here", "_law_things", "_law_words", "_law_many"] (spLived T) := by
  refine okC T.F_lived sc_lived (fun vs H Q E h => ?_) (fun cdv A outer s H vs Q E hc hr h => ?_)
  · unfold spLived at h
    obtain ⟨q, b, p, a, wd, n, f, ths, zs, rfl, _⟩ := h
    rfl
  obtain rfl : cdv = .ref T.c_lived := hc.symm.trans T.k_lived
  unfold spLived at h
  obtain ⟨q, b, p, a, wd, n, f, ths, zs, rfl, n1, n50, L0, W, hwd, ha, h3, h4, k⟩ := h
  refine ⟨_, (pss_cons (ps_par (i := 5) (j := 6) (by rfl) sc_lived.nd rfl rfl (by decide) rfl rfl (pa_cons (pe_lst pa_nil) (pa_cons (pe_slice sl_list (pv 3) (po_some pe_int) (po_some (pe_op op_add (pe_op op_add pe_int pe_int) (pe_call (ok_pull T) (hr.mono (by decide)) rfl T.m_pull T.F_pull.kp T.b_pull .nil pass0 (pa_cons (pv 0) (pa_cons pe_int pa_nil)))))) pa_nil)) (by rfl))
    (pss_cons (ps_for PassesOwn.never rfl (pi_range1 (by rfl) T.z_range (pa_cons (pv 4) pa_nil)) (pg_name (i := 7) sc_lived.nd rfl (Or.inl rfl))
    (pss_cons (ps_asg (pe_tup (pa_cons (pe_call (ok_entry T) (hr.mono (by decide)) rfl T.m_entry T.F_entry.kp T.b_entry .nil pass0 (pa_cons (pv 0) (pa_cons (pv 3) (pa_cons (pv 6) pa_nil)))) (pa_cons (pe_call (ok_of T) (hr.mono (by decide)) rfl T.m_of T.F_of.kp T.b_of .nil pass0 (pa_cons (pv 0) (pa_cons (pe_lst (pa_cons pe_non (pa_cons pe_non (pa_cons pe_str (pa_cons pe_str pa_nil))))) pa_nil))) pa_nil))) (pg_tup rfl (pgs_cons (pg_name (i := 8) sc_lived.nd rfl (Or.inr rfl)) (pgs_cons (pg_name (i := 9) sc_lived.nd rfl (Or.inr rfl)) pgs_nil))))
    (pss_cons (ps_set (i := 10) sc_lived.nd rfl (Or.inl rfl) (pe_call (ok_added T) (hr.mono (by decide)) rfl T.m_added T.F_added.kp T.b_added .nil pass0 (pa_cons (pv 2) (pa_cons (pv 5) (pa_cons (pv 8) (pa_cons (pv 9) pa_nil))))))
    (pss_cons (ps_set (i := 11) sc_lived.nd rfl (Or.inl rfl) (pe_gl (k := 14) (Tb := Tbl T) T (by rfl) TB rfl (lam_in_lived T) (lam_on_lived T) (hr.mono (by decide)) (hr.mono (by decide)) (LamX.lamS_by (by show LamX.lamSB (defScope s_lived) _ = true; decide +kernel)) rfl (fun _ _ _ _ _ => rfl) (fun _ _ _ _ _ _ _ hrl => (pe_methK (pv 1) T.cl_Ledger T.M_Ledger_add (ok_Ledger_add T) (hrl.mono (by decide)) (kb_Ledger_add_side T) (passes_lamE rfl rfl) (pa_cons (pe_callTy call_dictD (by rfl) T.z_dict (by decide +kernel) (pa_cons (pv 8) pa_nil)) pa_nil) (pk_cons (pv 9) pk_nil)))))
    (pss_cons (ps_if (pt_not (pt_val (pe_call (ok_same T 4) (hr.mono (by decide)) rfl T.m_same T.F_same.kp T.b_same .nil pass0 (pa_cons (pv 11) (pa_cons (pv 10) pa_nil))))) (pss_one (ps_ret pe_non)) pss_nil)
    (pss_one (ps_set (i := 5) sc_lived.nd rfl (Or.inl rfl) (pe_op op_cat (pv 5) (pe_op op_rep (pe_lst (pa_cons (pe_tup (pa_cons (pv 8) (pa_cons (pe_ix ix_tup (pv 10) pe_int (fun _ _ => rfl)) pa_nil))) pa_nil)) (pe_callTy call_int1 (by rfl) T.z_int (by decide +kernel) (pa_cons (pe_cmpR op_eq (pe_ix ix_tup (pv 10) pe_int (fun _ _ => rfl)) pe_str (nomark _)) pa_nil)))))))))))
    (pss_one (ps_ret (pv 5))))), ?_⟩
  refine ⟨(by show 0 ≤ sizeLine; decide), fun R0 fR0 => ?_⟩
  have s0 := same_new fR0 (.lst [])
  have L1 := L0.new s0
  have hR1 : Im q f p (upd H R0 (.lst [])) R0 = some (.lst []) := L0.fresh fR0 (fun _ h => nomatch h)
  have hwd1 := im_same (q := q) (f := f) (p := p) s0 _ _ hwd
  have e0 : Same (Im q f p H) (Im q f p (upd H R0 (.lst []))) := im_same s0
  generalize upd H R0 (.lst []) = H1 at *
  refine ⟨_, rfl, _, rfl, _, _, rfl, rfl, _, rfl, q, b, _, rfl, L1.box, by decide, by decide, fun d H2 d0 d1 B2 e2 => ?_⟩
  obtain ⟨d, rfl⟩ := Int.eq_ofNat_of_zero_le d0
  have L2 := L1.draw e2 B2
  have E2 := e0.trans (im_draw e2)
  have hR2 := im_draw (f := f) (p := p) e2 _ _ hR1
  have hwd2 := im_draw (f := f) (p := p) e2 _ _ hwd1
  refine ⟨_, _, rfl, rfl, _, rfl, wd, _, rfl, SqL.of (im_le _ _ hwd2), fun sl fsl => ?_⟩
  have hcut : cutV (zs.map V.str) (some (4 : Int)) (some (4 + 1 + (d : Int))) = ((zs.drop 4).take (d + 1)).map V.str := by
    rw [show (4 : Int) + 1 + (d : Int) = ((5 + d : Nat) : Int) by omega, show (4 : Int) = ((4 : Nat) : Int) from rfl]
    unfold cutV
    have hz : (zs.map V.str).length = 11 := by rw [List.length_map, W.ln]
    rw [HT.sIx_nat, HT.sIx_nat, hz, Nat.min_eq_left (by omega), Nat.min_eq_left (by omega), List.map_take, List.map_drop, show 5 + d - 4 = d + 1 by omega]
  rw [hcut]
  generalize hps : (zs.drop 4).take (d + 1) = ps
  have hpl : ps.length = d + 1 := by
    rw [← hps, List.length_take, List.length_drop, W.ln]
    omega
  have hpn : ∀ z ∈ ps, nameB z = true := fun z hz => W.nm z (List.mem_of_mem_drop (List.mem_of_mem_take (by rw [hps]; exact hz)))
  have s3 := same_new fsl (.lst (ps.map V.str))
  have L3 := L2.new s3
  have E3 := E2.trans (im_same s3)
  have hR3 := im_same (q := q) (f := f) (p := p) s3 _ _ hR2
  have hsl3 : Im q f p (upd H2 sl (.lst (ps.map V.str))) sl = some (.lst (ps.map V.str)) := L2.fresh fsl (fun _ h => nomatch h)
  generalize upd H2 sl (.lst (ps.map V.str)) = H3 at *
  clear L1 L2 hR1 hR2 hwd1 hwd2 e0 E2 s0 s3 e2 B2 fR0 fsl
  refine ⟨_, _, rfl, ?_⟩
  sizeOf_list_dec
  refine for_range (lo := 0) (n := ((n : Nat) : Int).toNat) (fun i σ Hx => Hold (∃ (f' : LFt) (rws : List (Row × Str)) (t : Addr) (o : List (Option V)), o.length = 5 ∧ σ = some (.ref q) :: some (.ref p) :: some (.ref a) :: some (.ref wd) :: some (.int (n : Nat)) :: some (.ref t) :: some (.ref sl) :: o ∧
    Liv K T.C_Ledger (Tbl T) Hx q b p f' ⟨ths, rws.map (·.1), rws.map (·.2), []⟩ ∧ Same (Im q f p H) (Im q f' p Hx) ∧ RowsAt K (Im q f' p Hx) t rws ∧ rws.length ≤ i ∧ (∀ x ∈ rws, lotB x.2 = true ∧ RowV x.1 ∧ (x.1.map fun y : Str × Str => y.1).Nodup) ∧ Im q f' p Hx sl = some (.lst (ps.map V.str)) ∧ (i = 0 ∨ 1 ≤ rws.length) ∧ Snd ths rws))
    ⟨f, [], R0, [none, none, none, none, none], rfl, rfl, L3, E3, ⟨[], hR3, .nil⟩, Nat.zero_le _, (fun x h => nomatch h), hsl3, .inl rfl, Snd.nil⟩ ?_ ?_
  · rintro i σ Hx hi ⟨f', rws, t, o, ho, rfl, Lx, Ex, hrw, hrl, hrv, hsl, _, hsn⟩
    obtain ⟨o7, o8, o9, o10, o11, rfl⟩ : ∃ o7 o8 o9 o10 o11, o = [o7, o8, o9, o10, o11] := by
      match o, ho with
      | [o7, o8, o9, o10, o11], _ => exact ⟨o7, o8, o9, o10, o11, rfl⟩
    have Wx : Wds Hx q wd zs := ⟨im_hide _ _ (Ex _ _ hwd), W.ln, W.nm, W.nd⟩
    refine ⟨_, rfl, _, rfl, _, rfl, entry_go Lx.box Wx (im_hide _ _ hsl) (by omega) (by omega) hpn fun u r G1 fu nu hu hrV hrn B1 g1 => ?_⟩
    have fu' : Hx u = none := by rw [hide_ne nu] at fu; exact fu
    have M1 := Lx.draw g1 B1
    have F1 := im_draw (f := f') (p := p) g1
    have hu1 : Im q f' p G1 u = some (.dK (rowK r)) := hw_of hu (fun k => by
      obtain ⟨z, hz⟩ := Lx.w u k
      rw [fu'] at hz
      cases hz) (fun _ h => nomatch h)
    refine ⟨_, rfl, (by show 4 ≤ sizeLine; decide), fun l4 f4 => ?_⟩
    have g2 := same_new f4 (.lst [.non, .non, .str "learn", .str "judge"])
    have M2 := M1.new g2
    have hl4 : hide q (upd G1 l4 (.lst [.non, .non, .str "learn", .str "judge"])) l4 = some (.lst [.non, .non, .str "learn", .str "judge"]) := by
      rw [hide_ne (B1.ne f4)]
      exact upd_same
    have F2 := F1.trans (im_same (q := q) (f := f') (p := p) g2)
    have hu2 := im_same (q := q) (f := f') (p := p) g2 _ _ hu1
    generalize upd G1 l4 (.lst [.non, .non, .str "learn", .str "judge"]) = G2 at *
    refine ⟨q, b, _, rfl, M2.box, .inl ⟨l4, _, rfl, .inl (SqL.of hl4), by decide, by decide, fun j x G3 hx B3 g3 => ?_⟩⟩
    obtain ⟨sd, hsd, rfl⟩ : ∃ sd : Option Str, (∀ z, sd = some z → lotB z = true) ∧ x = sdV sd := by
      match j, hx with
      | 0, h => exact ⟨none, (fun z e => nomatch e), (Option.some.inj h).symm⟩
      | 1, h => exact ⟨none, (fun z e => nomatch e), (Option.some.inj h).symm⟩
      | 2, h => exact ⟨some "learn", (fun z e => by cases e; decide +kernel), (Option.some.inj h).symm⟩
      | 3, h => exact ⟨some "judge", (fun z e => by cases e; decide +kernel), (Option.some.inj h).symm⟩
      | m + 4, h => cases h
    have M3 := M2.draw g3 B3
    have F3 := F2.trans (im_draw (f := f') (p := p) g3)
    have hu3 := im_draw (f := f') (p := p) g3 _ _ hu2
    clear M1 M2 F1 F2 hu1 hu2 g1 g2 B1 hl4 f4 fu nu hu B3
    refine ⟨(by show 2 ≤ sizeLine; decide), fun t2 ft2 => ?_⟩
    have g4 := same_new ft2 (.tup [.ref u, sdV sd])
    have M4 := M3.new g4
    have F4 := F3.trans (im_same (q := q) (f := f') (p := p) g4)
    have hu4 := im_same (q := q) (f := f') (p := p) g4 _ _ hu3
    refine ⟨t2, _, rfl, SqT.of upd_same, rfl, ?_⟩
    generalize upd G3 t2 (.tup [.ref u, sdV sd]) = G4 at *
    clear M3 F3 hu3 g3 g4 ft2
    sizeOf_list_dec
    refine added_go ((ha.mono (Ex.trans F4)).mono im_le) h3 h4 ((hrw.mono F4).mono im_le) (by omega) (fun x hx => (hrv x hx).1) (im_le _ _ hu4) hsd fun t3 G5 ft3 hres g5 => ?_
    have M5 := M4.new g5
    have F5 := F4.trans (im_same (q := q) (f := f') (p := p) g5)
    have hu5 := im_same (q := q) (f := f') (p := p) g5 _ _ hu4
    have hres5 := res_hw hres M5.li
    have hg : LGood ⟨ths, rws.map (·.1), rws.map (·.2), []⟩ := ⟨h3, h4, fun r hr => by
      obtain ⟨x, hx, rfl⟩ := List.mem_map.mp hr
      exact (hrv x hx).2, fun z hz => by
      obtain ⟨x, hx, rfl⟩ := List.mem_map.mp hz
      exact (hrv x hx).1, by rw [List.length_map, List.length_map], by show (rws.map (·.1)).length ≤ 200; rw [List.length_map]; omega⟩
    sizeOf_list_dec
    refine got_add T rfl rfl rfl M5 hg hu5 hrV hrn hsd fun v f2 H6 M6 F6 hv => ?_
    have hres6 := hres5.mono F6
    have hu6 := F6 _ _ hu5
    have F := F5.trans F6
    refine ⟨_, rfl, _, rfl, v, _, resD (addR ⟨ths, rws.map (·.1), rws.map (·.2), []⟩ r sd), rfl, hv, res_dp (hres6.mono im_le), resD_fits _, fun H7 g7 => ⟨_, rfl, iteF ?_⟩⟩
    have M7 := M6.new g7
    have F7 := F.trans (im_same (q := q) (f := f2) (p := p) g7)
    have hres7 := hres6.mono (im_same (q := q) (f := f2) (p := p) g7)
    have hu7 := im_same (q := q) (f := f2) (p := p) g7 _ _ hu6
    have hrw7 := hrw.mono F7
    have hsl7 := F7 _ _ hsl
    have Ex7 := Ex.trans F7
    obtain ⟨tag, y, ht3, hR⟩ := res_parts hres7
    obtain ⟨us, hus, hp⟩ := hrw7.ex
    have hlen := pr_len hp
    have hx1 : atI ([.str tag, y] : List V) 1 = some y := rfl
    have hx0 : atI ([.str tag, y] : List V) 0 = some (.str tag) := rfl
    have ht3s := SqT.of (K := K) (im_le _ _ ht3)
    refine ⟨_, rfl, _, rfl, _, rfl, t3, _, _, _, rfl, rfl, ht3s, hx1, (by show 2 ≤ sizeLine; decide), fun e fe => ⟨(by show 1 ≤ sizeLine; decide), fun l fl => ?_⟩⟩
    have g8 := same_new fe (.tup [.ref u, y])
    have g9 := same_new fl (.lst [.ref e])
    have M9 := (M7.new g8).new g9
    have F9 := (im_same (q := q) (f := f2) (p := p) g8).trans (im_same (q := q) (f := f2) (p := p) g9)
    have he9 : Im q f2 p (upd (upd H7 e (.tup [.ref u, y])) l (.lst [.ref e])) e = some (.tup [.ref u, y]) := im_same (q := q) (f := f2) (p := p) g9 _ _ (M7.fresh fe (fun _ h => nomatch h))
    have hl9 : upd (upd H7 e (.tup [.ref u, y])) l (.lst [.ref e]) l = some (.lst [.ref e]) := upd_same
    have ht39 := SqT.of (K := K) (im_le _ _ (F9 _ _ ht3))
    have hus9 := F9 _ _ hus
    have hu9 := F9 _ _ hu7
    have hsl9 := F9 _ _ hsl7
    have hp9 : Paired (UndOk K (Im q f2 p (upd (upd H7 e (.tup [.ref u, y])) l (.lst [.ref e])))) us rws := prMp hp fun _ _ z => z.mono F9
    have Ex9 := Ex7.trans F9
    generalize upd (upd H7 e (.tup [.ref u, y])) l (.lst [.ref e]) = H9 at *
    refine ⟨_, rfl, t3, _, _, _, rfl, rfl, ht39, hx0, rfl, .inr ⟨_, rfl, ?_⟩⟩
    have ht9 := im_le _ _ hus9
    rcases hR with ⟨z, hRz, rfl, rfl⟩ | ⟨hno, hne⟩
    · have hd : (if decide (V.str ("" : Str) = V.str ("" : Str)) = true then (1 : Int) else 0) = 1 := if_pos (decide_eq_true rfl)
      rw [hd]
      refine ⟨l, 1, [.ref e], rfl, rfl, hl9, by decide, by decide, (by show 1 * 1 ≤ sizeLine; decide), fun l2 fl2 => ?_⟩
      have g10 := same_new fl2 (.lst [.ref e])
      refine ⟨t, l2, us.map V.ref, [.ref e], rfl, rfl, g10 _ _ ht9, upd_same, small (by rw [List.length_map, hlen]; show rws.length + 1 ≤ _; omega), fun t' ft' => ?_⟩
      have g11 := same_new ft' (.lst (us.map V.ref ++ [.ref e]))
      have M10 := M9.new g10
      have ht' := M10.fresh (o := .lst (us.map V.ref ++ [.ref e])) ft' (fun _ h => nomatch h)
      have F11 := (im_same (q := q) (f := f2) (p := p) g10).trans (im_same (q := q) (f := f2) (p := p) g11)
      have hL : after ⟨ths, rws.map (·.1), rws.map (·.2), []⟩ r (addR ⟨ths, rws.map (·.1), rws.map (·.2), []⟩ r sd) = ⟨ths, (rws ++ [(r, z)]).map (·.1), (rws ++ [(r, z)]).map (·.2), []⟩ := by
        rw [hRz, List.map_append, List.map_append]
        rfl
      have M11 := M10.new g11
      rw [hL] at M11
      refine ⟨f2, rws ++ [(r, z)], t', [_, _, _, _, _], rfl, rfl, M11, Ex9.trans F11, ⟨us ++ [e], by rw [List.map_append]; exact ht', pr_app (prMp hp9 fun _ _ z => z.mono F11) (.cons ⟨u, SqT.of (F11 _ _ he9), F11 _ _ hu9⟩ .nil)⟩, ?_, fun x hx => ?_, F11 _ _ hsl9, .inr (by rw [List.length_append]; show 1 ≤ rws.length + 1; omega), hsn.snoc (addR_some hRz)⟩
      · rw [List.length_append]
        show rws.length + 1 ≤ i + 1
        omega
      · rcases List.mem_append.mp hx with hx | hx
        · exact hrv x hx
        · rw [List.mem_singleton.mp hx]
          exact ⟨addR_lot hsd hRz, hrV, hrn⟩
    · have hne1 : i + 1 = 0 ∨ 1 ≤ rws.length := by
        cases rws with
        | nil => exact absurd addR_first (hno _)
        | cons x l => exact .inr (Nat.succ_le_succ (Nat.zero_le _))
      have hd : (if decide (V.str tag = V.str ("" : Str)) = true then (1 : Int) else 0) = 0 := if_neg (by
        rw [decide_eq_false fun h => hne (V.str.inj h)]
        exact Bool.false_ne_true)
      rw [hd]
      refine ⟨l, 0, [.ref e], rfl, rfl, hl9, by decide, by decide, (by show 1 * 0 ≤ sizeLine; decide), fun l2 fl2 => ?_⟩
      have g10 := same_new fl2 (.lst [])
      refine ⟨t, l2, us.map V.ref, [], rfl, rfl, g10 _ _ ht9, upd_same, small (by rw [List.length_map, hlen]; show rws.length + 0 ≤ _; omega), fun t' ft' => ?_⟩
      have g11 := same_new ft' (.lst (us.map V.ref ++ []))
      have M10 := M9.new g10
      have ht' := M10.fresh (o := .lst (us.map V.ref ++ [])) ft' (fun _ h => nomatch h)
      rw [List.append_nil] at ht'
      have F11 := (im_same (q := q) (f := f2) (p := p) g10).trans (im_same (q := q) (f := f2) (p := p) g11)
      have hL : after ⟨ths, rws.map (·.1), rws.map (·.2), []⟩ r (addR ⟨ths, rws.map (·.1), rws.map (·.2), []⟩ r sd) = ⟨ths, rws.map (·.1), rws.map (·.2), []⟩ := by
        generalize addR ⟨ths, rws.map (·.1), rws.map (·.2), []⟩ r sd = R at *
        cases R with
        | ok z => exact absurd rfl (hno z)
        | _ => rfl
      have M11 := M10.new g11
      rw [hL] at M11
      refine ⟨f2, rws, t', [_, _, _, _, _], rfl, rfl, M11, Ex9.trans F11, ⟨us, ?_, prMp hp9 fun _ _ z => z.mono F11⟩, by omega, hrv, F11 _ _ hsl9, hne1, hsn⟩
      rw [List.append_nil]
      exact ht'
  · rintro σ Hx ⟨f', rws, t, o, ho, rfl, Lx, Ex, hrw, hrl, hrv, hsl, hne, hsn⟩
    rw [Int.toNat_natCast] at hrl
    exact ⟨_, rfl, k t f' rws Hx Lx hrw hrl hrv Ex (by
      rcases hne with h | h
      · have h : ((n : Nat) : Int).toNat = 0 := h
        rw [Int.toNat_natCast] at h
        omega
      · exact h) hsn⟩
end
end Bl

namespace Bl
open PySem L2
open SX (S)
/-! short words: array_get_dec closes a side condition; array_mem_dec goes one step into a reading; sizeOf_list_dec goes on while it can -/
local macro_rules | `(tactic| array_get_dec) => `(tactic| first
  | (with_reducible assumption)
  | ((with_reducible apply Bl.gEq); first
    | rfl
    | assumption
    | exact upd_same
    | (with_reducible exact kit_d some_str)
    | (with_reducible exact kit_d some_int)
    | (with_reducible exact kit_d some_bool)
    | (with_reducible exact kit_d some_list)
    | (with_reducible exact kit_d some_tuple)
    | ((with_reducible apply Bl.get_new); assumption; array_get_dec)
    | ((with_reducible apply Bl.get_tr); assumption; array_get_dec)
    )
  | ((with_reducible apply Bl.gLe); first
    | omega
    | exact small (by omega)
    | exact small (by simp only [List.length_cons, List.length_nil]; decide)
    | exact small (by simp only [List.length_append, List.length_cons, List.length_nil]; omega)
    | decide)
  | ((with_reducible apply Bl.gLt); first
    | omega
    | exact small' (by omega)
    | exact small' (by simp only [List.length_cons, List.length_nil]; decide)
    | decide)
  | ((fail_if_success (with_reducible apply Bl.gEq)); (fail_if_success (with_reducible apply Bl.gLe)); (fail_if_success (with_reducible apply Bl.gLt)); first
    | assumption
    | exact SqL.of upd_same
    | exact SqT.of upd_same
    | ((with_reducible apply SqL.of); assumption)
    | ((with_reducible apply SqT.of); assumption)
    | exact Same.refl _
    | exact .ty _
    | exact .str _
    | exact .int _
    | exact ⟨_, rfl⟩
    | ((with_reducible apply Dp.ty); assumption)
    | ((with_reducible apply Bl.seq_new); assumption; array_get_dec)
    | ((with_reducible apply Bl.tup_new); assumption; array_get_dec)
    | ((with_reducible apply Bl.dp_new); assumption; array_get_dec)
    | ((with_reducible apply Bl.dpa_new); assumption; array_get_dec)
    | ((with_reducible apply Bl.same_nw); assumption; array_get_dec)
    | ((with_reducible apply Bl.seq_tr); assumption; array_get_dec)
    | ((with_reducible apply Bl.tup_tr); assumption; array_get_dec)
    | ((with_reducible apply Bl.dp_tr); assumption; array_get_dec)
    | ((with_reducible apply Bl.dpa_tr); assumption; array_get_dec)
    | ((with_reducible apply Bl.same_tr); assumption; array_get_dec)
    | ((with_reducible apply Dp.ty); assumption)
    | ((with_reducible apply Dp.ty); array_get_dec)
    | ((with_reducible refine Or.inl ?_); array_get_dec)
    | ((with_reducible refine Or.inr ?_); array_get_dec)
    | ((with_reducible apply Bl.gEx); array_get_dec)))
local macro_rules | `(tactic| array_mem_dec) => `(tactic| first
  | ((with_reducible apply Bl.gIte); first
    | (refine Bl.gT (by rfl) ?_)
    | (refine Bl.gF (by rfl) ?_))
  | ((fail_if_success (with_reducible apply Bl.gIte)); (fail_if_success (with_reducible apply Bl.gLoop)); (fail_if_success (with_reducible apply Bl.gComp)); (fail_if_success (with_reducible apply Bl.gWhile)); first
    | (with_reducible intro _ _)
    | (with_reducible intro _)
    | (refine And.intro (by array_get_dec) ?_)
    | (apply Bl.gEx)
    | (refine Or.inl (And.intro (by array_get_dec) ?_))
    | (refine Or.inr (And.intro (by array_get_dec) ?_))
    | (refine Or.inl ⟨_, by array_get_dec, ?_⟩)
    | (refine Or.inr ⟨_, by array_get_dec, ?_⟩)
    ))
local macro_rules | `(tactic| sizeOf_list_dec) => `(tactic| repeat array_mem_dec)

theorem pass0X {X : Cx} {P : Program} {w : World} : Passes (L2.CX P w) X E0 := fun _ _ _ _ _ _ _ h => by
  obtain ⟨_, _, _, _, _, _, _, _, _, _, _, _, q⟩ := h
  exact q.elim
theorem nostop0 {K : PySem.W.Frag} : NoStop K E0 := fun _ _ _ h => h.elim
section
variable {P : Program} {w : World} {K : PySem.W.Frag} {mg : Str → Option Value} {base : Heap}
theorem S_inj {x y : List Nat} (h : S x = S y) : x = y := by
  have := congrArg (fun s : Str => s.cps.toList) h
  simpa [S] using this
theorem fields_go {p l q : Addr} {zs : List Str} {H : Hp} {Q : VK} {E : XK} (B : BoxAt H p l) (W : Wds H p q zs)
    (k : ∀ (a : Addr) (ts : List Addr) (ths : List (List Str)) (H' : Hp), hide p H a = none → a ≠ p → H' a = some (.lst (ts.map V.ref)) → Paired (ThOk K (hide p H')) ts ths → (∀ th ∈ ths, ThV th ∧ ∀ f ∈ th, f ∈ zs.take 4) → 1 ≤ ths.length → ths.length ≤ 4 → BoxAt H' p l → But p H H' → Q (.ref a) H') : spFields K [.ref p, .ref q] H Q E := by
  unfold spFields
  exact ⟨p, l, q, zs, rfl, B, W, k⟩
theorem ledger_go {C a : Addr} {ts : List Addr} {ns : List (List Str)} {H : Hp} {Q : VK} {E : XK} (ha : SqL K H a (ts.map V.ref)) (hts : Paired (ThOk K H) ts ns) (hn : ∀ n ∈ ns, ThV n) (l1 : 1 ≤ ns.length) (l4 : ns.length ≤ 4)
    (k : ∀ (p : Addr) (f : LFt) (H' : Hp), LedAt K C H' p f ⟨ns, [], [], []⟩ → Same H H' → (∀ x ∈ f.all p, H x = none) → Q (.ref p) H') : spLedger K C [.ref a] H Q E := by
  unfold spLedger
  exact ⟨a, ts, ns, rfl, ha, hts, hn, l1, l4, k⟩
theorem things_go {C p : Addr} {f : LFt} {L : LSt} {H : Hp} {Q : VK} {E : XK} (L0 : LedAt K C H p f L) (k : ∀ (a : Addr) (ts : List Addr) (H' : Hp), H a = none → H' a = some (.lst (ts.map V.ref)) → Paired (ThOk K H') ts L.things → Same H H' → Q (.ref a) H') : spThings K C [.ref p] H Q E := by
  unfold spThings
  exact ⟨p, f, L, rfl, L0, k⟩
theorem len_go {C p : Addr} {f : LFt} {L : LSt} {H : Hp} {Q : VK} {E : XK} (L0 : LedAt K C H p f L) (k : Q (.int (L.rows.length : Nat)) H) : spLen K C [.ref p] H Q E := by
  unfold spLen
  exact ⟨p, f, L, rfl, L0, k⟩
theorem side_go {C p : Addr} {n : Nat} {z : Str} {f : LFt} {L : LSt} {H : Hp} {Q : VK} {E : XK} (L0 : LedAt K C H p f L) (hl : L.sides.length = L.rows.length) (h : L.sides[n]? = some z) (k : ∀ H', Same H H' → Q (.str z) H') : spSide K C [.ref p, .int (n : Nat)] H Q E := by
  unfold spSide
  exact ⟨p, f, L, n, z, rfl, L0, hl, h, k⟩
theorem row_go {C p : Addr} {n : Nat} {r : Row} {f : LFt} {L : LSt} {H : Hp} {Q : VK} {E : XK} (L0 : LedAt K C H p f L) (h : L.rows[n]? = some r) (k : ∀ (a : Addr) (H' : Hp), H a = none → H' a = some (.dK (rowK r)) → Same H H' → Q (.ref a) H') : spRow K C [.ref p, .int (n : Nat)] H Q E := by
  unfold spRow
  exact ⟨p, f, L, n, r, rfl, L0, h, k⟩
theorem repr_go {C p : Addr} {f : LFt} {L : LSt} {H : Hp} {Q : VK} {E : XK} (L0 : LedAt K C H p f L) (hl : L.sides.length ≤ 200) (k : Q (.str (ledTxt L.sides)) H) : spRepr K C [.ref p] H Q E := by
  unfold spRepr
  exact ⟨p, f, L, rfl, L0, hl, k⟩
theorem repr_goT {C p : Addr} {f : LFt} {L : LSt} {tx : Str} {H : Hp} {Q : VK} {E : XK} (L0 : LedAt K C H p f L) (hl : L.sides.length ≤ 200) (hz : ledTxt L.sides = tx) (k : Q (.str tx) H) : spRepr K C [.ref p] H Q E := repr_go L0 hl (hz ▸ k)
theorem tally_goT {C p : Addr} {z : Str} {n : Nat} {f : LFt} {L : LSt} {H : Hp} {Q : VK} {E : XK} (hz : lotB z = true) (L0 : LedAt K C H p f L) (hn : L.sides.count z = n) (k : Q (.int (n : Nat)) H) : spTally K C [.ref p, .str z] H Q E := tally_go hz L0 (hn ▸ k)
theorem walk_go {C p : Addr} {z : Str} {f : LFt} {L : LSt} {H : Hp} {Q : List V → Hp → Prop} {E : XK} (hz : lotB z = true) (L0 : LedAt K C H p f L) (hl : L.sides.length ≤ 200) (k : ∀ H', Same H H' → Q ((walkOf L.sides z).map fun n => V.int (n : Nat)) H') : spWalk K C [.ref p, .str z] H Q E := by
  unfold spWalk
  exact ⟨p, z, f, L, rfl, hz, L0, hl, k⟩
theorem dp_int {H : Hp} {i j : Int} (h : i = j) : Dp K H (.int i) (.int j) := h ▸ .int i
theorem fits_tup {th : List Str} (h : th.length ≤ 3) : Fits 4 (tupD th) := by
  refine ⟨by rw [List.length_map]; omega, fun d hd => ?_⟩
  obtain ⟨z, _, rfl⟩ := List.mem_map.mp hd
  exact True.intro
theorem fits_th {ths : List (List Str)} {n : Int} (h3 : ∀ th ∈ ths, ThV th) (h4 : ths.length ≤ 4) : Fits 6 (.list [thD ths, .int n]) := by
  refine ⟨by show 2 < 1000000; decide, fun d hd => ?_⟩
  rcases List.mem_cons.mp hd with rfl | hd
  · refine ⟨by rw [List.length_map]; omega, fun d hd => ?_⟩
    obtain ⟨th, ht, rfl⟩ := List.mem_map.mp hd
    exact fits_tup (h3 th ht).hi
  · rw [List.mem_singleton.mp hd]
    exact True.intro
theorem fits_row {zs : List (Str × Str)} (h : zs.length < 1000000) : Fits 5 (rowD zs) := by
  refine ⟨by rw [List.length_map]; exact h, fun d hd => ?_⟩
  obtain ⟨z, _, rfl⟩ := List.mem_map.mp hd
  refine ⟨by show 2 < 1000000; decide, fun d hd => ?_⟩
  rcases List.mem_cons.mp hd with rfl | hd
  · exact True.intro
  · rw [List.mem_singleton.mp hd]
    exact True.intro
theorem fits_three {a b c : PyData} (ha : Fits 5 a) (hb : Fits 5 b) (hc : Fits 5 c) : Fits 6 (.list [a, b, c]) := by
  refine ⟨by show 3 < 1000000; decide, fun d hd => ?_⟩
  rcases List.mem_cons.mp hd with rfl | hd
  · exact ha
  rcases List.mem_cons.mp hd with rfl | hd
  · exact hb
  · rw [List.mem_singleton.mp hd]
    exact hc
theorem fits_two {a b : PyData} (ha : Fits 5 a) (hb : Fits 5 b) : Fits 6 (.list [a, b]) := by
  refine ⟨by show 2 < 1000000; decide, fun d hd => ?_⟩
  rcases List.mem_cons.mp hd with rfl | hd
  · exact ha
  · rw [List.mem_singleton.mp hd]
    exact hb
def natsD (ns : List Nat) : PyData := .list (ns.map fun n => .int (n : Nat))
theorem dp_nats {H : Hp} {a : Addr} {ns : List Nat} (h : SqL K H a (ns.map fun n => V.int (n : Nat))) : Dp K H (.ref a) (natsD ns) := by
  refine .lst h ?_
  clear h
  induction ns with
  | nil => exact .nil
  | cons n ns ih => exact .cons (.int _) ih
theorem fits_nats {ns : List Nat} (h : ns.length < 1000000) : Fits 5 (natsD ns) := by
  refine ⟨by rw [List.length_map]; exact h, fun d hd => ?_⟩
  obtain ⟨z, _, rfl⟩ := List.mem_map.mp hd
  exact True.intro
theorem lived_go (T : Top K mg) {q b p a wd : Addr} {n : Nat} {f : LFt} {ths : List (List Str)} {zs : List Str} {H : Hp} {Q : VK} {E : XK} (L0 : Liv K T.C_Ledger (Tbl T) H q b p f ⟨ths, [], [], []⟩) (W : Wds H q wd zs) (hwd : Im q f p H wd = some (.lst (zs.map V.str))) (ha : ThsAt K (Im q f p H) a ths)
    (h3 : ∀ th ∈ ths, ThV th) (h4 : ths.length ≤ 4) (n1 : 1 ≤ n) (n50 : n ≤ 50)
    (k : ∀ (t : Addr) (f' : LFt) (rws : List (Row × Str)) (H' : Hp), Liv K T.C_Ledger (Tbl T) H' q b p f' ⟨ths, rws.map (·.1), rws.map (·.2), []⟩ → RowsAt K (Im q f' p H') t rws → rws.length ≤ n → (∀ x ∈ rws, lotB x.2 = true ∧ RowV x.1 ∧ (x.1.map fun y : Str × Str => y.1).Nodup) →
      Same (Im q f p H) (Im q f' p H') → 1 ≤ rws.length → Snd ths rws → Q (.ref t) H') : spLived T [.ref q, .ref p, .ref a, .ref wd, .int (n : Nat)] H Q E := by
  unfold spLived
  exact ⟨q, b, p, a, wd, n, f, ths, zs, rfl, n1, n50, L0, W, hwd, ha, h3, h4, k⟩
theorem inLot_count0 {ss : List Str} {z : Str} : ∀ n, n ≤ ss.length → (inLot ss z ((List.range ss.length).take n)).length = (ss.take n).count z
  | 0, _ => rfl
  | n + 1, h => by
    have ih := inLot_count0 (ss := ss) (z := z) n (by omega)
    have hst := inLot_step (sides := ss) (z := z) (is := List.range ss.length) (j := n) (n := n) (by rw [List.getElem?_range (by omega)])
    rw [hst, List.length_append, ih, List.take_add_one, List.getElem?_eq_getElem (show n < ss.length by omega), List.count_append]
    show _ = _ + [ss[n]].count z
    rw [List.count_cons]
    by_cases q : ss[n] = z
    · rw [decide_eq_true (by rw [q]), if_pos rfl, q]
      simp
    · rw [decide_eq_false (fun h => q (Option.some.inj h)), if_neg (by decide)]
      simp [q]
theorem inLot_count {ss : List Str} {z : Str} : (inLot ss z (List.range ss.length)).length = ss.count z := by
  have := inLot_count0 (ss := ss) (z := z) ss.length (Nat.le_refl _)
  rwa [List.take_length, List.take_of_length_le (by rw [List.length_range]; exact Nat.le_refl _)] at this
theorem ledTxt_eq {ss : List Str} {a b : Nat} (ha : ss.count ("learn" : Str) = a) (hb : ss.count ("judge" : Str) = b) : ledTxt ss = ((((("Ledger(" : Str) ++ Str.ofString (toString ((a : Nat) : Int))) ++ (" learn, " : Str)) ++ Str.ofString (toString ((b : Nat) : Int))) ++ (" judge)" : Str)) := by
  unfold ledTxt
  rw [ha, hb, Str.empty_append]
/-- what the question tells of a row without a lot -/
def offD (L : LSt) (r : Row) : PyData := match lrn L r, jdg L r with
  | some a, some b => .tuple [.str "Torn", .tuple [.int (a : Nat), .int (b : Nat)]]
  | some _, none => .tuple [.str "", .str "learn"]
  | none, some _ => .tuple [.str "", .str "judge"]
  | none, none => .tuple [.str "", .none]
theorem rowK_flat : ∀ {r : Row}, (r.map (·.1)).Nodup → ∀ p ∈ rowK r, valV (rowK r) p.1 = some p.2 ∧ flatB p.2 = true
  | [], _, p, h => nomatch h
  | x :: r, nd, p, h => by
    rw [List.map_cons, List.nodup_cons] at nd
    rcases List.mem_cons.mp (show p ∈ (Sum.inr x.1, V.str x.2) :: rowK r from h) with rfl | h
    · exact ⟨valV_pos rfl, rfl⟩
    · have ih := rowK_flat nd.2 p h
      refine ⟨?_, ih.2⟩
      have hne : ¬ (Sum.inr x.1 : Key) = p.1 := fun e => by
        obtain ⟨y, hy, rfl⟩ := List.mem_map.mp (show p ∈ r.map (fun q : Str × Str => ((Sum.inr q.1 : Key), V.str q.2)) from h)
        exact nd.1 (List.mem_map.mpr ⟨y, hy, (Sum.inr.inj e).symm⟩)
      show valV ((Sum.inr x.1, V.str x.2) :: rowK r) p.1 = some p.2
      rw [valV_neg hne]
      exact ih.1
theorem Fits.up : ∀ {n : Nat} {d : PyData}, Fits n d → Fits (n + 1) d
  | 0, d, h => by cases d <;> exact h.elim
  | n + 1, .none, _ => True.intro
  | n + 1, .bool _, _ => True.intro
  | n + 1, .int _, _ => True.intro
  | n + 1, .str _, _ => True.intro
  | n + 1, .list ds, h => ⟨h.1, fun d hd => Fits.up (n := n) (h.2 d hd)⟩
  | n + 1, .tuple ds, h => ⟨h.1, fun d hd => Fits.up (n := n) (h.2 d hd)⟩
  | n + 1, .dict _, h => h.elim
theorem fits_off : Fits 6 (.tuple [.str "", .none]) := by
  refine ⟨by show 2 < 1000000; decide, fun d hd => ?_⟩
  rcases List.mem_cons.mp hd with rfl | hd
  · exact True.intro
  · rw [List.mem_singleton.mp hd]
    exact True.intro
theorem off_free {L : LSt} {r : Row} (a : lrn L r = none) (b : jdg L r = none) : offD L r = .tuple [.str "", .none] := by
  unfold offD
  rw [a, b]
theorem off_due {L : LSt} {r : Row} (h : L.rows.length < 200) (n : ¬ (lrn L r = none ∧ jdg L r = none)) : offD L r = resD (addR L r none) := by
  unfold offD addR tornOf dueA dueOf
  rw [if_neg (by omega)]
  cases e1 : lrn L r with
  | some a =>
    cases e2 : jdg L r with
    | some b => rfl
    | none => rfl
  | none =>
    cases e2 : jdg L r with
    | some b => rfl
    | none => exact absurd ⟨e1, e2⟩ n
theorem eqv_free {l1 l2 : List Nat} : PyData.eqv (.list [natsD (l1.take 1), natsD (l2.take 1)]) (.list [.list [], .list []]) = (l1.head?.isNone && l2.head?.isNone) := by
  cases l1 <;> cases l2 <;> simp [natsD, PyData.eqv, PyData.eqvAll]
theorem shaped_free {l1 l2 : List Nat} : SeqAt.shaped (.list [natsD (l1.take 1), natsD (l2.take 1)]) = true := by
  cases l1 <;> cases l2 <;> rfl
theorem got_offer (T : Top K mg) {i j : Nat} {σ : L2.St} {H : Hp} {Q : VK} {q b p u : Addr} {f : LFt} {L : LSt} {r : Row} (i5 : σ[i]? = some (some (.ref p))) (i12 : σ[j]? = some (some (.ref u)))
    (Lv : Liv K T.C_Ledger (Tbl T) H q b p f L) (g : LGood L) (hu : Im q f p H u = some (.dK (rowK r))) (hV : RowV r) (nd : (r.map (·.1)).Nodup)
    (k : ∀ (v : V) (H' : Hp), Liv K T.C_Ledger (Tbl T) H' q b p f L → Same (Im q f p H) (Im q f p H') → Dp K H' v (offD L r) → Q v H') :
    tGL T (Tbl T) (fun E => tMeth T.C_Ledger "offer" (spOffer T) [] E (tVar i) (tCons (tVar j) tNil)) σ H Q := by
  unfold tGL
  refine ⟨Lv.tabs, fun H1 e1 t1 => ?_⟩
  have L1 := Lv.ext e1 t1
  have E1 := im_ext (q := q) (f := f) (p := p) e1
  have hu1 := E1 _ _ hu
  refine ⟨_, i5, p, _, _, rfl, L1.led.ins, LFt.lkN (by decide +kernel), ?_⟩
  refine ⟨_, i12, ?_⟩
  show spOffer T [.ref p, .ref u] _ _ _
  unfold spOffer
  refine ⟨p, u, f, L, r, rfl, L1.led, g, im_le _ _ hu1, hV, nd, ?_⟩
  unfold offD at k
  have two : ∀ (x : V) (d : PyData) (H3 : Hp), (∀ v H', Liv K T.C_Ledger (Tbl T) H' q b p f L → Same (Im q f p H) (Im q f p H') → Dp K H' v (.tuple [.str "", d]) → Q v H') → Same H1 H3 → (∀ H', Dp K H' x d) → ([V.str "", x] : List V).length ≤ sizeLine ∧ ∀ t, H3 t = none → Q (.ref t) (upd H3 t (.tup [.str "", x])) := fun x d H3 kk s3 hd => by
    refine ⟨by show 2 ≤ sizeLine; decide, fun v fv => ?_⟩
    have s4 := s3.trans (same_new fv (.tup [.str "", x]))
    exact kk _ _ (L1.new s4) (E1.trans (im_same s4)) (.tup (SqT.of upd_same) (.cons (.str _) (.cons (hd _) .nil)))
  cases hl : lrn L r with
  | some a =>
    cases hj : jdg L r with
    | some b =>
      rw [hl, hj] at k
      intro cls e H3 rs s3
      exact ⟨_, _, [.int (a : Nat), .int (b : Nat)], rs.hand, .cons (.int _) (.cons (.int _) .nil), rs.any, fun v H4 s4 hv => k v H4 ((L1.new s3).new s4) (E1.trans ((im_same s3).trans (im_same s4))) hv⟩
    | none =>
      rw [hl, hj] at k
      exact fun H3 s3 => two _ _ H3 k s3 fun _ => .str _
  | none =>
    cases hj : jdg L r with
    | some b =>
      rw [hl, hj] at k
      exact fun H3 s3 => two _ _ H3 k s3 fun _ => .str _
    | none =>
      rw [hl, hj] at k
      exact fun H3 s3 => two _ _ H3 k s3 fun _ => .non
end
end Bl

namespace Bl
open PySem L2
open SX (S)
/-! short words: array_get_dec closes a side condition; array_mem_dec goes one step into a reading; sizeOf_list_dec goes on while it can -/
local macro_rules | `(tactic| array_get_dec) => `(tactic| first
  | (with_reducible assumption)
  | ((with_reducible apply Bl.gEq); first
    | rfl
    | assumption
    | exact upd_same
    | (with_reducible exact kit_d some_str)
    | (with_reducible exact kit_d some_int)
    | (with_reducible exact kit_d some_bool)
    | (with_reducible exact kit_d some_list)
    | (with_reducible exact kit_d some_tuple)
    | ((with_reducible apply Bl.get_new); assumption; array_get_dec)
    | ((with_reducible apply Bl.get_tr); assumption; array_get_dec)
    )
  | ((with_reducible apply Bl.gLe); first
    | omega
    | exact small (by omega)
    | exact small (by simp only [List.length_cons, List.length_nil]; decide)
    | exact small (by simp only [List.length_append, List.length_cons, List.length_nil]; omega)
    | decide)
  | ((with_reducible apply Bl.gLt); first
    | omega
    | exact small' (by omega)
    | exact small' (by simp only [List.length_cons, List.length_nil]; decide)
    | decide)
  | ((fail_if_success (with_reducible apply Bl.gEq)); (fail_if_success (with_reducible apply Bl.gLe)); (fail_if_success (with_reducible apply Bl.gLt)); first
    | assumption
    | exact SqL.of upd_same
    | exact SqT.of upd_same
    | ((with_reducible apply SqL.of); assumption)
    | ((with_reducible apply SqT.of); assumption)
    | exact Same.refl _
    | exact .ty _
    | exact .str _
    | exact .int _
    | exact ⟨_, rfl⟩
    | ((with_reducible apply Dp.ty); assumption)
    | ((with_reducible apply Bl.seq_new); assumption; array_get_dec)
    | ((with_reducible apply Bl.tup_new); assumption; array_get_dec)
    | ((with_reducible apply Bl.dp_new); assumption; array_get_dec)
    | ((with_reducible apply Bl.dpa_new); assumption; array_get_dec)
    | ((with_reducible apply Bl.same_nw); assumption; array_get_dec)
    | ((with_reducible apply Bl.seq_tr); assumption; array_get_dec)
    | ((with_reducible apply Bl.tup_tr); assumption; array_get_dec)
    | ((with_reducible apply Bl.dp_tr); assumption; array_get_dec)
    | ((with_reducible apply Bl.dpa_tr); assumption; array_get_dec)
    | ((with_reducible apply Bl.same_tr); assumption; array_get_dec)
    | ((with_reducible apply Dp.ty); assumption)
    | ((with_reducible apply Dp.ty); array_get_dec)
    | ((with_reducible refine Or.inl ?_); array_get_dec)
    | ((with_reducible refine Or.inr ?_); array_get_dec)
    | ((with_reducible apply Bl.gEx); array_get_dec)))
local macro_rules | `(tactic| array_mem_dec) => `(tactic| first
  | ((with_reducible apply Bl.gIte); first
    | (refine Bl.gT (by rfl) ?_)
    | (refine Bl.gF (by rfl) ?_))
  | ((fail_if_success (with_reducible apply Bl.gIte)); (fail_if_success (with_reducible apply Bl.gLoop)); (fail_if_success (with_reducible apply Bl.gComp)); (fail_if_success (with_reducible apply Bl.gWhile)); first
    | (with_reducible intro _ _)
    | (with_reducible intro _)
    | (refine And.intro (by array_get_dec) ?_)
    | (apply Bl.gEx)
    | (refine Or.inl (And.intro (by array_get_dec) ?_))
    | (refine Or.inr (And.intro (by array_get_dec) ?_))
    | (refine Or.inl ⟨_, by array_get_dec, ?_⟩)
    | (refine Or.inr ⟨_, by array_get_dec, ?_⟩)
    ))
local macro_rules | `(tactic| sizeOf_list_dec) => `(tactic| repeat array_mem_dec)

abbrev n_Bonds___init__ : List Str := ["self", "marked", "row", "mark"]
theorem sc_Bonds___init__ : FnScope n_Bonds___init__ ["self", "marked"] (defScope s_Bonds___init__) := ⟨rfl, rfl, rfl, by decide +kernel, rfl, by decide +kernel, by decide +kernel⟩
abbrev n_Bonds__distances : List Str := ["self", "start", "found", "used", "level", "fresh", "row", "marks", "mark", "other"]
theorem sc_Bonds__distances : FnScope n_Bonds__distances ["self", "start"] (defScope s_Bonds__distances) := ⟨rfl, rfl, rfl, by decide +kernel, rfl, by decide +kernel, by decide +kernel⟩
abbrev n_Bonds_group : List Str := ["self", "start"]
theorem sc_Bonds_group : FnScope n_Bonds_group ["self", "start"] (defScope s_Bonds_group) := ⟨rfl, rfl, rfl, by decide +kernel, rfl, by decide +kernel, by decide +kernel⟩
/-- no tuple stands there -/
def NT (H : Hp) (x : Addr) : Prop := ∀ o, H x = some o → (∀ xs, o ≠ .tup xs) ∧ ∀ f xs, o ≠ .frz f (.tup xs)
section
variable {P : Program} {w : World} {K : PySem.W.Frag} {H H' H0 : Hp} {S : List Addr}
theorem fr_tupN {t : Addr} {xs : List V} (e : Fr S H H') (hS : ∀ x ∈ S, NT H x) (h : SqT K H t xs) : SqT K H' t xs := by
  rcases h with (h | ⟨o, h⟩) | h
  · exact .inl (.inl (e t _ h fun hm => (hS t hm _ h).1 _ rfl))
  · exact .inl (.inr ⟨o, e t _ h fun hm => (hS t hm _ h).2 _ _ rfl⟩)
  · exact .inr h
theorem NV.frN {k : NestedKey} {v : V} (e : Fr S H H') (hS : ∀ x ∈ S, NT H x) (h : NV K H k v) : NV K H' k v := NV.tr (fun _ _ q => fr_tupN e hS q) _ _ h
theorem ND.frN {a : Addr} {kvs : List (NestedKey × V)} (h : ND P w K H a kvs) (e : Fr S H H') (hS : ∀ x ∈ S, NT H x) (n : a ∉ S) : ND P w K H' a kvs :=
  ⟨h.1, let ⟨xs, q, k⟩ := h.2; ⟨xs, e a _ q n, KN.tr (fun _ _ q => fr_tupN e hS q) k⟩⟩
theorem NDr.frN {a : Addr} {kvs : List (NestedKey × V)} (h : NDr P w K H a kvs) (e : Fr S H H') (hS : ∀ x ∈ S, NT H x) (n : a ∉ S) : NDr P w K H' a kvs :=
  ⟨h.1, let ⟨xs, q, k⟩ := h.2; ⟨xs, q.elim (fun q => .inl (e a _ q n)) fun ⟨o, q⟩ => .inr ⟨o, e a _ q n⟩, KN.tr (fun _ _ q => fr_tupN e hS q) k⟩⟩
theorem fr_one {x : Addr} {o : HO} : Fr [x] H (upd H x o) := (Fr.of (Same.refl H)).put (List.mem_singleton.mpr rfl)
theorem nt_of {x : Addr} {o : HO} (h : H x = some o) (a : ∀ xs, o ≠ .tup xs) (b : ∀ f xs, o ≠ .frz f (.tup xs)) : NT H x := fun u hu => by
  rw [h] at hu
  cases hu
  exact ⟨a, b⟩
theorem nt_none {x : Addr} (h : H x = none) : NT H x := fun u hu => by
  rw [h] at hu
  cases hu
theorem one_nt {x : Addr} (h : NT H x) : ∀ y ∈ [x], NT H y := fun y hy => by
  rw [List.mem_singleton.mp hy]
  exact h
/-- back from a lock -/
theorem fr_back {x : Addr} {u : HO} (e : Fr (x :: S) H0 H) (h : H0 x = some u) : Fr S H0 (upd H x u) := fun b o hb n => by
  by_cases q : b = x
  · subst q
    rw [h] at hb
    cases hb
    exact upd_same
  · rw [upd_ne q]
    exact e b o hb fun hm => (List.mem_cons.mp hm).elim q n
theorem fr_more {x : Addr} {o : HO} (e : Fr S H0 H) : Fr (x :: S) H0 (upd H x o) := (e.sub fun _ h => List.mem_cons_of_mem _ h).put List.mem_cons_self
end
/-- rows by their numbers -/
def mkK : Nat → List Addr → List (Key × V)
  | _, [] => []
  | n, a :: as => (Sum.inl ((n : Nat) : Int), V.ref a) :: mkK (n + 1) as
theorem mkK_len : ∀ {n : Nat} {as : List Addr}, (mkK n as).length = as.length
  | _, [] => rfl
  | n, a :: as => by
    show (mkK (n + 1) as).length + 1 = _
    rw [mkK_len]
    rfl
theorem mkK_at : ∀ {n i : Nat} {as : List Addr}, (mkK n as)[i]? = as[i]?.map fun a => (Sum.inl ((n + i : Nat) : Int), V.ref a)
  | _, i, [] => by
    show ([] : List (Key × V))[i]? = _
    simp
  | n, 0, a :: as => rfl
  | n, i + 1, a :: as => by
    show (mkK (n + 1) as)[i]? = as[i]?.map _
    rw [mkK_at (n := n + 1), show n + 1 + i = n + (i + 1) by omega]
theorem mkK_val : ∀ {n j : Nat} {as : List Addr}, valV (mkK n as) (Sum.inl ((j : Nat) : Int)) = if n ≤ j then as[j - n]?.map V.ref else none
  | n, j, [] => by
    show (none : Option V) = _
    split <;> simp
  | n, j, a :: as => by
    show valV ((Sum.inl ((n : Nat) : Int), V.ref a) :: mkK (n + 1) as) _ = _
    by_cases e : n = j
    · subst e
      rw [valV_pos rfl, if_pos (Nat.le_refl _), Nat.sub_self]
      rfl
    · rw [valV_neg (fun q => e (by have := Sum.inl.inj q; omega)), mkK_val (n := n + 1)]
      by_cases h : n + 1 ≤ j
      · rw [if_pos h, if_pos (by omega), show j - n = (j - (n + 1)) + 1 by omega]
        rfl
      · rw [if_neg h, if_neg (by omega)]
theorem mkK_app : ∀ {n : Nat} {as bs : List Addr}, mkK n (as ++ bs) = mkK n as ++ mkK (n + as.length) bs
  | _, [], _ => rfl
  | n, a :: as, bs => by
    show _ :: mkK (n + 1) (as ++ bs) = _ :: (mkK (n + 1) as ++ _)
    rw [mkK_app (n := n + 1), List.length_cons, show n + 1 + as.length = n + (as.length + 1) by omega]
theorem mkK_put {as : List Addr} {a : Addr} : putK (mkK 0 as) (Sum.inl ((as.length : Nat) : Int)) (.ref a) = mkK 0 (as ++ [a]) := by
  unfold putK
  rw [valV_any, mkK_val, if_pos (Nat.zero_le _), Nat.sub_zero, List.getElem?_eq_none (Nat.le_refl _)]
  show mkK 0 as ++ _ = _
  rw [mkK_app, Nat.zero_add]
  rfl
def MkAt (P : Program) (w : World) (K : PySem.W.Frag) (H : Hp) (mk : Addr) (ms : List (List NestedKey)) : Prop := ∃ as : List Addr, H mk = some (.dK (mkK 0 as)) ∧ PySem.Paired (fun a m => ND P w K H a (mkD m)) as ms
/-- rows found, as a dict -/
def fdK (fd : List (Nat × Nat)) : List (Key × V) := fd.map fun p => (Sum.inl ((p.1 : Nat) : Int), V.int ((p.2 : Nat) : Int))
theorem fdK_val {o : Nat} : ∀ {fd : List (Nat × Nat)}, valV (fdK fd) (Sum.inl ((o : Nat) : Int)) = (lookN fd o).map fun v => V.int ((v : Nat) : Int)
  | [] => rfl
  | p :: fd => by
    rw [lookN_cons]
    show valV ((Sum.inl ((p.1 : Nat) : Int), V.int ((p.2 : Nat) : Int)) :: fdK fd) _ = _
    by_cases e : p.1 = o
    · rw [valV_pos (by rw [e]), if_pos e]
      rfl
    · rw [valV_neg (fun q => e (by have := Sum.inl.inj q; omega)), if_neg e, fdK_val]
theorem fdK_put {fd : List (Nat × Nat)} {o v : Nat} (h : lookN fd o = none) : putK (fdK fd) (Sum.inl ((o : Nat) : Int)) (.int ((v : Nat) : Int)) = fdK (fd ++ [(o, v)]) := by
  unfold putK
  rw [valV_any, fdK_val, h]
  show fdK fd ++ _ = _
  unfold fdK
  rw [List.map_append]
  rfl
/-- who holds a key: lists, each its own -/
structure HAt (H0 H : Hp) (kvs : List (NestedKey × V)) (h : NestedKey → List Nat) : Prop where
  at_ : ∀ k v, valV kvs k = some v → ∃ l, v = .ref l ∧ H0 l = none ∧ H l = some (.lst (intL (h k)))
  no : ∀ k, valV kvs k = none → h k = []
  inj : ∀ k k' l, valV kvs k = some (.ref l) → valV kvs k' = some (.ref l) → k = k'
structure BIn (P : Program) (w : World) (K : PySem.W.Frag) (S : List Addr) (H0 H : Hp) (ho : Addr) (h : NestedKey → List Nat) (n : Nat) : Prop where
  fr : Fr S H0 H
  tr : Tr H S
  nw : H0 ho = none
  ex : ∃ kvs, ND P w K H ho kvs ∧ kvs.length ≤ n ∧ HAt H0 H kvs h
/-- what the making of the lists leaves -/
def Stay (ho : Addr) (H H' : Hp) : Prop := ∀ x o, H x = some o → x ≠ ho → (∀ xs, o ≠ .lst xs) → H' x = some o
section
variable {P : Program} {w : World} {K : PySem.W.Frag} {S : List Addr} {H H' H0 : Hp} {ho e : Addr} {h : NestedKey → List Nat} {n i : Nat} {k : NestedKey} {kvs : List (NestedKey × V)}
theorem fr_free {x : Addr} {o : HO} (f : Fr S H0 H) (hx : H0 x = none) : Fr S H0 (upd H x o) := fun b u hb n => by
  rw [upd_ne (ne_of_none hb hx)]
  exact f b u hb n
theorem tr_upd {x : Addr} {o : HO} (t : Tr H S) : Tr (upd H x o) S := fun y hy => by
  by_cases q : y = x
  · exact ⟨o, by rw [q]; exact upd_same⟩
  · obtain ⟨u, hu⟩ := t y hy
    exact ⟨u, by rw [upd_ne q]; exact hu⟩
theorem BIn.free {x : Addr} (B : BIn P w K S H0 H ho h n) (hx : H x = none) : H0 x = none := by
  cases q : H0 x with
  | none => rfl
  | some o =>
    by_cases hm : x ∈ S
    · obtain ⟨u, hu⟩ := B.tr x hm
      rw [hx] at hu
      cases hu
    · rw [B.fr x o q hm] at hx
      cases hx
/-- a lock, or its end -/
theorem BIn.lock {S' : List Addr} {x : Addr} {u : HO} (B : BIn P w K S H0 H ho h n) (hx : NT H x) (hl : ∀ xs, H x ≠ some (.lst xs)) (ne : ho ≠ x) (f : Fr S' H0 (upd H x u)) (t : Tr (upd H x u) S') : BIn P w K S' H0 (upd H x u) ho h n := by
  obtain ⟨kvs, nd, hn, ha⟩ := B.ex
  refine ⟨f, t, B.nw, kvs, nd.frN fr_one (one_nt hx) (fun q => ne (List.mem_singleton.mp q)), hn, fun k v hv => ?_, ha.no, ha.inj⟩
  obtain ⟨l, e1, e2, e3⟩ := ha.at_ k v hv
  refine ⟨l, e1, e2, ?_⟩
  rw [upd_ne (by
    rintro rfl
    exact hl _ e3)]
  exact e3
theorem intL_app {xs : List Nat} {i : Nat} : intL xs ++ [V.int ((i : Nat) : Int)] = intL (xs ++ [i]) := by
  unfold intL
  rw [List.map_append]
  rfl
theorem step_old {l : Addr} (B : BIn P w K S H0 H ho h n) (nd : ND P w K H ho kvs) (hn : kvs.length ≤ n) (ha : HAt H0 H kvs h) (he : H e = none) (hv : valV kvs k = some (.ref l)) :
    BIn P w K S H0 (upd (upd H e (.lst [])) l (.lst (intL (h k) ++ [.int ((i : Nat) : Int)]))) ho (fun k' => if k' = k then h k ++ [i] else h k') (n + 1) ∧ Stay ho H (upd (upd H e (.lst [])) l (.lst (intL (h k) ++ [.int ((i : Nat) : Int)]))) := by
  obtain ⟨l', e1, e2, e3⟩ := ha.at_ k _ hv
  cases e1
  have hle : l ≠ e := ne_of_none e3 he
  have hlo : ho ≠ l := by
    rintro rfl
    obtain ⟨_, xs, q, _⟩ := nd
    rw [q] at e3
    cases e3
  have s1 : Same H (upd H e (.lst [])) := same_new he _
  have e3' := s1 _ _ e3
  have he0 : H0 e = none := B.free he
  refine ⟨⟨fr_free (fr_free B.fr he0) e2, tr_upd (tr_upd B.tr), B.nw, kvs, (nd.mono s1).frN fr_one (one_nt (nt_of e3' (fun _ q => nomatch q) (fun _ _ q => nomatch q))) (fun q => hlo (List.mem_singleton.mp q)), by omega, fun k' v hv' => ?_, fun k' hv' => ?_, ha.inj⟩, fun x o hx nx nl => ?_⟩
  · obtain ⟨l2, q1, q2, q3⟩ := ha.at_ k' v hv'
    subst q1
    refine ⟨l2, rfl, q2, ?_⟩
    by_cases q : k' = k
    · subst q
      rw [hv] at hv'
      cases hv'
      rw [if_pos rfl, upd_same, intL_app]
    · rw [if_neg q]
      have hl2 : l2 ≠ l := by
        rintro rfl
        exact q (ha.inj _ _ _ hv' hv)
      rw [upd_ne hl2]
      exact s1 _ _ q3
  · have q : k' ≠ k := by
      rintro rfl
      rw [hv] at hv'
      cases hv'
    show (if k' = k then _ else _) = _
    rw [if_neg q]
    exact ha.no k' hv'
  · rw [upd_ne (by
      rintro rfl
      rw [e3] at hx
      exact nl _ (Option.some.inj hx).symm)]
    exact s1 _ _ hx
theorem step_new {ob : HO} (B : BIn P w K S H0 H ho h n) (nd : ND P w K H ho kvs) (hn : kvs.length ≤ n) (ha : HAt H0 H kvs h) (he : H e = none) (hv : valV kvs k = none)
    (hob : ∀ G, (∀ c u, c ≠ ho → upd H e (.lst []) c = some u → G c = some u) → G ho = some ob → ND P w K G ho (putK kvs k (.ref e))) :
    BIn P w K S H0 (upd (upd (upd H e (.lst [])) ho ob) e (.lst ([] ++ [.int ((i : Nat) : Int)]))) ho (fun k' => if k' = k then h k ++ [i] else h k') (n + 1) ∧ Stay ho H (upd (upd (upd H e (.lst [])) ho ob) e (.lst ([] ++ [.int ((i : Nat) : Int)]))) := by
  have hho : ∃ u, H ho = some u := let ⟨_, xs, q, _⟩ := nd; ⟨_, q⟩
  have heo : ho ≠ e := ne_of_none hho.choose_spec he
  have s1 : Same H (upd H e (.lst [])) := same_new he _
  have he0 : H0 e = none := B.free he
  have hk0 := ha.no k hv
  have hput : ∀ k' v, valV (putK kvs k (.ref e)) k' = some v → (k' = k ∧ v = .ref e) ∨ (k' ≠ k ∧ valV kvs k' = some v) := fun k' v q => by
    rw [valV_put] at q
    by_cases z : k' = k
    · rw [if_pos z] at q
      exact .inl ⟨z, (Option.some.inj q).symm⟩
    · rw [if_neg z] at q
      exact .inr ⟨z, q⟩
  have lne : ∀ k' l, valV kvs k' = some (.ref l) → l ≠ e := fun k' l q => by
    obtain ⟨l2, q1, _, q3⟩ := ha.at_ k' _ q
    cases q1
    exact ne_of_none q3 he
  refine ⟨⟨fr_free (fr_free (fr_free B.fr he0) B.nw) he0, tr_upd (tr_upd (tr_upd B.tr)), B.nw, putK kvs k (.ref e), (hob (upd (upd H e (.lst [])) ho ob) (fun c u nc q => by rw [upd_ne nc]; exact q) upd_same).frN fr_one (one_nt (nt_of (o := .lst []) (by rw [upd_ne heo.symm]; exact upd_same) (fun _ q => nomatch q) (fun _ _ q => nomatch q))) (fun q => heo (List.mem_singleton.mp q)), ?_, fun k' v hv' => ?_, fun k' hv' => ?_, fun k1 k2 l q1 q2 => ?_⟩, fun x o hx nx nl => ?_⟩
  · have := length_putK kvs k (.ref e)
    omega
  · rcases hput k' v hv' with ⟨q1, q2⟩ | ⟨q1, q2⟩
    · subst q1 q2
      refine ⟨e, rfl, he0, ?_⟩
      rw [upd_same, if_pos rfl, hk0]
      rfl
    · obtain ⟨l2, z1, z2, z3⟩ := ha.at_ k' v q2
      subst z1
      refine ⟨l2, rfl, z2, ?_⟩
      rw [if_neg q1, upd_ne (ne_of_none z3 he), upd_ne (by
        rintro rfl
        obtain ⟨_, xs, q, _⟩ := nd
        rw [q] at z3
        cases z3)]
      exact s1 _ _ z3
  · rw [valV_put] at hv'
    by_cases z : k' = k
    · rw [if_pos z] at hv'
      cases hv'
    · rw [if_neg z] at hv'
      show (if k' = k then _ else _) = _
      rw [if_neg z]
      exact ha.no k' hv'
  · rcases hput k1 _ q1 with ⟨a1, b1⟩ | ⟨a1, b1⟩
    · rcases hput k2 _ q2 with ⟨a2, b2⟩ | ⟨a2, b2⟩
      · rw [a1, a2]
      · cases b1
        exact absurd rfl (lne _ _ b2)
    · rcases hput k2 _ q2 with ⟨a2, b2⟩ | ⟨a2, b2⟩
      · cases b2
        exact absurd rfl (lne _ _ b1)
      · exact ha.inj _ _ _ b1 b2
  · rw [upd_ne (ne_of_none hx he), upd_ne nx]
    exact s1 _ _ hx
end
structure BonAt (P : Program) (w : World) (K : PySem.W.Frag) (C : Addr) (H : Hp) (o : Addr) (ms : List (List NestedKey)) : Prop where
  ex : ∃ (dx mk ho : Addr) (kvs : List (NestedKey × V)), H o = some (.ins C dx [("_marked", .ref mk), ("_holders", .ref ho)]) ∧ MkAt P w K H mk ms ∧ ND P w K H ho kvs ∧ (∀ k v, valV kvs k = some v → ∃ l, v = .ref l ∧ H l = some (.lst (intL (holdL ms k)))) ∧ ∀ k, valV kvs k = none → holdL ms k = []
theorem MkAt.mono {P : Program} {w : World} {K : PySem.W.Frag} {H H' : Hp} {mk : Addr} {ms : List (List NestedKey)} (e : Same H H') (h : MkAt P w K H mk ms) : MkAt P w K H' mk ms := let ⟨as, a, b⟩ := h; ⟨as, e _ _ a, prMp b fun _ _ q => q.mono e⟩
theorem BonAt.mono {P : Program} {w : World} {K : PySem.W.Frag} {C : Addr} {H H' : Hp} {o : Addr} {ms : List (List NestedKey)} (e : Same H H') (h : BonAt P w K C H o ms) : BonAt P w K C H' o ms := by
  obtain ⟨dx, mk, ho, kvs, h1, h2, h3, h4, h5⟩ := h.ex
  exact ⟨dx, mk, ho, kvs, e _ _ h1, h2.mono e, h3.mono e, fun k v q => let ⟨l, a, b⟩ := h4 k v q; ⟨l, a, e _ _ b⟩, h5⟩
structure MsOk (ms : List (List NestedKey)) : Prop where
  nd : ∀ m ∈ ms, m.Nodup
  le : ∀ m ∈ ms, m.length ≤ 4
  ln : ms.length ≤ 200
theorem holdL_take {ms : List (List NestedKey)} {i : Nat} {m : List NestedKey} (h : ms[i]? = some m) (k : NestedKey) : holdL (ms.take (i + 1)) k = holdL (ms.take i) k ++ if k ∈ m then [i] else [] := by
  have hi : i < ms.length := (List.getElem?_eq_some_iff.mp h).1
  unfold holdL
  rw [List.length_take, List.length_take, Nat.min_eq_left (show i + 1 ≤ ms.length by omega), Nat.min_eq_left (show i ≤ ms.length by omega), List.range_succ, List.filter_append]
  congr 1
  · refine List.filter_congr fun j hj => ?_
    have hj := List.mem_range.mp hj
    rw [List.getElem?_take_of_lt (by omega), List.getElem?_take_of_lt hj]
  · rw [List.filter_cons, List.getElem?_take_of_lt (Nat.lt_succ_self i), h]
    show (if decide (k ∈ m) = true then _ else _) = _
    by_cases q : k ∈ m
    · rw [if_pos (decide_eq_true q), if_pos q]
      rfl
    · rw [if_neg (fun z => q (of_decide_eq_true z)), if_neg q]
      rfl
/-- who holds a key when j keys of row i are through -/
def holdJ (ms : List (List NestedKey)) (i j : Nat) (k : NestedKey) : List Nat := holdL (ms.take i) k ++ if k ∈ (mkL ms i).take j then [i] else []
theorem holdJ_zero {ms : List (List NestedKey)} {i : Nat} : holdJ ms i 0 = holdL (ms.take i) := funext fun k => by
  unfold holdJ
  rw [List.take_zero, if_neg (fun q => nomatch q), List.append_nil]
theorem holdJ_last {ms : List (List NestedKey)} {i : Nat} {m : List NestedKey} (h : ms[i]? = some m) : holdJ ms i m.length = holdL (ms.take (i + 1)) := funext fun k => by
  unfold holdJ mkL
  rw [holdL_take h, h]
  show _ ++ (if k ∈ m.take m.length then _ else _) = _
  rw [List.take_length]
theorem holdJ_step {ms : List (List NestedKey)} {i j : Nat} {m : List NestedKey} {k : NestedKey} (h : ms[i]? = some m) (nd : m.Nodup) (hk : m[j]? = some k) : (fun k' => if k' = k then holdJ ms i j k ++ [i] else holdJ ms i j k') = holdJ ms i (j + 1) := funext fun k' => by
  have hm : mkL ms i = m := by
    unfold mkL
    rw [h]
    rfl
  have hj := (List.getElem?_eq_some_iff.mp hk).1
  have hnot : k ∉ m.take j := fun q => by
    obtain ⟨x, hx1, hx2⟩ := List.getElem_of_mem q
    rw [List.length_take] at hx1
    rw [List.getElem_take] at hx2
    have hj2 := (List.getElem?_eq_some_iff.mp hk).2
    exact List.pairwise_iff_getElem.mp nd x j (by omega) hj (by omega) (hx2.trans hj2.symm)
  show (if k' = k then holdJ ms i j k ++ [i] else holdJ ms i j k') = _
  unfold holdJ
  rw [hm, List.take_add_one, hk]
  show _ = _ ++ if k' ∈ m.take j ++ [k] then [i] else []
  by_cases q : k' = k
  · subst q
    rw [if_pos rfl, if_neg hnot, List.append_nil, if_pos (List.mem_append_right _ (List.mem_singleton.mpr rfl))]
  · rw [if_neg q]
    by_cases z : k' ∈ m.take j
    · rw [if_pos z, if_pos (List.mem_append_left _ z)]
    · rw [if_neg z, if_neg fun hm => (List.mem_append.mp hm).elim z fun h2 => q (List.mem_singleton.mp h2)]
theorem holdJ_len {ms : List (List NestedKey)} {i j : Nat} {k : NestedKey} (h : ms.length ≤ 200) : (holdJ ms i j k).length ≤ 201 := by
  unfold holdJ
  have h1 : (holdL (ms.take i) k).length ≤ 200 := by
    unfold holdL
    refine Nat.le_trans (List.length_filter_le _ _) ?_
    rw [List.length_range, List.length_take]
    omega
  rw [List.length_append]
  split
  · show _ + 1 ≤ 201
    omega
  · show _ + 0 ≤ 201
    omega
@[irreducible] def spBInit (P : Program) (w : World) (K : PySem.W.Frag) (C : Addr) : Sp := fun vs H Q _ => ∃ (o mk dx : Addr) (ms : List (List NestedKey)), vs = [.ref o, .ref mk] ∧ H o = some (.ins C dx []) ∧ MkAt P w K H mk ms ∧ MsOk ms ∧ ∀ H', BonAt P w K C H' o ms → Fr [o] H H' → Q .non H'
section
variable {P : Program} {w : World} {K : PySem.W.Frag} {mg : Str → Option Value} {base : Heap}
theorem ok_Bonds___init__ (T : Top K mg) : FnOk P w K mg base CX0 2 T.a_Bonds___init__ T.d_Bonds___init__ ["self", "marked"] (spBInit P w K T.C_Bonds) := by
  refine T.F_Bonds___init__.ok sc_Bonds___init__ (fun vs H Q E h => ?_) (fun cdv A outer s H vs Q E hr h => ?_)
  · unfold spBInit at h
    obtain ⟨o, mk, dx, ms, rfl, _⟩ := h
    rfl
  unfold spBInit at h
  obtain ⟨o, mk, dx, ms, rfl, hin, hmk, hms, k⟩ := h
  have hcl := T.cl_Bonds
  have hn1 := T.n_Bonds__marked
  have hn2 := T.n_Bonds__holders
  obtain ⟨as, hmk1, hps⟩ := hmk
  have hnm : o ≠ mk := by
    rintro rfl
    rw [hin] at hmk1
    cases hmk1
  refine ⟨_, (pss_cons (ps_fld (pv 0) (pv 1) rfl)
    (pss_cons (ps_fld (pv 0) (pe_nnewC (P := P) (w := w) (K := K) rfl rfl rfl) rfl)
    (pss_one (ps_lock (ps_for PassesOwn.never rfl (pi_keys (pv 1)) (pg_name (i := 2) sc_Bonds___init__.nd rfl (Or.inl rfl))
    (pss_one (ps_lock (ps_for PassesOwn.never rfl (pi_nkeysC (P := P) (w := w) (K := K) rfl rfl rfl (pe_dget (hu_of hr) (pv 1) (pv 2) (fun _ _ => rfl))) (pg_name (i := 3) sc_Bonds___init__.nd rfl (Or.inl rfl))
    (pss_one (ps_expr (pe_bm PySem.F.plainAttrs_list PySem.F.slot_list_append PySem.F.type_list_append mt_append (pe_nsetdC (P := P) (w := w) (K := K) rfl rfl rfl (hu9 hr) (pe_fld (pv 0) rfl) (pv 3) (pe_lst pa_nil) ⟨rfl, rfl, rfl, rfl⟩) (pa_cons (pv 2) pa_nil)))))))))))), ?_⟩
  sizeOf_list_dec
  refine fun ho fho nd0 => ?_
  have hno : ho ≠ o := (ne_of_none upd_same fho).symm
  have hino : upd (upd H o (.ins T.C_Bonds dx (putF "_marked" (V.ref mk) []))) ho (NO P w ho []) o = some (.ins T.C_Bonds dx (putF "_marked" (V.ref mk) [])) := by rw [upd_ne hno.symm]; exact upd_same
  sizeOf_list_dec
  refine ⟨pf1, ?_⟩
  have hmo : mk ≠ o := hnm.symm
  have hho : ho ≠ mk := (ne_of_none (show upd H o (.ins T.C_Bonds dx (putF "_marked" (V.ref mk) [])) mk = some (.dK (mkK 0 as)) by rw [upd_ne hmo]; exact hmk1) fho).symm
  have F2 : Fr [o] H (upd (upd (upd H o (.ins T.C_Bonds dx (putF "_marked" (V.ref mk) []))) ho (NO P w ho [])) o (.ins T.C_Bonds dx (putF "_holders" (V.ref ho) (putF "_marked" (V.ref mk) [])))) :=
    (Fr.new (Fr.put (Fr.of (Same.refl H)) (List.mem_singleton.mpr rfl)) fho).put (List.mem_singleton.mpr rfl)
  have hfho : H ho = none := by
    rw [upd_ne hno] at fho
    exact fho
  have hin2 : upd (upd (upd H o (.ins T.C_Bonds dx (putF "_marked" (V.ref mk) []))) ho (NO P w ho [])) o (.ins T.C_Bonds dx (putF "_holders" (V.ref ho) (putF "_marked" (V.ref mk) []))) o = some (.ins T.C_Bonds dx [("_marked", .ref mk), ("_holders", .ref ho)]) := by
    rw [upd_same]
    show some (HO.ins T.C_Bonds dx (putF "_holders" (V.ref ho) [(("_marked" : Str), V.ref mk)])) = _
    rw [pf_ne (by decide +kernel)]
    rfl
  have nd2 : ND P w K (upd (upd (upd H o (.ins T.C_Bonds dx (putF "_marked" (V.ref mk) []))) ho (NO P w ho [])) o (.ins T.C_Bonds dx (putF "_holders" (V.ref ho) (putF "_marked" (V.ref mk) [])))) ho [] := nd0 _ (by rw [upd_ne hno]; exact upd_same)
  generalize upd (upd (upd H o (.ins T.C_Bonds dx (putF "_marked" (V.ref mk) []))) ho (NO P w ho [])) o (.ins T.C_Bonds dx (putF "_holders" (V.ref ho) (putF "_marked" (V.ref mk) []))) = H2 at *
  have hmk2 : H2 mk = some (.dK (mkK 0 as)) := F2 _ _ hmk1 (fun q => hmo (List.mem_singleton.mp q))
  refine ⟨mk, _, hmk2, True.intro, fun od => ?_⟩
  sizeOf_list_dec
  have hlk : ([("_marked", .ref mk), ("_holders", .ref ho)] : List (Str × V)).lookup ("_holders" : Str) = some (.ref ho) := (lk_ne (by decide +kernel)).trans lk_eq
  have ntm : NT H mk := nt_of hmk1 (fun _ q => nomatch q) (fun _ _ q => nomatch q)
  have nto : NT H o := nt_of hin (fun _ q => nomatch q) (fun _ _ q => nomatch q)
  have hpl := pr_len hps
  have B2 : BIn P w K [o] H H2 ho (holdL (ms.take 0)) 0 := ⟨F2, Tr.cons hin2 Tr.nil, hfho, [], nd2, Nat.le_refl _, (fun k v q => nomatch q), (fun k _ => by rw [List.take_zero]; rfl), fun k k' l q => nomatch q⟩
  have B3 : BIn P w K [mk, o] H (upd H2 mk (.frz od (.dK (mkK 0 as)))) ho (holdL (ms.take 0)) 0 := B2.lock (nt_of hmk2 (fun _ q => nomatch q) (fun _ _ q => nomatch q)) (fun xs q => by rw [hmk2] at q; cases q) hho (fr_more F2) (Tr.cons upd_same (tr_upd B2.tr))
  refine for_it (walk_keys (kvs := mkK 0 as)) (fun i σ Hx => Hold (Hx mk = some (.frz od (.dK (mkK 0 as))) ∧ Hx o = some (.ins T.C_Bonds dx [("_marked", .ref mk), ("_holders", .ref ho)]) ∧ BIn P w K [mk, o] H Hx ho (holdL (ms.take i)) (4 * i) ∧ ∃ v1 v2, σ = [some (.ref o), some (.ref mk), v1, v2]))
    ⟨upd_same, by rw [upd_ne hnm]; exact hin2, B3, none, none, rfl⟩ (fun i σ Hx _ h => h.h.1) ?_ ?_
  · rintro i x σ Hy Hx hi ⟨hmx, hox, B, v1, v2, rfl⟩ ⟨rfl, k0, w0, hi2, rfl⟩
    rw [mkK_len] at hi
    rw [mkK_at, Nat.zero_add, List.getElem?_eq_getElem hi] at hi2
    cases hi2
    obtain ⟨m, hm, hnd⟩ := pr_get hps (List.getElem?_eq_getElem hi)
    generalize hai : as[i] = ai at *
    have hmn := hms.nd m (List.mem_of_getElem? hm)
    have hml := hms.le m (List.mem_of_getElem? hm)
    have him : i < ms.length := (List.getElem?_eq_some_iff.mp hm).1
    have hmsl := hms.ln
    obtain ⟨hkl, xs, hxs, kn⟩ := hnd
    have nta : NT H ai := nt_of hxs (fun _ q => nomatch q) (fun _ _ q => nomatch q)
    have nam : ai ≠ mk := by
      rintro rfl
      rw [hxs] at hmk1
      cases hmk1
    have nao : ai ≠ o := by
      rintro rfl
      rw [hxs] at hin
      cases hin
    have hax : Hx ai = some (NO P w ai xs) := B.fr _ _ hxs (fun q => by
      rcases List.mem_cons.mp q with q | q
      · exact nam q
      · exact nao (List.mem_singleton.mp q))
    have nha : ho ≠ ai := (ne_of_none hxs B.nw).symm
    refine ⟨ai, _, hax, True.intro, fun oda => ?_⟩
    have hval : valV (mkK 0 as) (Sum.inl ((i : Nat) : Int)) = some (.ref ai) := by
      rw [mkK_val, if_pos (Nat.zero_le _), Nat.sub_zero, List.getElem?_eq_getElem hi, hai]
      rfl
    have hg : DGet (upd Hx ai (.frz oda (NO P w ai xs))) mk (.int ((i : Nat) : Int)) (some (.ref ai)) := .inl ⟨mkK 0 as, Sum.inl ((i : Nat) : Int), .inr ⟨od, by rw [upd_ne nam.symm]; exact hmx⟩, rfl, hval.symm⟩
    refine ⟨_, rfl, _, rfl, mk, .ref ai, rfl, hg, ai, oda, xs, rfl, upd_same, ?_⟩
    have B4 : BIn P w K [ai, mk, o] H (upd Hx ai (.frz oda (NO P w ai xs))) ho (holdJ ms i 0) (4 * i + 0) := by
      rw [holdJ_zero]
      exact B.lock (nt_of hax (fun _ q => nomatch q) (fun _ _ q => nomatch q)) (fun xs q => by rw [hax] at q; cases q) nha (fr_more B.fr) (Tr.cons upd_same (tr_upd B.tr))
    have hnt : ∀ x ∈ [ai, mk, o], NT H x := fun x hx => by
      rcases List.mem_cons.mp hx with rfl | hx
      · exact nta
      rcases List.mem_cons.mp hx with rfl | hx
      · exact ntm
      · rw [List.mem_singleton.mp hx]
        exact nto
    refine for_it (walk_keysN (P := P) (w := w) (K := K) (d := ai) (o := oda) (xs := xs)) (fun j σ Hz => Hold (Hz ai = some (.frz oda (NO P w ai xs)) ∧ Hz mk = some (.frz od (.dK (mkK 0 as))) ∧ Hz o = some (.ins T.C_Bonds dx [("_marked", .ref mk), ("_holders", .ref ho)]) ∧ BIn P w K [ai, mk, o] H Hz ho (holdJ ms i j) (4 * i + j) ∧
      ∃ v2, σ = [some (.ref o), some (.ref mk), some (.int ((i : Nat) : Int)), v2])) ⟨upd_same, by rw [upd_ne nam.symm]; exact hmx, by rw [upd_ne nao.symm]; exact hox, B4, _, rfl⟩ (fun j σ Hz _ h => h.h.1) ?_ ?_
    · rintro j x σ Hy Hz hj ⟨haz, hmz, hoz, Bz, v3, rfl⟩ ⟨rfl, q, hq, rfl⟩
      obtain ⟨key, hk, nk, dk⟩ := kn_mk kn hq
      have nkz := NV.frN Bz.fr hnt nk
      have hjm : j < m.length := (List.getElem?_eq_some_iff.mp hk).1
      obtain ⟨kvs, ndz, hnz, ha⟩ := Bz.ex
      refine ⟨_, rfl, o, _, _, _, .ref ho, rfl, hoz, hcl, hn2, hlk, ho, rfl, ⟨_, ndz.r⟩, _, rfl, (by show 0 ≤ sizeLine; decide), fun e he => ?_⟩
      have s1 := same_new he (.lst [])
      have hstep := holdJ_step hm hmn hk
      refine ⟨q.2.1, kvs, key, rfl, ndz.mono s1, NV.mono s1 _ _ nkz, dk, by omega, fun v hv => ?_, fun hv ob hob => ?_⟩
      · obtain ⟨l, rfl, hl0, hl⟩ := ha.at_ _ _ hv
        have hl1 := s1 _ _ hl
        obtain ⟨B5, st⟩ := step_old (i := i) Bz ndz hnz ha he hv
        rw [hstep] at B5
        refine ⟨.inl ⟨rfl, _, SqL.of hl1⟩, _, rfl, l, _, _, rfl, rfl, hl1, ?_, ?_⟩
        · have := holdJ_len (i := i) (j := j) (k := key) hmsl
          unfold intL
          rw [List.length_map]
          exact small' (by omega)
        · exact ⟨st _ _ haz nha.symm (fun _ q => nomatch q), st _ _ hmz hho.symm (fun _ q => nomatch q), st _ _ hoz hno.symm (fun _ q => nomatch q), B5, _, rfl⟩
      · obtain ⟨B5, st⟩ := step_new (i := i) Bz ndz hnz ha he hv hob
        rw [hstep] at B5
        have heo : ho ≠ e := ne_of_none ndz.2.choose_spec.1 he
        have he2 : upd (upd Hz e (.lst [])) ho ob e = some (.lst []) := by
          rw [upd_ne heo.symm]
          exact upd_same
        refine ⟨.inl ⟨rfl, _, SqL.of he2⟩, _, rfl, e, _, _, rfl, rfl, he2, (by show 0 < sizeLine; decide), ?_⟩
        exact ⟨st _ _ haz nha.symm (fun _ q => nomatch q), st _ _ hmz hho.symm (fun _ q => nomatch q), st _ _ hoz hno.symm (fun _ q => nomatch q), B5, _, rfl⟩
    · rintro σ Hz ⟨haz, hmz, hoz, Bz, v3, rfl⟩
      have hxl : xs.length = m.length := by
        rw [← kn_len kn]
        exact List.length_map ..
      rw [hxl, holdJ_last hm] at Bz
      refine ⟨haz, by rw [upd_ne nam.symm]; exact hmz, by rw [upd_ne nao.symm]; exact hoz, ?_, _, _, rfl⟩
      obtain ⟨kvs, ndz, hnz, ha⟩ := Bz.ex
      have B6 : BIn P w K [ai, mk, o] H Hz ho (holdL (ms.take (i + 1))) (4 * (i + 1)) := ⟨Bz.fr, Bz.tr, Bz.nw, kvs, ndz, by omega, ha⟩
      exact B6.lock (nt_of haz (fun _ q => nomatch q) (fun _ _ q => nomatch q)) (fun xs q => by rw [haz] at q; cases q) nha (fr_back Bz.fr hxs) (tr_upd fun y hy => Bz.tr y (List.mem_cons_of_mem _ hy))
  · rintro σ Hx ⟨hmx, hox, B, v1, v2, rfl⟩
    refine ⟨hmx, ?_⟩
    rw [mkK_len, hpl, List.take_length] at B
    have B7 : BIn P w K [o] H (upd Hx mk (.dK (mkK 0 as))) ho (holdL ms) (4 * ms.length) := B.lock (nt_of hmx (fun _ q => nomatch q) (fun _ _ q => nomatch q)) (fun xs q => by rw [hmx] at q; cases q) hho (fr_back B.fr hmk1) (tr_upd fun y hy => B.tr y (List.mem_cons_of_mem _ hy))
    obtain ⟨kvs, ndz, hnz, ha⟩ := B7.ex
    refine k _ ⟨dx, mk, ho, kvs, by rw [upd_ne hnm]; exact hox, ⟨as, upd_same, prMp hps fun a m q => q.frN B7.fr (one_nt nto) (fun z => ?_)⟩, ndz, fun k v q => let ⟨l, a, _, b⟩ := ha.at_ k v q; ⟨l, a, b⟩, ha.no⟩ B7.fr
    obtain ⟨_, xs, e1, _⟩ := q
    rw [List.mem_singleton.mp z, hin] at e1
    cases e1
@[irreducible] def spDist (P : Program) (w : World) (K : PySem.W.Frag) (C : Addr) : Sp := fun vs H Q _ => ∃ (o : Addr) (s : Nat) (ms : List (List NestedKey)), vs = [.ref o, .int ((s : Nat) : Int)] ∧ BonAt P w K C H o ms ∧ MsOk ms ∧ s < ms.length ∧ ∀ (a : Addr) (H' : Hp), H a = none → H' a = some (.dK (fdK (bfs ms s))) → Same H H' → Q (.ref a) H'
theorem upd_keep {H : Hp} {x y : Addr} {o u z : HO} (hx : H x = some o) (hy : H y = some u) (ne : o ≠ u) : upd H y z x = some o := by
  rw [upd_ne]
  · exact hx
  · rintro rfl
    rw [hx] at hy
    exact ne (Option.some.inj hy)
theorem ok_Bonds__distances (T : Top K mg) : FnOk P w K mg base CX0 2 T.a_Bonds__distances T.d_Bonds__distances ["self", "start"] (spDist P w K T.C_Bonds) := by
  refine T.F_Bonds__distances.ok sc_Bonds__distances (fun vs H Q E h => ?_) (fun cdv A outer s H vs Q E hr h => ?_)
  · unfold spDist at h
    obtain ⟨o, s, ms, rfl, _⟩ := h
    rfl
  unfold spDist at h
  obtain ⟨o, s, ms, rfl, hB, hms, hsl, k⟩ := h
  have hcl := T.cl_Bonds
  have hn1 := T.n_Bonds__marked
  have hn2 := T.n_Bonds__holders
  obtain ⟨dx, mk, ho, kvs, hin, ⟨as, hmk, hps⟩, hnd, hat, hno⟩ := hB.ex
  have hlk1 : ([("_marked", .ref mk), ("_holders", .ref ho)] : List (Str × V)).lookup ("_marked" : Str) = some (.ref mk) := lk_eq
  have hlk2 : ([("_marked", .ref mk), ("_holders", .ref ho)] : List (Str × V)).lookup ("_holders" : Str) = some (.ref ho) := (lk_ne (by decide +kernel)).trans lk_eq
  refine ⟨_, (pss_cons (ps_set (i := 2) sc_Bonds__distances.nd rfl (Or.inr rfl) (pe_disp (pps_cons (pv 1) pe_int pps_nil) (by rfl) (by rfl) (fun z => by cases z) (by decide)))
    (pss_cons (ps_set (i := 3) sc_Bonds__distances.nd rfl (Or.inr rfl) (pe_nnewC (P := P) (w := w) (K := K) rfl rfl rfl))
    (pss_cons (ps_set (i := 4) sc_Bonds__distances.nd rfl (Or.inl rfl) (pe_lst (pa_cons (pv 1) pa_nil)))
    (pss_cons (ps_while PassesOwn.never (pt_cmpR op_gt (pe_callB call_len_seq (by rfl) T.z_len (by decide +kernel) (pa_cons (pv 4) pa_nil)) pe_int (nomark _)) (pss_cons (ps_set (i := 5) sc_Bonds__distances.nd rfl (Or.inl rfl) (pe_lst pa_nil))
    (pss_cons (ps_for PassesOwn.never rfl (pi_list (pv 4)) (pg_name (i := 6) sc_Bonds__distances.nd rfl (Or.inl rfl))
    (pss_cons (ps_lock (ps_setLc (i := 7) (own := [("mark", 8)]) (g := gName 8) rfl sc_Bonds__distances.nd rfl rfl (sw_true rfl rfl rfl (by decide +kernel)) (pi_nkeysC (P := P) (w := w) (K := K) rfl rfl rfl (pe_dget (hu_of hr) (pe_fld (pv 0) rfl) (pv 6) (fun _ _ => rfl))) (blkOk_by (own := [("mark", 8)]) (N := n_Bonds__distances) (sc := defScope s_Bonds__distances) (by decide +kernel)) (fun _ _ _ _ _ => (pg_name (i := 8) sc_Bonds__distances.nd rfl (Or.inl rfl))) (fun _ _ _ _ _ => (pts_one (pt_cmp (pc_nnotinC (P := P) (w := w) (K := K) rfl rfl rfl (hu9 hr) (pv 8) (pv 3))))) (fun _ _ _ _ _ => (pv 8))))
    (pss_one (ps_for PassesOwn.never rfl (pi_list (pv 7)) (pg_name (i := 8) sc_Bonds__distances.nd rfl (Or.inl rfl))
    (pss_cons (ps_nputC (P := P) (w := w) (K := K) rfl rfl rfl (hu9 hr) (pv 3) (pv 8) pe_bl rfl)
    (pss_cons (ps_set (i := 5) sc_Bonds__distances.nd rfl (Or.inl rfl) (pe_op op_cat (pv 5) (pe_lc (own := [("other", 9)]) (g := gName 9) rfl sc_Bonds__distances.nd (pi_list (pe_ngetC (P := P) (w := w) (K := K) rfl rfl rfl (hu9 hr) (pe_fld (pv 0) rfl) (pv 8) (fun _ _ => rfl))) (blkOk_by (own := [("other", 9)]) (N := n_Bonds__distances) (sc := defScope s_Bonds__distances) (by decide +kernel)) (fun _ _ _ _ _ => (pg_name (i := 9) sc_Bonds__distances.nd rfl (Or.inl rfl))) (fun _ _ _ _ _ => (pts_one (pt_cmp (pc_dnotin (hu_of hr) (pv 9) (pv 2))))) (fun _ _ _ _ _ => (pv 9)))))
    (pss_one (ps_for PassesOwn.never rfl (pi_list (pe_ngetC (P := P) (w := w) (K := K) rfl rfl rfl (hu9 hr) (pe_fld (pv 0) rfl) (pv 8) (fun _ _ => rfl))) (pg_name (i := 9) sc_Bonds__distances.nd rfl (Or.inl rfl))
    (pss_one (ps_expr (pe_dsetd (pv 2) (pv 9) (pe_op op_add (pe_dget (hu_of hr) (pv 2) (pv 6) (fun _ _ => rfl)) pe_int) ⟨rfl, rfl, rfl, rfl⟩)))))))))))
    (pss_one (ps_set (i := 4) sc_Bonds__distances.nd rfl (Or.inl rfl) (pv 5))))))
    (pss_one (ps_ret (pv 2))))))), ?_⟩
  refine fun fa ffa => ⟨_, rfl, ?_⟩
  refine ⟨upd_same, [(Sum.inl ((s : Nat) : Int), .int 0)], rfl, (by show 1 ≤ 15; decide), ?_⟩
  refine fun ua fua nd0 => ?_
  refine ⟨_, rfl, (by show 1 ≤ sizeLine; decide), fun la fla => ?_⟩
  have hmg : mergeK [] [((Sum.inl ((s : Nat) : Int) : Key), V.int 0)] = fdK [(s, 0)] := rfl
  rw [hmg]
  have fua : upd (upd H fa (.dK [])) fa (.dK (fdK [(s, 0)])) ua = none := fua
  have fla : upd (upd (upd H fa (.dK [])) fa (.dK (fdK [(s, 0)]))) ua (NO P w ua []) la = none := fla
  have e1 : Same H (upd (upd H fa (.dK [])) fa (.dK (fdK [(s, 0)]))) := Same.mut (same_new ffa _) ffa _
  have e2 := e1.trans ((same_new fua (NO P w ua [])).trans (same_new fla (.lst [.int ((s : Nat) : Int)])))
  have hfa2 : upd (upd (upd (upd H fa (.dK [])) fa (.dK (fdK [(s, 0)]))) ua (NO P w ua [])) la (.lst [.int ((s : Nat) : Int)]) fa = some (.dK (fdK [(s, 0)])) := (same_new fla _) _ _ ((same_new fua _) _ _ upd_same)
  have hua2 : ND P w K (upd (upd (upd (upd H fa (.dK [])) fa (.dK (fdK [(s, 0)]))) ua (NO P w ua [])) la (.lst [.int ((s : Nat) : Int)])) ua (mkD []) := nd0 _ ((same_new fla _) _ _ upd_same)
  have hla2 : upd (upd (upd (upd H fa (.dK [])) fa (.dK (fdK [(s, 0)]))) ua (NO P w ua [])) la (.lst [.int ((s : Nat) : Int)]) la = some (.lst (intL [s])) := upd_same
  have hua0 : H ua = none := e1.free fua
  generalize upd (upd (upd (upd H fa (.dK [])) fa (.dK (fdK [(s, 0)]))) ua (NO P w ua [])) la (.lst [.int ((s : Nat) : Int)]) = H2 at *
  clear e1 fua fla nd0
  obtain ⟨M, hM⟩ : ∃ M, ms.flatten = M := ⟨_, rfl⟩
  have hMl : M.length ≤ 800 := by
    rw [← hM]
    have : ∀ l : List (List NestedKey), (∀ m ∈ l, m.length ≤ 4) → l.flatten.length ≤ 4 * l.length := fun l => by
      induction l with
      | nil => exact fun _ => Nat.le_refl _
      | cons m l ih =>
        intro h
        have h1 := h m List.mem_cons_self
        have h2 := ih fun x hx => h x (List.mem_cons_of_mem _ hx)
        rw [List.flatten_cons, List.length_append, List.length_cons]
        omega
    have h1 := this ms hms.le
    have h2 := hms.ln
    omega
  have hlt : ∀ k, ∀ x ∈ holdL ms k, x < ms.length := fun k => holdL_lt
  have hnd2 : ∀ k, (holdL ms k).Nodup := fun k => holdL_nd
  have hfin : bfs ms s = (bfsRun (holdL ms) (mkL ms) (ms.length + 1) [s] ⟨[(s, 0)], [], []⟩).fd := rfl
  refine ⟨fun n σ Hx => Hold (∃ (la : Addr) (lv : List Nat) (st : BSt) (o5 o6 o7 o8 o9 : Option V), σ = [some (.ref o), some (.int ((s : Nat) : Int)), some (.ref fa), some (.ref ua), some (.ref la), o5, o6, o7, o8, o9] ∧ Same H Hx ∧ Hx fa = some (.dK (fdK st.fd)) ∧ ND P w K Hx ua (mkD st.us) ∧ Hx la = some (.lst (intL lv)) ∧
    (bfsRun (holdL ms) (mkL ms) n lv st).fd = bfs ms s ∧ FdOk ms.length s (holdL ms) st.fd ∧ UsOk M st ∧ (∀ x ∈ lv, (lookN st.fd x).isSome = true) ∧ (lv = [] ∨ ms.length + 1 ≤ st.fd.length + n) ∧ lv.Nodup),
    ⟨ms.length + 1, la, [s], ⟨[(s, 0)], [], []⟩, _, _, _, _, _, rfl, e2, hfa2, hua2, hla2, hfin.symm, ⟨by simp, fun x hx => by rw [List.mem_singleton.mp hx]; exact hsl, fun x hx => .inl (List.mem_singleton.mp hx)⟩, ⟨List.nodup_nil, fun _ q => nomatch q⟩, fun x hx => by rw [List.mem_singleton.mp hx, lookN_cons, if_pos rfl]; rfl, .inr (by show _ ≤ 1 + _; omega), by simp⟩, ?_⟩
  rintro n σ Hx ⟨la, lv, st, o5, o6, o7, o8, o9, rfl, e, hfa, hua, hla, hrun, hfd, hus, hfound, hfuel, hlvn⟩
  clear hla2 hua2 hfa2 e2
  sizeOf_list_dec
  refine ite2 (fun hy => ?_) (fun hy => ?_)
  rotate_left
  · have hl0 : lv = [] := by
      cases lv with
      | nil => rfl
      | cons x lv =>
        refine absurd (decide_eq_true ?_) hy
        show (0 : Int) < ((intL (x :: lv)).length : Nat)
        unfold intL
        rw [List.length_map, List.length_cons]
        omega
    subst hl0
    have hrn : bfsRun (holdL ms) (mkL ms) n [] st = st := by cases n <;> rfl
    rw [hrn] at hrun
    rw [hrun] at hfa
    exact ⟨_, rfl, k fa Hx ffa hfa e⟩
  have hlv0 : lv ≠ [] := by
    rintro rfl
    exact absurd hy (by decide)
  obtain ⟨n, rfl⟩ : ∃ n', n = n' + 1 := by
    rcases hfuel with q | q
    · exact absurd q hlv0
    · have := fd_len hfd
      exact ⟨n - 1, by omega⟩
  have hrun2 : (bfsRun (holdL ms) (mkL ms) n (lvlStep (holdL ms) (mkL ms) lv st).fr (lvlStep (holdL ms) (mkL ms) lv st)).fd = bfs ms s := by
    obtain ⟨x, lv', rfl⟩ := List.exists_cons_of_ne_nil hlv0
    exact hrun
  have hfu : ms.length + 1 ≤ st.fd.length + (n + 1) := hfuel.resolve_left hlv0
  have hlvl : lv.length ≤ ms.length := nodup_lt hlvn fun x hx => hfd.lt x (of_decide_eq_true (by rw [← lookN_mem]; exact hfound x hx))
  clear hfuel hrun hfin hy
  refine ⟨_, fun σ' H' hN => ⟨n, Nat.lt_succ_self n, hN⟩, ?_⟩
  have hmsl := hms.ln
  sizeOf_list_dec
  rename_i q0 fq0
  have e0 := e.trans (same_new fq0 (.lst []))
  refine for_list (K := K) (a := la) (xs := intL lv) (fun i σ Hz => Hold (∃ (fq : Addr) (o6 o7 o8 o9 : Option V), σ = [some (.ref o), some (.int ((s : Nat) : Int)), some (.ref fa), some (.ref ua), some (.ref la), some (.ref fq), o6, o7, o8, o9] ∧ Same H Hz ∧ Hz fa = some (.dK (fdK ((lv.take i).foldl (rowStep (holdL ms) (mkL ms)) ⟨st.fd, st.us, []⟩).fd)) ∧
      ND P w K Hz ua (mkD ((lv.take i).foldl (rowStep (holdL ms) (mkL ms)) ⟨st.fd, st.us, []⟩).us) ∧ Hz fq = some (.lst (intL ((lv.take i).foldl (rowStep (holdL ms) (mkL ms)) ⟨st.fd, st.us, []⟩).fr)) ∧ Hz la = some (.lst (intL lv)) ∧
      StOk ms.length s st.fd.length (holdL ms) ((lv.take i).foldl (rowStep (holdL ms) (mkL ms)) ⟨st.fd, st.us, []⟩) ∧ UsOk M ((lv.take i).foldl (rowStep (holdL ms) (mkL ms)) ⟨st.fd, st.us, []⟩)))
    ⟨q0, o6, o7, o8, o9, rfl, e0, (same_new fq0 _) _ _ hfa, hua.mono (same_new fq0 _), upd_same, (same_new fq0 _) _ _ hla, ⟨hfd, Nat.le_refl _, fun q => absurd rfl q, (fun _ q => nomatch q), List.nodup_nil⟩, ⟨hus.nd, hus.of⟩⟩ (fun i σ Hz _ h => by
      obtain ⟨fq, o6, o7, o8, o9, rfl, e, h1, h2, h3, h4, _⟩ := h.h
      exact SqL.of h4) ?_ ?_
  · rintro i x σ Hz hi ⟨fq, o6, o7, o8, o9, rfl, ez, hfz, huz, hqz, hlz, hst, husz⟩
    clear hfa hua hla e e0 fq0
    obtain ⟨r, hr1, rfl⟩ := nat_get (is := lv) hi
    have hrl : r ∈ lv := List.mem_of_getElem? hr1
    have hstep : (lv.take (i + 1)).foldl (rowStep (holdL ms) (mkL ms)) ⟨st.fd, st.us, []⟩ = rowStep (holdL ms) (mkL ms) ((lv.take i).foldl (rowStep (holdL ms) (mkL ms)) ⟨st.fd, st.us, []⟩) r := by
      rw [List.take_add_one, hr1, List.foldl_append]
      rfl
    rw [hstep]
    have hrf0 : (lookN ((lv.take i).foldl (rowStep (holdL ms) (mkL ms)) ⟨st.fd, st.us, []⟩).fd r).isSome = true := by
      rw [rows_keep (st := ⟨st.fd, st.us, []⟩) (hfound r hrl)]
      exact hfound r hrl
    generalize (lv.take i).foldl (rowStep (holdL ms) (mkL ms)) ⟨st.fd, st.us, []⟩ = st1 at *
    clear hstep
    have hrR : r < ms.length := hfd.lt r (of_decide_eq_true (by rw [← lookN_mem]; exact hfound r hrl))
    have hpl := pr_len hps
    have hm : ms[r]? = some ms[r] := List.getElem?_eq_getElem hrR
    obtain ⟨ar, har, hndr⟩ := pr_getR hps hm
    generalize ms[r] = m at *
    have hmL : mkL ms r = m := by
      unfold mkL
      rw [hm]
      rfl
    obtain ⟨hkl, xs, hxs, kn⟩ := hndr
    have hmn := hms.nd m (List.mem_of_getElem? hm)
    have hml := hms.le m (List.mem_of_getElem? hm)
    have harz := ez _ _ hxs
    refine ⟨ar, _, harz, True.intro, fun od => ?_⟩
    have nar : ∀ {y : Addr} {u : HO}, Hz y = some u → u ≠ NO P w ar xs → upd Hz ar (.frz od (NO P w ar xs)) y = some u := fun hy ne => upd_keep hy harz ne
    have hval : valV (mkK 0 as) (Sum.inl ((r : Nat) : Int)) = some (.ref ar) := by
      rw [mkK_val, if_pos (Nat.zero_le _), Nat.sub_zero, har]
      rfl
    have hg : DGet (upd Hz ar (.frz od (NO P w ar xs))) mk (.int ((r : Nat) : Int)) (some (.ref ar)) := .inl ⟨mkK 0 as, Sum.inl ((r : Nat) : Int), .inl (nar (ez _ _ hmk) (fun q => nomatch q)), rfl, hval.symm⟩
    refine ⟨_, rfl, o, _, _, _, .ref mk, rfl, nar (ez _ _ hin) (fun q => nomatch q), hcl, hn1, hlk1, _, rfl, mk, .ref ar, rfl, hg, ar, od, xs, rfl, upd_same, fun D fD => ?_⟩
    have hua_ar : ua ≠ ar := (ne_of_none hxs hua0).symm
    have ntar : NT Hz ar := nt_of harz (fun _ q => nomatch q) (fun _ _ q => nomatch q)
    have sD := same_new fD (.lst [])
    have FL : Fr [ar] H (upd Hz ar (.frz od (NO P w ar xs))) := (Fr.of ez).put (List.mem_singleton.mpr rfl)
    have ntH : ∀ x ∈ [ar], NT H x := one_nt (nt_of hxs (fun _ q => nomatch q) (fun _ _ q => nomatch q))
    have hxl : xs.length = m.length := by
      rw [← kn_len kn]
      exact List.length_map ..
    refine lc_it (walk_keysN (P := P) (w := w) (K := K) (d := ar) (o := od) (xs := xs)) (fun j Hw => Hold (Same (upd Hz ar (.frz od (NO P w ar xs))) Hw ∧ ∃ bs : List Addr, Hw D = some (.lst (bs.map V.ref)) ∧ PySem.Paired (fun b key => NV K H key (.ref b) ∧ key.depth ≤ 8) bs ((m.take j).filter fun k => !decide (k ∈ st1.us)))) ⟨sD, [], upd_same, by rw [List.take_zero]; exact .nil⟩ (fun j Hw _ h => h.h.1 _ _ upd_same) ?_ ?_
    · rintro j x Hy Hw hj ⟨ew, bs, hD, hbs⟩ ⟨rfl, q, hq, rfl⟩
      obtain ⟨key, hk, nk, dk⟩ := kn_mk kn hq
      have hjm : j < m.length := (List.getElem?_eq_some_iff.mp hk).1
      have nkw : NV K Hw key (.ref q.2.1) := NV.mono ew _ _ (NV.frN FL ntH nk)
      have huw : NDr P w K Hw ua (mkD st1.us) := ((huz.frN fr_one (one_nt ntar) (fun z => hua_ar (List.mem_singleton.mp z))).mono ew).r
      have hfl : (m.take (j + 1)).filter (fun k => !decide (k ∈ st1.us)) = (m.take j).filter (fun k => !decide (k ∈ st1.us)) ++ if (!decide (key ∈ st1.us)) = true then [key] else [] := by
        rw [List.take_add_one, hk, List.filter_append]
        show _ ++ List.filter _ [key] = _
        rw [List.filter_cons]
        rfl
      refine ⟨rfl, _, rfl, _, rfl, ua, q.2.1, mkD st1.us, key, rfl, rfl, huw, nkw, dk, _, rfl, ?_⟩
      rw [mkD_in]
      refine ite2 (fun hy => ?_) (fun hy => ?_)
      · rw [if_pos hy] at hfl
        refine ⟨_, rfl, _, hD, ?_, ⟨Same.mut ew fD _, bs ++ [q.2.1], ?_, ?_⟩⟩
        · rw [List.length_map, pr_len hbs]
          have := List.length_filter_le (fun k => !decide (k ∈ st1.us)) (m.take j)
          rw [List.length_take] at this
          exact small' (by omega)
        · rw [upd_same, List.map_append]
          rfl
        · rw [hfl]
          exact pr_app hbs (.cons ⟨nk, dk⟩ .nil)
      · rw [if_neg hy, List.append_nil] at hfl
        refine ⟨ew, bs, hD, ?_⟩
        rw [hfl]
        exact hbs
    rintro Hw ⟨ew, bs, hD, hbs⟩
    rw [hxl, List.take_length] at hbs
    have hDar : D ≠ ar := by
      rintro rfl
      rw [upd_same] at fD
      cases fD
    refine ⟨ew _ _ upd_same, ?_⟩
    have eG : Same Hz (upd Hw ar (NO P w ar xs)) := same_lock harz ew
    have hDG : upd Hw ar (NO P w ar xs) D = some (.lst (bs.map V.ref)) := by
      rw [upd_ne hDar]
      exact hD
    generalize upd Hw ar (NO P w ar xs) = G at *
    clear hg nar hD ew FL fD sD
    have hrow : rowStep (holdL ms) (mkL ms) st1 r = (m.filter fun k => !decide (k ∈ st1.us)).foldl (markStep (holdL ms) r) st1 := by
      unfold rowStep
      rw [hmL]
    have hMm : ∀ k ∈ mkL ms r, k ∈ M := fun k hk => by
      rw [hmL] at hk
      rw [← hM]
      exact List.mem_flatten.mpr ⟨m, List.mem_of_getElem? hm, hk⟩
    have husR := row_us (hold := holdL ms) (mk := mkL ms) (row := r) husz (by rw [hmL]; exact hmn) hMm
    have husRl : (rowStep (holdL ms) (mkL ms) st1 r).us.length ≤ 800 := Nat.le_trans (nodup_sub husR.nd husR.of) hMl
    rw [hrow] at husR husRl ⊢
    have hksm : ∀ k ∈ (m.filter fun k => !decide (k ∈ st1.us)), k ∈ m := fun k hk => (List.mem_filter.mp hk).1
    generalize (m.filter fun k => !decide (k ∈ st1.us)) = ks at *
    rw [marks_us] at husRl
    have husN : (st1.us ++ ks).Nodup := by
      have := husR.nd
      rwa [marks_us] at this
    have eGH := ez.trans eG
    have hfG := eG _ _ hfz
    have huG := huz.mono eG
    have hqG := eG _ _ hqz
    have hlG := eG _ _ hlz
    clear hfz huz hqz hlz harz eG ez
    have hbl := pr_len hbs
    refine ⟨_, rfl, D, rfl, ⟨_, SqL.of hDG⟩, ?_⟩
    refine for_list (K := K) (a := D) (xs := bs.map V.ref) (fun j σ Hw => Hold (∃ (fq : Addr) (o8 o9 : Option V), σ = [some (.ref o), some (.int ((s : Nat) : Int)), some (.ref fa), some (.ref ua), some (.ref la), some (.ref fq), some (.int ((r : Nat) : Int)), some (.ref D), o8, o9] ∧ Same H Hw ∧ Hw fa = some (.dK (fdK ((ks.take j).foldl (markStep (holdL ms) r) st1).fd)) ∧
        ND P w K Hw ua (mkD (st1.us ++ ks.take j)) ∧ Hw fq = some (.lst (intL ((ks.take j).foldl (markStep (holdL ms) r) st1).fr)) ∧ Hw la = some (.lst (intL lv)) ∧ Hw D = some (.lst (bs.map V.ref)) ∧ StOk ms.length s st.fd.length (holdL ms) ((ks.take j).foldl (markStep (holdL ms) r) st1)))
      ⟨fq, o8, o9, rfl, eGH, hfG, by rw [List.take_zero, List.append_nil]; exact huG, hqG, hlG, hDG, hst⟩ (fun j σ Hw _ h => by
        obtain ⟨fq, o8, o9, rfl, _, _, _, _, _, h1, _⟩ := h.h
        exact SqL.of h1) ?_ ?_
    rotate_left
    · rintro σ Hw ⟨fq, o8, o9, rfl, ew, hfw, huw, hqw, hlw, hDw, hst2⟩
      rw [List.length_map, hbl, List.take_length] at hfw hqw hst2 huw
      exact ⟨fq, _, _, _, _, rfl, ew, hfw, by rw [marks_us]; exact huw, hqw, hlw, hst2, husR⟩
    rintro j x σ Hw hj ⟨fq, o8, o9, rfl, ew, hfw, huw, hqw, hlw, hDw, hst2⟩
    clear hfG huG hqG hlG hDG eGH hst
    obtain ⟨b, hb1, rfl⟩ := ref_get hj
    obtain ⟨key, hk, nk, dk⟩ := pr_get hbs hb1
    have hj1 : j < ks.length := (List.getElem?_eq_some_iff.mp hk).1
    have hnotin : key ∉ st1.us ++ ks.take j := fun hm2 => by
      have hsp : st1.us ++ ks = (st1.us ++ ks.take j) ++ key :: ks.drop (j + 1) := by
        rw [List.append_assoc, ← List.getElem?_eq_some_iff.mp hk |>.2, List.getElem_cons_drop, List.take_append_drop]
      rw [hsp, List.nodup_append] at husN
      exact husN.2.2 key hm2 key List.mem_cons_self rfl
    have hus' : st1.us ++ ks.take (j + 1) = (st1.us ++ ks.take j) ++ [key] := by
      rw [List.take_add_one, hk, List.append_assoc]
      rfl
    have hfold : (ks.take (j + 1)).foldl (markStep (holdL ms) r) st1 = markStep (holdL ms) r ((ks.take j).foldl (markStep (holdL ms) r) st1) key := by
      rw [List.take_add_one, hk, List.foldl_append]
      rfl
    have hrf : (lookN ((ks.take j).foldl (markStep (holdL ms) r) st1).fd r).isSome = true := by
      rw [marks_keep hrf0]
      exact hrf0
    have hul : (st1.us ++ ks.take j).length ≤ 800 := by
      rw [List.length_append, List.length_take]
      rw [List.length_append] at husRl
      omega
    rw [hfold, hus']
    generalize (ks.take j).foldl (markStep (holdL ms) r) st1 = st2 at *
    generalize st1.us ++ ks.take j = us2 at *
    have ntH' : ∀ x ∈ ([] : List Addr), NT H x := fun _ q => nomatch q
    have nkw : NV K Hw key (.ref b) := NV.mono ew _ _ nk
    have hua1 := huw.2.choose_spec.1
    refine ⟨_, rfl, _, rfl, ua, b, mkD us2, key, rfl, rfl, huw, nkw, dk, (by unfold mkD; rw [List.length_map]; omega), fun ob hob => ?_⟩
    have e3 : Same H (upd Hw ua ob) := Same.mut ew hua0 _
    have hu3 : ND P w K (upd Hw ua ob) ua (mkD (us2 ++ [key])) := by
      have := hob (upd Hw ua ob) (fun c u nc q => by rw [upd_ne nc]; exact q) upd_same
      rwa [mkD_put hnotin] at this
    have hf3 : upd Hw ua ob fa = some (.dK (fdK st2.fd)) := upd_keep hfw hua1 (fun q => nomatch q)
    have hq3 : upd Hw ua ob fq = some (.lst (intL st2.fr)) := upd_keep hqw hua1 (fun q => nomatch q)
    have hl3 : upd Hw ua ob la = some (.lst (intL lv)) := upd_keep hlw hua1 (fun q => nomatch q)
    have hD3 : upd Hw ua ob D = some (.lst (bs.map V.ref)) := upd_keep hDw hua1 (fun q => nomatch q)
    generalize upd Hw ua ob = G3 at *
    clear huw nkw hua1 hob hfw hqw hlw hDw ew
    have hkm : key ∈ mkL ms r := by
      rw [hmL]
      exact hksm key (List.mem_of_getElem? hk)
    have hrhold : r ∈ holdL ms key := holdL_mem.mpr hkm
    obtain ⟨v, hv⟩ : ∃ v, valV kvs key = some v := by
      cases q : valV kvs key with
      | some v => exact ⟨v, rfl⟩
      | none =>
        rw [hno key q] at hrhold
        cases hrhold
    obtain ⟨hl, rfl, hhl⟩ := hat key v hv
    have nk3 : NV K G3 key (.ref b) := NV.mono e3 _ _ nk
    refine ⟨_, rfl, _, rfl, o, _, _, _, .ref ho, rfl, e3 _ _ hin, hcl, hn2, hlk2, _, rfl, ho, b, kvs, key, .ref hl, rfl, rfl, (hnd.mono e3).r, nk3, dk, hv, hl, rfl, ⟨_, SqL.of (e3 _ _ hhl)⟩, fun D2 fD2 => ?_⟩
    have hhold200 : (holdL ms key).length ≤ 200 := by
      unfold holdL
      refine Nat.le_trans (List.length_filter_le _ _) ?_
      rw [List.length_range]
      exact hmsl
    refine lc_list (K := K) (a := hl) (xs := intL (holdL ms key)) (fun t Hv => Hold (Same G3 Hv ∧ Hv D2 = some (.lst (intL (((holdL ms key).take t).filter fun x => !(lookN st2.fd x).isSome))))) ⟨same_new fD2 _, upd_same⟩ (fun t Hv _ h => SqL.of (h.h.1 _ _ (e3 _ _ hhl))) ?_ ?_
    · rintro t x Hv ht ⟨ev, hD2⟩
      obtain ⟨z, hz, rfl⟩ := nat_get (is := holdL ms key) ht
      have htl : t < (holdL ms key).length := (List.getElem?_eq_some_iff.mp hz).1
      have hfl : ((holdL ms key).take (t + 1)).filter (fun x => !(lookN st2.fd x).isSome) = ((holdL ms key).take t).filter (fun x => !(lookN st2.fd x).isSome) ++ if (!(lookN st2.fd z).isSome) = true then [z] else [] := by
        rw [List.take_add_one, hz, List.filter_append]
        show _ ++ List.filter _ [z] = _
        rw [List.filter_cons]
        rfl
      refine ⟨rfl, _, rfl, _, rfl, fa, _, rfl, DGet.k (k := Sum.inl ((z : Nat) : Int)) (ev _ _ hf3), _, rfl, ?_⟩
      rw [fdK_val, Option.isSome_map]
      refine ite2 (fun hy => ?_) (fun hy => ?_)
      · rw [if_pos hy] at hfl
        refine ⟨_, rfl, _, hD2, ?_, ⟨Same.mut ev fD2 _, ?_⟩⟩
        · unfold intL
          rw [List.length_map]
          have := List.length_filter_le (fun x => !(lookN st2.fd x).isSome) ((holdL ms key).take t)
          rw [List.length_take] at this
          exact small' (by omega)
        · rw [upd_same, hfl, intL_app]
      · rw [if_neg hy, List.append_nil] at hfl
        refine ⟨ev, ?_⟩
        rw [hfl]
        exact hD2
    rintro Hv ⟨ev, hD2⟩
    have hil : (intL (holdL ms key)).length = (holdL ms key).length := by
      unfold intL
      rw [List.length_map]
    rw [hil, List.take_length] at hD2
    have hfr200 : st2.fr.length ≤ 200 := by
      have := nodup_lt hst2.nd fun x hx => hst2.fd.lt x (of_decide_eq_true (by rw [← lookN_mem]; exact hst2.fr x hx))
      omega
    have hfl200 : ((holdL ms key).filter fun x => !(lookN st2.fd x).isSome).length ≤ 200 := Nat.le_trans (List.length_filter_le _ _) hhold200
    refine ⟨fq, D2, intL st2.fr, intL ((holdL ms key).filter fun x => !(lookN st2.fd x).isSome), rfl, rfl, ev _ _ hq3, hD2, small (by unfold intL; rw [List.length_map, List.length_map]; omega), fun fq2 ffq2 => ?_⟩
    have hcat : intL st2.fr ++ intL ((holdL ms key).filter fun x => !(lookN st2.fd x).isSome) = intL (markStep (holdL ms) r st2 key).fr := by
      show _ = intL (st2.fr ++ _)
      unfold intL
      rw [List.map_append]
    rw [hcat]
    have s4 := ev.trans (same_new ffq2 (.lst (intL (markStep (holdL ms) r st2 key).fr)))
    have e4 := e3.trans s4
    have hu4 := hu3.mono s4
    have hf4 := s4 _ _ hf3
    have hl4 := s4 _ _ hl3
    have hD4 := s4 _ _ hD3
    have hq4 : upd Hv fq2 (.lst (intL (markStep (holdL ms) r st2 key).fr)) fq2 = some (.lst (intL (markStep (holdL ms) r st2 key).fr)) := upd_same
    generalize upd Hv fq2 (.lst (intL (markStep (holdL ms) r st2 key).fr)) = G4 at *
    clear s4 ev hD2 fD2 ffq2 hu3 hf3 hl3 hD3 hq3 e3
    have nk4 : NV K G4 key (.ref b) := NV.mono e4 _ _ nk
    obtain ⟨d, hd⟩ : ∃ d, lookN st2.fd r = some d := Option.isSome_iff_exists.mp hrf
    have hms3 : (markStep (holdL ms) r st2 key).fd = (holdL ms key).foldl (putN (d + 1)) st2.fd := by
      show (holdL ms key).foldl (putN ((lookN st2.fd r).getD 0 + 1)) st2.fd = _
      rw [hd]
      rfl
    have hst3 := mark_ok (row := r) (k := key) hst2 hlt hnd2
    rw [hms3]
    refine ⟨_, rfl, o, _, _, _, .ref ho, rfl, e4 _ _ hin, hcl, hn2, hlk2, _, rfl, ho, b, kvs, key, .ref hl, rfl, rfl, (hnd.mono e4).r, nk4, dk, hv, hl, rfl, ⟨_, SqL.of (e4 _ _ hhl)⟩, ?_⟩
    refine for_list (K := K) (a := hl) (xs := intL (holdL ms key)) (fun t σ Hv => Hold (∃ o9, σ = [some (.ref o), some (.int ((s : Nat) : Int)), some (.ref fa), some (.ref ua), some (.ref la), some (.ref fq2), some (.int ((r : Nat) : Int)), some (.ref D), some (.ref b), o9] ∧ Same H Hv ∧ Hv fa = some (.dK (fdK (((holdL ms key).take t).foldl (putN (d + 1)) st2.fd))) ∧
        ND P w K Hv ua (mkD (us2 ++ [key])) ∧ Hv fq2 = some (.lst (intL (markStep (holdL ms) r st2 key).fr)) ∧ Hv la = some (.lst (intL lv)) ∧ Hv D = some (.lst (bs.map V.ref))))
      ⟨o9, rfl, e4, hf4, hu4, hq4, hl4, hD4⟩ (fun t σ Hv _ h => by
        obtain ⟨o9, _, h1, _⟩ := h.h
        exact SqL.of (h1 _ _ hhl)) ?_ ?_
    rotate_left
    · rintro σ Hv ⟨o9, rfl, ev, hfv, huv, hqv, hlv, hDv⟩
      rw [hil, List.take_length] at hfv
      exact ⟨fq2, _, _, rfl, ev, hfv, huv, hqv, hlv, hDv, hst3⟩
    rintro t x σ Hv ht ⟨o9, rfl, ev, hfv, huv, hqv, hlv, hDv⟩
    clear hf4 hu4 hq4 hl4 hD4 e4 nk4
    obtain ⟨z, hz, rfl⟩ := nat_get (is := holdL ms key) ht
    have htl : t < (holdL ms key).length := (List.getElem?_eq_some_iff.mp hz).1
    have hft : ((holdL ms key).take (t + 1)).foldl (putN (d + 1)) st2.fd = putN (d + 1) (((holdL ms key).take t).foldl (putN (d + 1)) st2.fd) z := by
      rw [List.take_add_one, hz, List.foldl_append]
      rfl
    have hdt : lookN (((holdL ms key).take t).foldl (putN (d + 1)) st2.fd) r = some d := by
      rw [puts_keep (by rw [hd]; rfl), hd]
    have hokt := puts_ok (k := key) (v := d + 1) (os := (holdL ms key).take t) hst2.fd fun x hx => ⟨hlt key x (List.mem_of_mem_take hx), List.mem_of_mem_take hx⟩
    have hlen := fd_len hokt
    rw [hft]
    generalize ((holdL ms key).take t).foldl (putN (d + 1)) st2.fd = fd at *
    have hgr : DGet Hv fa (.int ((r : Nat) : Int)) (some (.int ((d : Nat) : Int))) := by
      have := DGet.k (k := Sum.inl ((r : Nat) : Int)) hfv
      rw [fdK_val, hdt] at this
      exact this
    refine ⟨_, rfl, fa, rfl, .inl ⟨_, .inl hfv⟩, _, rfl, _, rfl, _, rfl, fa, _, rfl, hgr, _, _, rfl, rfl, fdK fd, Sum.inl ((z : Nat) : Int), hfv, rfl, (by unfold fdK; rw [List.length_map]; exact small' (by omega)), fun v hv => ?_, fun hv => ?_⟩
    · rw [fdK_val] at hv
      have hp : putN (d + 1) fd z = fd := if_pos (by
        cases q : lookN fd z with
        | none => rw [q] at hv; cases hv
        | some _ => rfl)
      exact ⟨_, rfl, ev, by rw [hp]; exact hfv, huv, hqv, hlv, hDv⟩
    · rw [fdK_val] at hv
      have hz0 : lookN fd z = none := by
        cases q : lookN fd z with
        | none => rfl
        | some _ => rw [q] at hv; cases hv
      have hp : putN (d + 1) fd z = fd ++ [(z, d + 1)] := if_neg (by rw [hz0]; decide)
      have e5 : upd Hv fa (.dK (putK (fdK fd) (Sum.inl ((z : Nat) : Int)) (.int (((d : Nat) : Int) + 1)))) fa = some (.dK (fdK (fd ++ [(z, d + 1)]))) := by
        rw [upd_same]
        exact congrArg some (congrArg HO.dK (fdK_put hz0))
      refine ⟨_, rfl, Same.mut ev ffa _, by rw [hp]; exact e5, huv.frN fr_one (one_nt (nt_of hfv (fun _ q => nomatch q) (fun _ _ q => nomatch q))) (fun q => ?_), upd_keep hqv hfv (fun q => nomatch q), upd_keep hlv hfv (fun q => nomatch q), upd_keep hDv hfv (fun q => nomatch q)⟩
      obtain ⟨_, xs1, h1, _⟩ := huv
      rw [List.mem_singleton.mp q, hfv] at h1
      cases h1
  rintro σ Hz ⟨fq, o6, o7, o8, o9, rfl, ez, hfz, huz, hqz, hlz, hst, husz⟩
  have hil : (intL lv).length = lv.length := by
    unfold intL
    rw [List.length_map]
  rw [hil, List.take_length] at hfz huz hqz hst husz
  have hlvl : lvlStep (holdL ms) (mkL ms) lv st = lv.foldl (rowStep (holdL ms) (mkL ms)) ⟨st.fd, st.us, []⟩ := rfl
  rw [hlvl] at hrun2
  generalize lv.foldl (rowStep (holdL ms) (mkL ms)) ⟨st.fd, st.us, []⟩ = st1 at *
  refine ⟨_, rfl, fq, st1.fr, st1, _, _, _, _, _, rfl, ez, hfz, huz, hqz, hrun2, hst.fd, husz, hst.fr, ?_, hst.nd⟩
  by_cases q : st1.fr = []
  · exact .inl q
  · have := hst.lt q
    exact .inr (by omega)
end
end Bl

namespace Bl
open PySem L2
open SX (S)
/-! short words: array_get_dec closes a side condition; array_mem_dec goes one step into a reading; sizeOf_list_dec goes on while it can -/
local macro_rules | `(tactic| array_get_dec) => `(tactic| first
  | (with_reducible assumption)
  | ((with_reducible apply Bl.gEq); first
    | rfl
    | assumption
    | exact upd_same
    | (with_reducible exact kit_d some_str)
    | (with_reducible exact kit_d some_int)
    | (with_reducible exact kit_d some_bool)
    | (with_reducible exact kit_d some_list)
    | (with_reducible exact kit_d some_tuple)
    | ((with_reducible apply Bl.get_new); assumption; array_get_dec)
    | ((with_reducible apply Bl.get_tr); assumption; array_get_dec)
    )
  | ((with_reducible apply Bl.gLe); first
    | omega
    | exact small (by omega)
    | exact small (by simp only [List.length_cons, List.length_nil]; decide)
    | exact small (by simp only [List.length_append, List.length_cons, List.length_nil]; omega)
    | decide)
  | ((with_reducible apply Bl.gLt); first
    | omega
    | exact small' (by omega)
    | exact small' (by simp only [List.length_cons, List.length_nil]; decide)
    | decide)
  | ((fail_if_success (with_reducible apply Bl.gEq)); (fail_if_success (with_reducible apply Bl.gLe)); (fail_if_success (with_reducible apply Bl.gLt)); first
    | assumption
    | exact SqL.of upd_same
    | exact SqT.of upd_same
    | ((with_reducible apply SqL.of); assumption)
    | ((with_reducible apply SqT.of); assumption)
    | exact Same.refl _
    | exact .ty _
    | exact .str _
    | exact .int _
    | exact ⟨_, rfl⟩
    | ((with_reducible apply Dp.ty); assumption)
    | ((with_reducible apply Bl.seq_new); assumption; array_get_dec)
    | ((with_reducible apply Bl.tup_new); assumption; array_get_dec)
    | ((with_reducible apply Bl.dp_new); assumption; array_get_dec)
    | ((with_reducible apply Bl.dpa_new); assumption; array_get_dec)
    | ((with_reducible apply Bl.same_nw); assumption; array_get_dec)
    | ((with_reducible apply Bl.seq_tr); assumption; array_get_dec)
    | ((with_reducible apply Bl.tup_tr); assumption; array_get_dec)
    | ((with_reducible apply Bl.dp_tr); assumption; array_get_dec)
    | ((with_reducible apply Bl.dpa_tr); assumption; array_get_dec)
    | ((with_reducible apply Bl.same_tr); assumption; array_get_dec)
    | ((with_reducible apply Dp.ty); assumption)
    | ((with_reducible apply Dp.ty); array_get_dec)
    | ((with_reducible refine Or.inl ?_); array_get_dec)
    | ((with_reducible refine Or.inr ?_); array_get_dec)
    | ((with_reducible apply Bl.gEx); array_get_dec)))
local macro_rules | `(tactic| array_mem_dec) => `(tactic| first
  | ((with_reducible apply Bl.gIte); first
    | (refine Bl.gT (by rfl) ?_)
    | (refine Bl.gF (by rfl) ?_))
  | ((fail_if_success (with_reducible apply Bl.gIte)); (fail_if_success (with_reducible apply Bl.gLoop)); (fail_if_success (with_reducible apply Bl.gComp)); (fail_if_success (with_reducible apply Bl.gWhile)); first
    | (with_reducible intro _ _)
    | (with_reducible intro _)
    | (refine And.intro (by array_get_dec) ?_)
    | (apply Bl.gEx)
    | (refine Or.inl (And.intro (by array_get_dec) ?_))
    | (refine Or.inr (And.intro (by array_get_dec) ?_))
    | (refine Or.inl ⟨_, by array_get_dec, ?_⟩)
    | (refine Or.inr ⟨_, by array_get_dec, ?_⟩)
    ))
local macro_rules | `(tactic| sizeOf_list_dec) => `(tactic| repeat array_mem_dec)

abbrev n_Ledger__bonds : List Str := ["self", "number", "row"]
theorem sc_Ledger__bonds : FnScope n_Ledger__bonds ["self"] (defScope s_Ledger__bonds) := ⟨rfl, rfl, rfl, by decide +kernel, rfl, by decide +kernel, by decide +kernel⟩
abbrev n_Ledger_group : List Str := ["self", "number"]
theorem sc_Ledger_group : FnScope n_Ledger_group ["self", "number"] (defScope s_Ledger_group) := ⟨rfl, rfl, rfl, by decide +kernel, rfl, by decide +kernel, by decide +kernel⟩
theorem dc_it {J : It} {n : Nat} {G : Hp → Prop} {Y : Nat → Hp → V → Hp → Prop} (w : Walk J n G Y) {g : TG} {tt : TT} {tk tv : TE} {vs : List Nat} {σ : L2.St} {H1 : Hp} {D : Addr} {Qd : Hp → Prop} (Pv : Nat → Hp → Prop) (h0 : Pv 0 (upd H1 D (.dK []))) (hG : ∀ i H, i ≤ n → Pv i H → G H)
    (hs : ∀ i x H H', i < n → Pv i H → Y i H x H' → g x (wipe σ vs) H' fun σ2 H2 => wipe σ2 vs = wipe σ vs ∧ tt σ2 H2 fun b H3 =>
      if b = true then tk σ2 H3 fun y H4 => tv σ2 H4 fun z H5 => ∃ kvs k, y = kV k ∧ H5 D = some (.dK kvs) ∧ kvs.length < sizeLine ∧ Pv (i + 1) (upd H5 D (.dK (putK kvs k z))) else Pv (i + 1) H3) (hd : ∀ H, Pv n H → Qd H) :
    ∃ W : Nat → Nat → Hp → Prop, (∃ m, W 0 m (upd H1 D (.dK []))) ∧ ∀ i m H, W i m H →
      (J.stop i H ∧ Qd H) ∨ (J.go i H ∧ ∃ Nx : Hp → Prop, (∀ H', Nx H' → ∃ m', m' < m ∧ W (i + 1) m' H') ∧ ∀ x H', J.yld i H x H' → g x (wipe σ vs) H' fun σ2 H2 => wipe σ2 vs = wipe σ vs ∧ tt σ2 H2 fun b H3 =>
        if b = true then tk σ2 H3 fun y H4 => tv σ2 H4 fun z H5 => ∃ kvs k, y = kV k ∧ H5 D = some (.dK kvs) ∧ kvs.length < sizeLine ∧ Nx (upd H5 D (.dK (putK kvs k z))) else Nx H3) := by
  refine ⟨fun i m H => m = n - i ∧ i ≤ n ∧ Pv i H, ⟨n, by simp, Nat.zero_le _, h0⟩, ?_⟩
  rintro i m H ⟨rfl, hi, p⟩
  have q := hG i H hi p
  by_cases hlt : i < n
  · refine .inr ⟨w.goes i H hlt q, Pv (i + 1), fun H' p' => ⟨n - (i + 1), by omega, rfl, hlt, p'⟩, fun x H' y => hs i x H H' hlt p (w.yields i H x H' hlt q y)⟩
  · have e : i = n := by omega
    subst e
    exact .inl ⟨w.stops H q, hd H p⟩
/-- a row's group, ascending -/
structure GrpOf (ms : List (List NestedKey)) (s : Nat) (ns : List Nat) : Prop where
  perm : ns.Perm ((bfs ms s).map (·.1))
  so : ns.Pairwise (· ≤ ·)
theorem perm_nat {ys : List Int} {l : List Nat} (h : ys.Perm (l.map fun n => ((n : Nat) : Int))) : ∃ us : List Nat, ys = us.map (fun n => ((n : Nat) : Int)) ∧ us.Perm l := by
  refine ⟨ys.map Int.toNat, ?_, ?_⟩
  · rw [List.map_map]
    refine (List.map_id _).symm.trans (List.map_congr_left fun v hv => ?_)
    obtain ⟨z, _, rfl⟩ := List.mem_map.mp (h.mem_iff.mp hv)
    rfl
  · have := h.map Int.toNat
    rw [List.map_map, show (Int.toNat ∘ fun n : Nat => ((n : Nat) : Int)) = id from funext fun _ => rfl, List.map_id] at this
    exact this
@[irreducible] def spBGroup (P : Program) (w : World) (K : PySem.W.Frag) (C : Addr) : Sp := fun vs H Q _ => ∃ (o : Addr) (s : Nat) (ms : List (List NestedKey)), vs = [.ref o, .int ((s : Nat) : Int)] ∧ BonAt P w K C H o ms ∧ MsOk ms ∧ s < ms.length ∧ ∀ (ns : List Nat) (a : Addr) (H' : Hp), GrpOf ms s ns → H a = none → H' a = some (.lst (intL ns)) → Same H H' → Q (.ref a) H'
@[irreducible] def spBChain (P : Program) (w : World) (K : PySem.W.Frag) (C : Addr) : Sp := fun vs H Q _ => ∃ (o : Addr) (s t : Nat) (ms : List (List NestedKey)), vs = [.ref o, .int ((s : Nat) : Int), .int ((t : Nat) : Int)] ∧ BonAt P w K C H o ms ∧ MsOk ms ∧ s < ms.length ∧ t < ms.length ∧
  ((lookN (bfs ms t) s = none ∧ ∀ H', Same H H' → Q .non H') ∨ (s = t ∧ ∀ (a : Addr) (H' : Hp), H a = none → H' a = some (.lst (intL [s])) → Same H H' → Q (.ref a) H'))
section
variable {P : Program} {w : World} {K : PySem.W.Frag} {mg : Str → Option Value} {base : Heap}
theorem dist_go {C o : Addr} {s : Nat} {ms : List (List NestedKey)} {H : Hp} {Q : VK} {E : XK} (B : BonAt P w K C H o ms) (h : MsOk ms) (hs : s < ms.length) (k : ∀ (a : Addr) (H' : Hp), H a = none → H' a = some (.dK (fdK (bfs ms s))) → Same H H' → Q (.ref a) H') : spDist P w K C [.ref o, .int ((s : Nat) : Int)] H Q E := by
  unfold spDist
  exact ⟨o, s, ms, rfl, B, h, hs, k⟩
theorem ok_Bonds_group (T : Top K mg) : FnOk P w K mg base CX0 4 T.a_Bonds_group T.d_Bonds_group ["self", "start"] (spBGroup P w K T.C_Bonds) := by
  refine T.F_Bonds_group.ok sc_Bonds_group (fun vs H Q E h => ?_) (fun cdv A outer s H vs Q E hr h => ?_)
  · unfold spBGroup at h
    obtain ⟨o, s, ms, rfl, _⟩ := h
    rfl
  unfold spBGroup at h
  obtain ⟨o, s, ms, rfl, hB, hms, hsl, k⟩ := h
  have hcl := T.cl_Bonds
  obtain ⟨dx, mk, ho, kvs, hin, _⟩ := hB.ex
  have hlk : ([("_marked", .ref mk), ("_holders", .ref ho)] : List (Str × V)).lookup ("_distances" : Str) = none := by
    rw [lk_ne (by decide +kernel), lk_ne (by decide +kernel)]
    rfl
  refine ⟨_, (pss_one (ps_ret (pe_callB cr_sortedI (by rfl) T.z_sorted (by decide +kernel) (pa_cons (pe_callTy (call_listD rfl) (by rfl) T.z_list (by decide +kernel) (pa_cons (pe_meth (pv 0) T.cl_Bonds T.M_Bonds__distances (ok_Bonds__distances T) (hr.mono (by decide)) T.b_Bonds__distances .nil pass0 (pa_cons (pv 1) pa_nil)) pa_nil)) pa_nil)))), ?_⟩
  sizeOf_list_dec
  refine dist_go hB hms hsl fun a H1 fa ha e1 => ?_
  have hrd := Rd.of ha
  sizeOf_list_dec
  rename_i l fl
  have hke : (fdK (bfs ms s)).map (fun kv => kV kv.1) = (((bfs ms s).map (·.1)).map fun n => ((n : Nat) : Int)).map V.int := by
    unfold fdK
    rw [List.map_map, List.map_map, List.map_map]
    rfl
  rw [hke]
  refine ⟨SqL.of upd_same, fun ns p hp hso fp => ?_⟩
  obtain ⟨us, rfl, hus⟩ := perm_nat hp
  have e2 := (e1.trans (same_new fl _)).trans (same_new fp (.lst ((us.map fun n => ((n : Nat) : Int)).map V.int)))
  refine k us p _ ⟨hus, ?_⟩ ((e1.trans (same_new fl _)).free fp) ?_ e2
  · rw [List.pairwise_map] at hso
    exact List.Pairwise.imp (fun h => by omega) hso
  · rw [upd_same]
    unfold intL
    rw [List.map_map]
    rfl
theorem msOk_of {L : LSt} (g : LGood L) : MsOk (L.rows.map fun r => marks r 0 L.things) := by
  refine ⟨fun m hm => ?_, fun m hm => ?_, by rw [List.length_map]; exact g.mx⟩
  · obtain ⟨r, _, rfl⟩ := List.mem_map.mp hm
    generalize 0 = n
    generalize L.things = ths
    induction ths generalizing n with
    | nil => exact List.nodup_nil
    | cons th ths ih =>
      unfold marks
      cases vals r th with
      | none => exact ih _
      | some vs =>
        refine List.nodup_cons.mpr ⟨fun h => ?_, ih _⟩
        obtain ⟨j, th2, us, _, _, h3⟩ := mem_marks.mp h
        have := (mkey_inj h3).1
        omega
  · obtain ⟨r, _, rfl⟩ := List.mem_map.mp hm
    exact Nat.le_trans marks_len g.t4
def msOf (L : LSt) : List (List NestedKey) := L.rows.map fun r => marks r 0 L.things
@[irreducible] def spBonds (P : Program) (w : World) (K : PySem.W.Frag) (C CB : Addr) : Sp := fun vs H Q _ => ∃ (p : Addr) (f : LFt) (L : LSt), vs = [.ref p] ∧ LedAt K C H p f L ∧ LGood L ∧ ∀ (o : Addr) (H' : Hp), H o = none → BonAt P w K CB H' o (msOf L) → Same H H' → Q (.ref o) H'
theorem binit_go {C o mk dx : Addr} {ms : List (List NestedKey)} {H : Hp} {Q : VK} {E : XK} (hin : H o = some (.ins C dx [])) (hm : MkAt P w K H mk ms) (h : MsOk ms) (k : ∀ H', BonAt P w K C H' o ms → Fr [o] H H' → Q .non H') : spBInit P w K C [.ref o, .ref mk] H Q E := by
  unfold spBInit
  exact ⟨o, mk, dx, ms, rfl, hin, hm, h, k⟩
theorem mk_Bonds (T : Top K mg) : Mk K T.C_Bonds T.a_Bonds___init__ := ⟨T.mk_Bonds, T.M_Bonds___init__.at_, T.M_Bonds___init__.fn, T.kp_Bonds⟩
theorem ok_Ledger__bonds (T : Top K mg) : FnOk P w K mg base CX0 5 T.a_Ledger__bonds T.d_Ledger__bonds ["self"] (spBonds P w K T.C_Ledger T.C_Bonds) := by
  refine T.F_Ledger__bonds.ok sc_Ledger__bonds (fun vs H Q E h => ?_) (fun cdv A outer s H vs Q E hr h => ?_)
  · unfold spBonds at h
    obtain ⟨p, f, L, rfl, _⟩ := h
    rfl
  unfold spBonds at h
  obtain ⟨p, f, L, rfl, L0, g, k⟩ := h
  have hcl := T.cl_Ledger
  have hn1 := T.n_Ledger__rows
  have hins := L0.ins
  have hlk := f.lkR
  have hlm : f.fs.lookup ("_marks_of" : Str) = none := LFt.lkN (by decide +kernel)
  obtain ⟨rs, hro, hrs⟩ := L0.ro
  have hlen := pr_len hrs
  have hmx := g.mx
  refine ⟨_, (pss_one (ps_ret (pe_make (mk_Bonds T) (ok_Bonds___init__ T) (hr.mono (by decide)) rfl T.mc_Bonds T.b_Bonds___init__ .nil pass0 (pa_cons (pe_dc (own := [("number", 1), ("row", 2)]) (g := gTup K 2 (gCons (gName 1) (gCons (gName 2) gNil))) (tt := tYes) rfl sc_Ledger__bonds.nd (pi_enum (by rfl) T.z_enumerate (pa_cons (pe_fld (pv 0) rfl) pa_nil)) (blkOk_by (own := [("number", 1), ("row", 2)]) (N := n_Ledger__bonds) (sc := defScope s_Ledger__bonds) (by decide +kernel)) (fun _ _ _ _ _ => by exact (pg_tup rfl (pgs_cons (pg_name (i := 1) sc_Ledger__bonds.nd rfl (Or.inl rfl)) (pgs_cons (pg_name (i := 2) sc_Ledger__bonds.nd rfl (Or.inl rfl)) pgs_nil)))) (fun _ _ _ _ _ => pts_nil) (fun _ _ _ _ _ => (pv 1)) (fun _ _ _ _ _ => (pe_meth (pv 0) T.cl_Ledger T.M_Ledger__marks_of (ok_Ledger__marks_of (P := P) (w := w) (base := base) T) (hr.mono (by decide)) T.b_Ledger__marks_of .nil pass0 (pa_cons (pv 2) pa_nil)))) pa_nil)))), ?_⟩
  refine ⟨_, rfl, p, _, _, _, .ref f.ro, rfl, hins, hcl, hn1, hlk, f.ro, _, rfl, SqL.of hro, fun D fD => ?_⟩
  have sD := same_new fD (.dK [])
  refine dc_it (walk_enum (K := K) (a := f.ro) (xs := rs.map V.ref)) (fun i Hx => Hold (Same H Hx ∧ ∃ as : List Addr, Hx D = some (.dK (mkK 0 as)) ∧ PySem.Paired (fun a m => ND P w K Hx a (mkD m)) as ((msOf L).take i))) ⟨sD, [], upd_same, by rw [List.take_zero]; exact .nil⟩ (fun i Hx _ h => SqL.of (h.h.1 _ _ hro)) ?_ ?_
  · rintro i x Hx Hy hi ⟨e, as, hD, hp⟩ ⟨Tp, y1, y2, rfl, fT, rfl, h1, h2⟩
    obtain rfl : V.int (i : Nat) = y1 := Option.some.inj h1
    obtain ⟨a, ha, rfl⟩ := ref_get h2
    obtain ⟨r, h3, h4⟩ := pr_get hrs ha
    have il : i < L.rows.length := (List.getElem?_eq_some_iff.mp h3).1
    have sT := same_new fT (.tup [V.int (i : Nat), V.ref a])
    have e3 := e.trans sT
    have hms : (msOf L)[i]? = some (marks r 0 L.things) := by
      unfold msOf
      rw [List.getElem?_map, h3]
      rfl
    have hasl : as.length = i := by
      rw [pr_len hp, List.length_take]
      unfold msOf
      rw [List.length_map]
      omega
    sizeOf_list_dec
    refine marks_go (L0.mono e3) g (LRowOk.mono e3 h4) fun m H3 fm hm s3 => ?_
    have e4 := sT.trans s3
    refine ⟨mkK 0 as, Sum.inl ((i : Nat) : Int), rfl, e4 _ _ hD, (by rw [mkK_len]; exact small' (by omega)), ?_⟩
    have hput : putK (mkK 0 as) (Sum.inl ((i : Nat) : Int)) (.ref m) = mkK 0 (as ++ [m]) := by
      rw [← hasl]
      exact mkK_put
    rw [hput]
    have ntD : ∀ x ∈ [D], NT H3 x := one_nt (nt_of (e4 _ _ hD) (fun _ q => nomatch q) (fun _ _ q => nomatch q))
    have nD : ∀ {a : Addr} {m : List NestedKey}, ND P w K H3 a (mkD m) → a ∉ [D] := fun {a m} h q => by
      obtain ⟨_, xs, e1, _⟩ := h
      rw [List.mem_singleton.mp q, e4 _ _ hD] at e1
      cases e1
    refine ⟨Same.mut (e.trans e4) fD _, as ++ [m], upd_same, ?_⟩
    rw [List.take_add_one, hms]
    refine pr_app (prMp hp fun a m q => (q.mono e4).frN fr_one ntD (nD (q.mono e4))) (.cons ?_ .nil)
    exact hm.frN fr_one ntD (nD hm)
  rintro Hx ⟨e, as, hD, hp⟩
  have hrl : (rs.map V.ref).length = (msOf L).length := by
    unfold msOf
    rw [List.length_map, List.length_map, hlen]
  rw [hrl, List.take_length] at hp
  refine fun o dx fo fdx ne => ?_
  have s1 : Same Hx (upd (upd Hx dx (.own o)) o (.ins T.C_Bonds dx [])) := fun b u q => by
    rw [upd_ne (ne_of_none q fo), upd_ne (ne_of_none q fdx)]
    exact q
  refine binit_go upd_same (ms := msOf L) ⟨as, s1 _ _ hD, prMp hp fun _ _ q => q.mono s1⟩ (msOk_of g) fun H' B F => ⟨rfl, ?_⟩
  have e5 : Same Hx H' := fun b u q => F b u (s1 b u q) fun hm => by
    rw [List.mem_singleton.mp hm, fo] at q
    cases q
  exact k o H' (e.free fo) B (e.trans e5)
@[irreducible] def spLGroup (P : Program) (w : World) (K : PySem.W.Frag) (C : Addr) : Sp := fun vs H Q _ => ∃ (p : Addr) (f : LFt) (L : LSt) (n : Nat), vs = [.ref p, .int ((n : Nat) : Int)] ∧ LedAt K C H p f L ∧ LGood L ∧ n < L.rows.length ∧ ∀ (ns : List Nat) (a : Addr) (H' : Hp), GrpOf (msOf L) n ns → H a = none → H' a = some (.lst (intL ns)) → Same H H' → Q (.ref a) H'
@[irreducible] def spLChain (P : Program) (w : World) (K : PySem.W.Frag) (C : Addr) : Sp := fun vs H Q _ => ∃ (p : Addr) (f : LFt) (L : LSt) (n t : Nat), vs = [.ref p, .int ((n : Nat) : Int), .int ((t : Nat) : Int)] ∧ LedAt K C H p f L ∧ LGood L ∧ n < L.rows.length ∧ t < L.rows.length ∧
  ((lookN (bfs (msOf L) t) n = none ∧ ∀ H', Same H H' → Q .non H') ∨ (n = t ∧ ∀ (a : Addr) (H' : Hp), H a = none → H' a = some (.lst (intL [n])) → Same H H' → Q (.ref a) H'))
theorem bonds_go {C CB p : Addr} {f : LFt} {L : LSt} {H : Hp} {Q : VK} {E : XK} (L0 : LedAt K C H p f L) (g : LGood L) (k : ∀ (o : Addr) (H' : Hp), H o = none → BonAt P w K CB H' o (msOf L) → Same H H' → Q (.ref o) H') : spBonds P w K C CB [.ref p] H Q E := by
  unfold spBonds
  exact ⟨p, f, L, rfl, L0, g, k⟩
theorem bgroup_go {C o : Addr} {s : Nat} {ms : List (List NestedKey)} {H : Hp} {Q : VK} {E : XK} (B : BonAt P w K C H o ms) (h : MsOk ms) (hs : s < ms.length) (k : ∀ (ns : List Nat) (a : Addr) (H' : Hp), GrpOf ms s ns → H a = none → H' a = some (.lst (intL ns)) → Same H H' → Q (.ref a) H') : spBGroup P w K C [.ref o, .int ((s : Nat) : Int)] H Q E := by
  unfold spBGroup
  exact ⟨o, s, ms, rfl, B, h, hs, k⟩
theorem msOf_len {L : LSt} : (msOf L).length = L.rows.length := by
  unfold msOf
  rw [List.length_map]
theorem ok_Ledger_group (T : Top K mg) : FnOk P w K mg base CX0 7 T.a_Ledger_group T.d_Ledger_group ["self", "number"] (spLGroup P w K T.C_Ledger) := by
  refine T.F_Ledger_group.ok sc_Ledger_group (fun vs H Q E h => ?_) (fun cdv A outer s H vs Q E hr h => ?_)
  · unfold spLGroup at h
    obtain ⟨p, f, L, n, rfl, _⟩ := h
    rfl
  unfold spLGroup at h
  obtain ⟨p, f, L, n, rfl, L0, g, hn, k⟩ := h
  have hins := L0.ins
  have hlm : f.fs.lookup ("_check_number" : Str) = none := LFt.lkN (by decide +kernel)
  have hlb : f.fs.lookup ("_bonds" : Str) = none := LFt.lkN (by decide +kernel)
  refine ⟨_, (pss_cons (ps_expr (pe_meth (pv 0) T.cl_Ledger T.M_Ledger__check_number (ok_Ledger__check_number T) (hr.mono (by decide)) T.b_Ledger__check_number .nil pass0 (pa_cons (pv 1) pa_nil)))
    (pss_one (ps_ret (pe_meth (pe_meth0 (pv 0) T.cl_Ledger T.M_Ledger__bonds (ok_Ledger__bonds T) (hr.mono (by decide)) T.b_Ledger__bonds .nil pass0) T.cl_Bonds T.M_Bonds_group (ok_Bonds_group T) (hr.mono (by decide)) T.b_Bonds_group .nil pass0 (pa_cons (pv 1) pa_nil))))), ?_⟩
  refine ⟨_, rfl, p, _, _, rfl, hins, hlm, _, rfl, ?_⟩
  refine check_go L0 hn fun H1 e1 => ?_
  refine ⟨_, rfl, p, _, _, rfl, e1 _ _ hins, hlb, ?_⟩
  refine bonds_go (L0.mono e1) g fun o H2 fo B e2 => ?_
  obtain ⟨dx, mk, ho, kvs, hin, _⟩ := B.ex
  have hlk : ([("_marked", .ref mk), ("_holders", .ref ho)] : List (Str × V)).lookup ("group" : Str) = none := by
    rw [lk_ne (by decide +kernel), lk_ne (by decide +kernel)]
    rfl
  refine ⟨o, dx, _, rfl, hin, hlk, _, rfl, ?_⟩
  exact bgroup_go B (msOk_of g) (by rw [msOf_len]; exact hn) fun ns a H3 hg fa ha e3 => k ns a H3 hg ((e1.trans e2).free fa) ha (e1.trans (e2.trans e3))
end
end Bl

namespace Bl
open PySem L2
open SX (S)
/-! short words: array_get_dec closes a side condition; array_mem_dec goes one step into a reading; sizeOf_list_dec goes on while it can -/
local macro_rules | `(tactic| array_get_dec) => `(tactic| first
  | (with_reducible assumption)
  | ((with_reducible apply Bl.gEq); first
    | rfl
    | assumption
    | exact upd_same
    | (with_reducible exact kit_d some_str)
    | (with_reducible exact kit_d some_int)
    | (with_reducible exact kit_d some_bool)
    | (with_reducible exact kit_d some_list)
    | (with_reducible exact kit_d some_tuple)
    | ((with_reducible apply Bl.get_new); assumption; array_get_dec)
    | ((with_reducible apply Bl.get_tr); assumption; array_get_dec)
    )
  | ((with_reducible apply Bl.gLe); first
    | omega
    | exact small (by omega)
    | exact small (by simp only [List.length_cons, List.length_nil]; decide)
    | exact small (by simp only [List.length_append, List.length_cons, List.length_nil]; omega)
    | decide)
  | ((with_reducible apply Bl.gLt); first
    | omega
    | exact small' (by omega)
    | exact small' (by simp only [List.length_cons, List.length_nil]; decide)
    | decide)
  | ((fail_if_success (with_reducible apply Bl.gEq)); (fail_if_success (with_reducible apply Bl.gLe)); (fail_if_success (with_reducible apply Bl.gLt)); first
    | assumption
    | exact SqL.of upd_same
    | exact SqT.of upd_same
    | ((with_reducible apply SqL.of); assumption)
    | ((with_reducible apply SqT.of); assumption)
    | exact Same.refl _
    | exact .ty _
    | exact .str _
    | exact .int _
    | exact ⟨_, rfl⟩
    | ((with_reducible apply Dp.ty); assumption)
    | ((with_reducible apply Bl.seq_new); assumption; array_get_dec)
    | ((with_reducible apply Bl.tup_new); assumption; array_get_dec)
    | ((with_reducible apply Bl.dp_new); assumption; array_get_dec)
    | ((with_reducible apply Bl.dpa_new); assumption; array_get_dec)
    | ((with_reducible apply Bl.same_nw); assumption; array_get_dec)
    | ((with_reducible apply Bl.seq_tr); assumption; array_get_dec)
    | ((with_reducible apply Bl.tup_tr); assumption; array_get_dec)
    | ((with_reducible apply Bl.dp_tr); assumption; array_get_dec)
    | ((with_reducible apply Bl.dpa_tr); assumption; array_get_dec)
    | ((with_reducible apply Bl.same_tr); assumption; array_get_dec)
    | ((with_reducible apply Dp.ty); assumption)
    | ((with_reducible apply Dp.ty); array_get_dec)
    | ((with_reducible refine Or.inl ?_); array_get_dec)
    | ((with_reducible refine Or.inr ?_); array_get_dec)
    | ((with_reducible apply Bl.gEx); array_get_dec)))
local macro_rules | `(tactic| array_mem_dec) => `(tactic| first
  | ((with_reducible apply Bl.gIte); first
    | (refine Bl.gT (by rfl) ?_)
    | (refine Bl.gF (by rfl) ?_))
  | ((fail_if_success (with_reducible apply Bl.gIte)); (fail_if_success (with_reducible apply Bl.gLoop)); (fail_if_success (with_reducible apply Bl.gComp)); (fail_if_success (with_reducible apply Bl.gWhile)); first
    | (with_reducible intro _ _)
    | (with_reducible intro _)
    | (refine And.intro (by array_get_dec) ?_)
    | (apply Bl.gEx)
    | (refine Or.inl (And.intro (by array_get_dec) ?_))
    | (refine Or.inr (And.intro (by array_get_dec) ?_))
    | (refine Or.inl ⟨_, by array_get_dec, ?_⟩)
    | (refine Or.inr ⟨_, by array_get_dec, ?_⟩)
    ))
local macro_rules | `(tactic| sizeOf_list_dec) => `(tactic| repeat array_mem_dec)

abbrev n_Ledger_undo : List Str := ["self"]
theorem sc_Ledger_undo : FnScope n_Ledger_undo ["self"] (defScope s_Ledger_undo) := ⟨rfl, rfl, rfl, by decide +kernel, rfl, by decide +kernel, by decide +kernel⟩
abbrev n_Ledger_redo : List Str := ["self", "row", "lot"]
theorem sc_Ledger_redo : FnScope n_Ledger_redo ["self"] (defScope s_Ledger_redo) := ⟨rfl, rfl, rfl, by decide +kernel, rfl, by decide +kernel, by decide +kernel⟩
abbrev n_Ledger_history : List Str := ["self"]
theorem sc_Ledger_history : FnScope n_Ledger_history ["self"] (defScope s_Ledger_history) := ⟨rfl, rfl, rfl, by decide +kernel, rfl, by decide +kernel, by decide +kernel⟩
abbrev n_Ledger_twin : List Str := ["self", "other"]
theorem sc_Ledger_twin : FnScope n_Ledger_twin ["self"] (defScope s_Ledger_twin) := ⟨rfl, rfl, rfl, by decide +kernel, rfl, by decide +kernel, by decide +kernel⟩
abbrev n_Ledger___eq__ : List Str := ["self", "other"]
theorem sc_Ledger___eq__ : FnScope n_Ledger___eq__ ["self", "other"] (defScope s_Ledger___eq__) := ⟨rfl, rfl, rfl, by decide +kernel, rfl, by decide +kernel, by decide +kernel⟩
theorem LFt.putR {f : LFt} {a : Addr} : putF "_rows" (.ref a) f.fs = ({ f with ro := a } : LFt).fs := by
  unfold LFt.fs
  rw [pf_ne (by decide +kernel), pf_eq]
theorem LFt.putS {f : LFt} {a : Addr} : putF "_sides" (.ref a) f.fs = ({ f with si := a } : LFt).fs := by
  unfold LFt.fs
  rw [pf_ne (by decide +kernel), pf_ne (by decide +kernel), pf_eq]
section
variable {K : PySem.W.Frag} {C p a : Addr} {H : Hp} {f : LFt} {L : LSt}
theorem led_free (h : LedAt K C H p f L) (ha : H a = none) : ∀ x ∈ f.all p, x ≠ a := fun x hx => by
  obtain ⟨o, ho⟩ := h.tr x hx
  exact ne_of_none ho ha
/-- one of a ledger's lists is another, new one -/
theorem set_fr (h : LedAt K C H p f L) (ha : H a = none) {xs : List V} {fs : List (Str × V)} : Fr [p] H (upd (upd H a (.lst xs)) p (.ins C f.dx fs)) := ((Fr.of (Same.refl H)).new ha).put (List.mem_singleton.mpr rfl)
theorem set_li (h : LedAt K C H p f L) : ∀ x ∈ [p], ListIns H x := fun x hx => by
  rw [List.mem_singleton.mp hx]
  exact .inr ⟨_, _, _, h.ins⟩
theorem LedAt.setR (h : LedAt K C H p f L) (ha : H a = none) {rs : List Addr} {rows : List Row} (hr : PySem.Paired (LRowOk H) rs rows) :
    LedAt K C (upd (upd H a (.lst (rs.map V.ref))) p (.ins C f.dx ({ f with ro := a } : LFt).fs)) p { f with ro := a } ⟨L.things, rows, L.sides, L.undone⟩ := by
  have F := set_fr h ha (xs := rs.map V.ref) (fs := ({ f with ro := a } : LFt).fs)
  have li := set_li h
  obtain ⟨n1, n2, n3, n4, n5, n6, n7, n8, n9, n10⟩ := h.ne
  have fr := led_free h ha
  have np : p ≠ a := fr p (by simp [LFt.all])
  have nm : ∀ x, p ≠ x → x ∉ [p] := fun x n q => n (List.mem_singleton.mp q).symm
  obtain ⟨ts, h1, h2⟩ := h.th
  obtain ⟨us, h3, h4⟩ := h.un
  refine ⟨upd_same, ⟨ts, F _ _ h1 (nm _ n1), fr_th F li h2⟩, ⟨rs, by rw [upd_ne np.symm]; exact upd_same, fr_ro F li hr⟩, F _ _ h.si (nm _ n3), ⟨us, F _ _ h3 (nm _ n4), fr_un F li h4⟩, ?_⟩
  have a1 := fr f.th (by simp [LFt.all])
  have a2 := fr f.si (by simp [LFt.all])
  have a3 := fr f.un (by simp [LFt.all])
  simp [LFt.all, n1, np, n3, n4, a1, n6, n7, a2.symm, a3.symm, n10]
theorem LedAt.setS (h : LedAt K C H p f L) (ha : H a = none) {sides : List Str} :
    LedAt K C (upd (upd H a (.lst (sides.map V.str))) p (.ins C f.dx ({ f with si := a } : LFt).fs)) p { f with si := a } ⟨L.things, L.rows, sides, L.undone⟩ := by
  have F := set_fr h ha (xs := sides.map V.str) (fs := ({ f with si := a } : LFt).fs)
  have li := set_li h
  obtain ⟨n1, n2, n3, n4, n5, n6, n7, n8, n9, n10⟩ := h.ne
  have fr := led_free h ha
  have np : p ≠ a := fr p (by simp [LFt.all])
  have nm : ∀ x, p ≠ x → x ∉ [p] := fun x n q => n (List.mem_singleton.mp q).symm
  obtain ⟨ts, h1, h2⟩ := h.th
  obtain ⟨us, h3, h4⟩ := h.un
  obtain ⟨rs, h5, h6⟩ := h.ro
  refine ⟨upd_same, ⟨ts, F _ _ h1 (nm _ n1), fr_th F li h2⟩, ⟨rs, F _ _ h5 (nm _ n2), fr_ro F li h6⟩, by rw [upd_ne np.symm]; exact upd_same, ⟨us, F _ _ h3 (nm _ n4), fr_un F li h4⟩, ?_⟩
  have a1 := fr f.th (by simp [LFt.all])
  have a2 := fr f.ro (by simp [LFt.all])
  have a3 := fr f.un (by simp [LFt.all])
  simp [LFt.all, n1, np, n2, n4, a1, n5, n7, a2, a3.symm, n9]
theorem LedAt.setU (h : LedAt K C H p f L) (ha : H a = none) {us : List Addr} {und : List (Row × Str)} (hu : PySem.Paired (UndOk K H) us und) :
    LedAt K C (upd (upd H a (.lst (us.map V.ref))) p (.ins C f.dx ({ f with un := a } : LFt).fs)) p { f with un := a } ⟨L.things, L.rows, L.sides, und⟩ := by
  have F := set_fr h ha (xs := us.map V.ref) (fs := ({ f with un := a } : LFt).fs)
  have li := set_li h
  obtain ⟨n1, n2, n3, n4, n5, n6, n7, n8, n9, n10⟩ := h.ne
  have fr := led_free h ha
  have np : p ≠ a := fr p (by simp [LFt.all])
  have nm : ∀ x, p ≠ x → x ∉ [p] := fun x n q => n (List.mem_singleton.mp q).symm
  obtain ⟨ts, h1, h2⟩ := h.th
  obtain ⟨rs, h5, h6⟩ := h.ro
  refine ⟨upd_same, ⟨ts, F _ _ h1 (nm _ n1), fr_th F li h2⟩, ⟨rs, F _ _ h5 (nm _ n2), fr_ro F li h6⟩, F _ _ h.si (nm _ n3), ⟨us, by rw [upd_ne np.symm]; exact upd_same, fr_un F li hu⟩, ?_⟩
  have a1 := fr f.th (by simp [LFt.all])
  have a2 := fr f.ro (by simp [LFt.all])
  have a3 := fr f.si (by simp [LFt.all])
  simp [LFt.all, n1, np, n2, n3, a1, n5, n6, a2, a3, n8]
end
section
variable {P : Program} {w : World} {K : PySem.W.Frag} {mg : Str → Option Value} {base : Heap}
@[irreducible] def spUndo {K : PySem.W.Frag} {mg : Str → Option Value} (T : Top K mg) : Sp := fun vs H Q E => ∃ (p : Addr) (f : LFt) (L : LSt), vs = [.ref p] ∧ LedAt K T.C_Ledger H p f L ∧
  ((∃ (R : List Row) (S : List Str) (w : Row) (z : Str), L.rows = R ++ [w] ∧ L.sides = S ++ [z] ∧ L.undone.length ≤ 1000 ∧
    ∀ (H' : Hp), LedAt K T.C_Ledger H' p f ⟨L.things, R, S, L.undone ++ [(w, z)]⟩ → Fr (f.wr p) H H' → Q .non H') ∨
  (L.rows = [] ∧ ∀ cls e H', Rsd K T.C_LotsError T.C_Missing T.C_NothingLeft H' cls e ("NothingLeft", []) [] → Same H H' → E cls e H'))
theorem ok_Ledger_undo (T : Top K mg) : FnOk P w K mg base (L2.CX P w) 4 T.a_Ledger_undo T.d_Ledger_undo ["self"] (spUndo T) := by
  refine T.F_Ledger_undo.okX sc_Ledger_undo (fun vs H Q E h => ?_) (fun cdv A outer s H vs Q E hr h => ?_)
  · unfold spUndo at h
    obtain ⟨p, f, L, rfl, _⟩ := h
    rfl
  unfold spUndo at h
  have hcl := T.cl_Ledger
  have hn1 := T.n_Ledger__rows
  have hn2 := T.n_Ledger__sides
  have hn3 := T.n_Ledger__undone
  refine ⟨_, (pss_cons (ps_if (pt_cmpR op_eq (pe_callB call_len_seq (by rfl) T.z_len (by decide +kernel) (pa_cons (pe_fld (pv 0) rfl) pa_nil)) pe_int (nomark _)) (pss_one (ps_raise rfl takes_ok (pmk_xc0 T.x_NothingLeft T.iC_NothingLeft T.tI_NothingLeft (oki_NothingLeft T) (hr.mono (by decide)) T.bi_NothingLeft pass0 rfl T.mc_NothingLeft))) pss_nil)
    (pss_one (ps_expr (pe_bm PySem.F.plainAttrs_list PySem.F.slot_list_append PySem.F.type_list_append mt_append (pe_fld (pv 0) rfl) (pa_cons (pe_tup (pa_cons (pe_bm0 PySem.F.plainAttrs_list PySem.F.slot_list_pop PySem.F.type_list_pop mt_pop (pe_fld (pv 0) rfl)) (pa_cons (pe_bm0 PySem.F.plainAttrs_list PySem.F.slot_list_pop PySem.F.type_list_pop mt_pop (pe_fld (pv 0) rfl)) pa_nil))) pa_nil))))), ?_⟩
  obtain ⟨p, f, L, rfl, L0, ⟨R, S, w, z, hR, hS, hul, k⟩ | ⟨hR, k⟩⟩ := h
  rotate_left
  · obtain ⟨rs, hro, hrs⟩ := L0.ro
    rw [hR] at hrs
    cases hrs
    have hins := L0.ins
    have hlkR := f.lkR
    refine ⟨_, rfl, p, _, _, _, _, rfl, hins, hcl, hn1, hlkR, f.ro, _, rfl, .inl (SqL.of hro), ?_⟩
    refine ⟨rfl, _, rfl, gT (decide_eq_true rfl) ?_⟩
    exact raise_full (G := H) (ys := []) T.x_NothingLeft T.xq_NothingLeft (by decide +kernel) rfl k
  obtain ⟨rs, hro, hrs⟩ := L0.ro
  rw [hR] at hrs
  obtain ⟨rs, r, rfl, hrs, hw⟩ := pr_snoc hrs
  have hsi := L0.si
  rw [hS, List.map_append] at hsi
  obtain ⟨us, hun, hus⟩ := L0.un
  rw [List.map_append] at hro
  have hins := L0.ins
  have hlkR := f.lkR
  have hlkS := f.lkS
  have hlkU := f.lkU
  obtain ⟨n1, n2, n3, n4, n5, n6, n7, n8, n9, n10⟩ := L0.ne
  have z1 : decide (V.int ((rs.map V.ref ++ [V.ref r]).length : Int) = V.int 0) = false := decide_eq_false (fun z => by have := V.int.inj z; rw [List.length_append] at this; simp at this; omega)
  refine ⟨_, rfl, p, _, _, _, _, rfl, hins, hcl, hn1, hlkR, f.ro, _, rfl, .inl (SqL.of hro), ?_⟩
  refine ⟨rfl, _, rfl, gF z1 ?_⟩
  refine ⟨_, rfl, p, _, _, _, _, rfl, hins, hcl, hn3, hlkU, .inl ⟨rfl, _, SqL.of hun⟩, ?_⟩
  refine ⟨_, rfl, p, _, _, _, _, rfl, hins, hcl, hn1, hlkR, .inl ⟨rfl, _, SqL.of hro⟩, ?_⟩
  refine ⟨f.ro, rs.map V.ref ++ [V.ref r], .ref r, rfl, rfl, hro, last_get, ?_⟩
  have hins1 : upd H f.ro (.lst (rs.map V.ref ++ [V.ref r]).dropLast) p = _ := (upd_ne n2).trans hins
  have hsi1 : upd H f.ro (.lst (rs.map V.ref ++ [V.ref r]).dropLast) f.si = _ := (upd_ne n8.symm).trans hsi
  refine ⟨_, rfl, p, _, _, _, _, rfl, hins1, hcl, hn2, hlkS, .inl ⟨rfl, _, SqL.of hsi1⟩, ?_⟩
  refine ⟨f.si, S.map V.str ++ [V.str z], .str z, rfl, rfl, hsi1, last_get, ?_⟩
  refine ⟨by show 2 ≤ sizeLine; decide, fun t ft => ?_⟩
  have hun2 : upd (upd H f.ro (.lst (rs.map V.ref ++ [V.ref r]).dropLast)) f.si (.lst (S.map V.str ++ [V.str z]).dropLast) f.un = _ := (upd_ne n10.symm).trans ((upd_ne n9.symm).trans hun)
  have nut : f.un ≠ t := ne_of_none hun2 ft
  have nrt : f.ro ≠ t := ne_of_none (by rw [upd_ne n8]; exact upd_same) ft
  have nst : f.si ≠ t := ne_of_none upd_same ft
  have npt : p ≠ t := ne_of_none (by rw [upd_ne n3]; exact hins1) ft
  obtain ⟨ts, hth, hts⟩ := L0.th
  have ntt : f.th ≠ t := ne_of_none (by rw [upd_ne n6, upd_ne n5]; exact hth) ft
  have hul2 : us.length = L.undone.length := pr_len hus
  refine ⟨f.un, us.map V.ref, .ref t, rfl, rfl, (upd_ne nut).trans hun2, small' (by rw [List.length_map]; omega), ?_⟩
  have m2 : f.ro ∈ f.wr p := by simp [LFt.wr]
  have m3 : f.si ∈ f.wr p := by simp [LFt.wr]
  have m4 : f.un ∈ f.wr p := by simp [LFt.wr]
  have F4 : Fr (f.wr p) H _ := ((((Fr.of (Same.refl H)).put m2 (o := .lst (rs.map V.ref ++ [V.ref r]).dropLast)).put m3 (o := .lst (S.map V.str ++ [V.str z]).dropLast)).new ft (o := .tup [V.ref r, V.str z])).put m4 (o := .lst (us.map V.ref ++ [V.ref t]))
  have hli : ∀ x ∈ f.wr p, ListIns H x := fun x hx => L0.li x (LFt.wr_all hx)
  refine k _ ⟨?_, ⟨ts, ?_, fr_th F4 hli hts⟩, ⟨rs, ?_, fr_ro F4 hli hrs⟩, ?_, ⟨us ++ [t], ?_, pr_app (fr_un F4 hli hus) (.cons ⟨r, .inl (.inl ?_), fr_dk F4 hli hw⟩ .nil)⟩, L0.nd⟩ F4
  · rw [upd_ne n4, upd_ne npt, upd_ne n3, upd_ne n2]
    exact hins
  · rw [upd_ne n7, upd_ne ntt, upd_ne n6, upd_ne n5]
    exact hth
  · rw [upd_ne n9, upd_ne nrt, upd_ne n8, upd_same, List.dropLast_concat]
  · rw [upd_ne n10, upd_ne nst, upd_same, List.dropLast_concat]
  · rw [upd_same, List.map_append]
    rfl
  · rw [upd_ne nut.symm]
    exact upd_same
@[irreducible] def spRedo {K : PySem.W.Frag} {mg : Str → Option Value} (T : Top K mg) : Sp := fun vs H Q E => ∃ (p : Addr) (f : LFt) (L : LSt), vs = [.ref p] ∧ LedAt K T.C_Ledger H p f L ∧
  ((∃ (U : List (Row × Str)) (w : Row) (z : Str), L.undone = U ++ [(w, z)] ∧ L.rows.length ≤ 1000 ∧ L.sides.length ≤ 1000 ∧
    ∀ (H' : Hp), LedAt K T.C_Ledger H' p f ⟨L.things, L.rows ++ [w], L.sides ++ [z], U⟩ → Fr (f.wr p) H H' → Q .non H') ∨
  (L.undone = [] ∧ ∀ cls e H', Rsd K T.C_LotsError T.C_Missing T.C_NothingLeft H' cls e ("NothingLeft", []) [] → Same H H' → E cls e H'))
theorem ok_Ledger_redo (T : Top K mg) : FnOk P w K mg base (L2.CX P w) 4 T.a_Ledger_redo T.d_Ledger_redo ["self"] (spRedo T) := by
  refine T.F_Ledger_redo.okX sc_Ledger_redo (fun vs H Q E h => ?_) (fun cdv A outer s H vs Q E hr h => ?_)
  · unfold spRedo at h
    obtain ⟨p, f, L, rfl, _⟩ := h
    rfl
  unfold spRedo at h
  have hcl := T.cl_Ledger
  have hn1 := T.n_Ledger__rows
  have hn2 := T.n_Ledger__sides
  have hn3 := T.n_Ledger__undone
  refine ⟨_, (pss_cons (ps_if (pt_cmpR op_eq (pe_callB call_len_seq (by rfl) T.z_len (by decide +kernel) (pa_cons (pe_fld (pv 0) rfl) pa_nil)) pe_int (nomark _)) (pss_one (ps_raise rfl takes_ok (pmk_xc0 T.x_NothingLeft T.iC_NothingLeft T.tI_NothingLeft (oki_NothingLeft T) (hr.mono (by decide)) T.bi_NothingLeft pass0 rfl T.mc_NothingLeft))) pss_nil)
    (pss_cons (ps_asg (pe_bm0 PySem.F.plainAttrs_list PySem.F.slot_list_pop PySem.F.type_list_pop mt_pop (pe_fld (pv 0) rfl)) (pg_tup rfl (pgs_cons (pg_name (i := 1) sc_Ledger_redo.nd rfl (Or.inl rfl)) (pgs_cons (pg_name (i := 2) sc_Ledger_redo.nd rfl (Or.inl rfl)) pgs_nil))))
    (pss_cons (ps_expr (pe_bm PySem.F.plainAttrs_list PySem.F.slot_list_append PySem.F.type_list_append mt_append (pe_fld (pv 0) rfl) (pa_cons (pv 1) pa_nil)))
    (pss_one (ps_expr (pe_bm PySem.F.plainAttrs_list PySem.F.slot_list_append PySem.F.type_list_append mt_append (pe_fld (pv 0) rfl) (pa_cons (pv 2) pa_nil))))))), ?_⟩
  obtain ⟨p, f, L, rfl, L0, ⟨U, w, z, hU, hl1, hl2, k⟩ | ⟨hU, k⟩⟩ := h
  rotate_left
  · obtain ⟨us, hun, hus⟩ := L0.un
    rw [hU] at hus
    cases hus
    have hins := L0.ins
    have hlkU := f.lkU
    refine ⟨_, rfl, p, _, _, _, _, rfl, hins, hcl, hn3, hlkU, f.un, _, rfl, .inl (SqL.of hun), ?_⟩
    refine ⟨rfl, _, rfl, gT (decide_eq_true rfl) ?_⟩
    exact raise_full (G := H) (ys := []) T.x_NothingLeft T.xq_NothingLeft (by decide +kernel) rfl k
  obtain ⟨rs, hro, hrs⟩ := L0.ro
  have hsi := L0.si
  obtain ⟨us, hun, hus⟩ := L0.un
  rw [hU] at hus
  obtain ⟨us, t, rfl, hus, r, ht, hw⟩ := pr_snoc hus
  rw [List.map_append] at hun
  obtain ⟨ts, hth, hts⟩ := L0.th
  have hins := L0.ins
  have hlkR := f.lkR
  have hlkS := f.lkS
  have hlkU := f.lkU
  obtain ⟨n1, n2, n3, n4, n5, n6, n7, n8, n9, n10⟩ := L0.ne
  have hli : ∀ x ∈ f.wr p, ListIns H x := fun x hx => L0.li x (LFt.wr_all hx)
  have z1 : decide (V.int ((us.map V.ref ++ [V.ref t]).length : Int) = V.int 0) = false := decide_eq_false (fun z => by have := V.int.inj z; rw [List.length_append] at this; simp at this; omega)
  refine ⟨_, rfl, p, _, _, _, _, rfl, hins, hcl, hn3, hlkU, f.un, _, rfl, .inl (SqL.of hun), ?_⟩
  refine ⟨rfl, _, rfl, gF z1 ?_⟩
  refine ⟨_, rfl, p, _, _, _, _, rfl, hins, hcl, hn3, hlkU, .inl ⟨rfl, _, SqL.of hun⟩, ?_⟩
  refine ⟨f.un, us.map V.ref ++ [V.ref t], .ref t, rfl, rfl, hun, last_get, ?_⟩
  have m1 : p ∈ f.wr p := by simp [LFt.wr]
  have m2 : f.ro ∈ f.wr p := by simp [LFt.wr]
  have m3 : f.si ∈ f.wr p := by simp [LFt.wr]
  have m4 : f.un ∈ f.wr p := by simp [LFt.wr]
  have F1 : Fr (f.wr p) H _ := (Fr.of (Same.refl H)).put m4 (o := .lst (us.map V.ref ++ [V.ref t]).dropLast)
  have ht1 := fr_tup F1 hli ht
  refine ⟨t, _, rfl, ht1, rfl, ?_⟩
  have hins1 : upd H f.un (.lst (us.map V.ref ++ [V.ref t]).dropLast) p = _ := (upd_ne n4).trans hins
  have hro1 : upd H f.un (.lst (us.map V.ref ++ [V.ref t]).dropLast) f.ro = _ := (upd_ne n9).trans hro
  have hsi1 : upd H f.un (.lst (us.map V.ref ++ [V.ref t]).dropLast) f.si = _ := (upd_ne n10).trans hsi
  have hrl : rs.length = L.rows.length := pr_len hrs
  sizeOf_list_dec
  refine ⟨.inl ⟨rfl, _, SqL.of hro1⟩, _, rfl, f.ro, _, _, rfl, rfl, hro1, small' (by rw [List.length_map]; omega), ?_⟩
  have hins2 : upd (upd H f.un (.lst (us.map V.ref ++ [V.ref t]).dropLast)) f.ro (.lst (rs.map V.ref ++ [V.ref r])) p = _ := (upd_ne n2).trans hins1
  have hsi2 : upd (upd H f.un (.lst (us.map V.ref ++ [V.ref t]).dropLast)) f.ro (.lst (rs.map V.ref ++ [V.ref r])) f.si = _ := (upd_ne n8.symm).trans hsi1
  sizeOf_list_dec
  refine ⟨.inl ⟨rfl, _, SqL.of hsi2⟩, _, rfl, f.si, _, _, rfl, rfl, hsi2, small' (by rw [List.length_map]; omega), ?_⟩
  have F4 : Fr (f.wr p) H _ := (F1.put m2 (o := .lst (rs.map V.ref ++ [V.ref r]))).put m3 (o := .lst (L.sides.map V.str ++ [V.str z]))
  refine k _ ⟨?_, ⟨ts, ?_, fr_th F4 hli hts⟩, ⟨rs ++ [r], ?_, pr_app (fr_ro F4 hli hrs) (.cons (fr_dk F4 hli hw) .nil)⟩, ?_, ⟨us, ?_, fr_un F4 hli hus⟩, L0.nd⟩ F4
  · rw [upd_ne n3, upd_ne n2, upd_ne n4]
    exact hins
  · rw [upd_ne n6, upd_ne n5, upd_ne n7]
    exact hth
  · rw [upd_ne n8, upd_same, List.map_append]
    rfl
  · rw [upd_same, List.map_append]
    rfl
  · rw [upd_ne n10.symm, upd_ne n9.symm, upd_same, List.dropLast_concat]
@[irreducible] def spHist (K : PySem.W.Frag) (C : Addr) : Sp := fun vs H Q _ => ∃ (p : Addr) (f : LFt) (L : LSt), vs = [.ref p] ∧ LedAt K C H p f L ∧ ∀ t, H t = none → Q (.ref t) (upd H t (.tup [.int (L.rows.length : Nat), .int (L.undone.length : Nat)]))
theorem ok_Ledger_history (T : Top K mg) : FnOk P w K mg base CX0 1 T.a_Ledger_history T.d_Ledger_history ["self"] (spHist K T.C_Ledger) := by
  refine T.F_Ledger_history.ok sc_Ledger_history (fun vs H Q E h => ?_) (fun cdv A outer s H vs Q E hr h => ?_)
  · unfold spHist at h
    obtain ⟨p, f, L, rfl, _⟩ := h
    rfl
  unfold spHist at h
  obtain ⟨p, f, L, rfl, L0, k⟩ := h
  have hcl := T.cl_Ledger
  have hn1 := T.n_Ledger__rows
  have hn2 := T.n_Ledger__undone
  have hins := L0.ins
  have hlk := f.lkR
  have hlku := f.lkU
  obtain ⟨rs, hro, hrs⟩ := L0.ro
  obtain ⟨us, hun, hus⟩ := L0.un
  have h1 := pr_len hrs
  have h2 := pr_len hus
  refine ⟨_, (pss_one (ps_ret (pe_tup (pa_cons (pe_callB call_len_seq (by rfl) T.z_len (by decide +kernel) (pa_cons (pe_fld (pv 0) rfl) pa_nil)) (pa_cons (pe_callB call_len_seq (by rfl) T.z_len (by decide +kernel) (pa_cons (pe_fld (pv 0) rfl) pa_nil)) pa_nil))))), ?_⟩
  sizeOf_list_dec
  rename_i t ft
  have := k t ft
  rw [← h1, ← h2] at this
  rw [List.length_map, List.length_map]
  exact this
@[irreducible] def spTwin (K : PySem.W.Frag) (C : Addr) : Sp := fun vs H Q _ => ∃ (p : Addr) (f : LFt) (L : LSt), vs = [.ref p] ∧ LedAt K C H p f L ∧ (∀ n ∈ L.things, ThV n) ∧ 1 ≤ L.things.length ∧ L.things.length ≤ 4 ∧ L.rows.length ≤ 1000 ∧ L.sides.length ≤ 1000 ∧ L.undone.length ≤ 1000 ∧
  ∀ (q : Addr) (f' : LFt) (H' : Hp), LedAt K C H' q f' L → Same H H' → (∀ x ∈ f'.all q, H x = none) → Q (.ref q) H'
theorem ok_Ledger_twin (T : Top K mg) : FnOk P w K mg base CX0 8 T.a_Ledger_twin T.d_Ledger_twin ["self"] (spTwin K T.C_Ledger) := by
  refine T.F_Ledger_twin.ok sc_Ledger_twin (fun vs H Q E h => ?_) (fun cdv A outer s H vs Q E hr h => ?_)
  · unfold spTwin at h
    obtain ⟨p, f, L, rfl, _⟩ := h
    rfl
  unfold spTwin at h
  obtain ⟨p, f, L, rfl, L0, hth, l1, l4, hr1, hr2, hr3, k⟩ := h
  have hcl := T.cl_Ledger
  have hn0 := T.n_Ledger__things
  have hn1 := T.n_Ledger__rows
  have hn2 := T.n_Ledger__undone
  have hn3 := T.n_Ledger__sides
  have hins := L0.ins
  have hlkt := f.lkT
  have hlk := f.lkR
  have hlku := f.lkU
  have hlks := f.lkS
  obtain ⟨ts, hts, htp⟩ := L0.th
  obtain ⟨rs, hro, hrs⟩ := L0.ro
  obtain ⟨us, hun, hus⟩ := L0.un
  have hsi := L0.si
  have h1 := pr_len hrs
  have h2 := pr_len hus
  have h3 := pr_len htp
  refine ⟨_, (pss_cons (ps_set (i := 1) sc_Ledger_twin.nd rfl (Or.inl rfl) (pe_makeS1 (mk_Ledger T) (ok_Ledger___init__ T) (hr.mono (by decide)) rfl T.mc_Ledger pass0 (pe_fld (pv 0) rfl)))
    (pss_cons (ps_fld (pv 1) (pe_callTy call_list_of (by rfl) T.z_list (by decide +kernel) (pa_cons (pe_fld (pv 0) rfl) pa_nil)) rfl)
    (pss_cons (ps_fld (pv 1) (pe_callTy call_list_of (by rfl) T.z_list (by decide +kernel) (pa_cons (pe_fld (pv 0) rfl) pa_nil)) rfl)
    (pss_cons (ps_fld (pv 1) (pe_callTy call_list_of (by rfl) T.z_list (by decide +kernel) (pa_cons (pe_fld (pv 0) rfl) pa_nil)) rfl)
    (pss_one (ps_ret (pv 1))))))), ?_⟩
  refine ⟨_, rfl, p, _, _, _, _, rfl, hins, hcl, hn0, hlkt, f.th, _, rfl, .inr (SqL.of hts), fun x dx fx fdx ne => ⟨[.ref x], ts.map V.ref, rfl, rfl, small (by rw [List.length_map]; omega), fun t ft => ?_⟩⟩
  refine made_led fx fdx ne ft htp hth l1 l4 fun f' H1 L1 s1 hf => ⟨rfl, ?_⟩
  have hins1 := L1.ins
  have hfs : ∀ g : LFt, g.fs.length < 1000 := fun g => by show 4 < 1000; decide
  refine ⟨_, rfl, p, _, _, _, _, rfl, s1 _ _ hins, hcl, hn1, hlk, f.ro, _, rfl, .inl (SqL.of (s1 _ _ hro)), fun a1 fa1 => ?_⟩
  have hx0 : H x = none := fx
  have sm : ∀ {G G' : Hp}, Same H G → Fr [x] G G' → Same H G' := fun a b c u q => b c u (a c u q) fun hm => by
    rw [List.mem_singleton.mp hm, hx0] at q
    cases q
  refine ⟨_, rfl, x, _, _, _, rfl, (same_new fa1 _) _ _ L1.ins, hcl, hn1, hfs _, ?_⟩
  rw [LFt.putR]
  have LR := L1.setR fa1 (rs := rs) (rows := L.rows) (prMp hrs fun _ _ q => q.mono s1)
  have sR := sm s1 (set_fr L1 fa1 (xs := rs.map V.ref) (fs := ({ f' with ro := a1 } : LFt).fs))
  have ha1 : H a1 = none := s1.free fa1
  generalize upd (upd H1 a1 (.lst (rs.map V.ref))) x (.ins T.C_Ledger f'.dx ({ f' with ro := a1 } : LFt).fs) = H2 at *
  refine ⟨_, rfl, p, _, _, _, _, rfl, sR _ _ hins, hcl, hn3, hlks, f.si, _, rfl, .inl (SqL.of (sR _ _ hsi)), fun a2 fa2 => ?_⟩
  refine ⟨_, rfl, x, _, _, _, rfl, (same_new fa2 _) _ _ LR.ins, hcl, hn3, hfs _, ?_⟩
  rw [LFt.putS]
  have LS := LR.setS fa2 (sides := L.sides)
  have sS := sm sR (set_fr LR fa2 (xs := L.sides.map V.str) (fs := ({ f' with ro := a1, si := a2 } : LFt).fs))
  have ha2 : H a2 = none := sR.free fa2
  generalize upd (upd H2 a2 (.lst (L.sides.map V.str))) x (.ins T.C_Ledger f'.dx ({ f' with ro := a1, si := a2 } : LFt).fs) = H3 at *
  refine ⟨_, rfl, p, _, _, _, _, rfl, sS _ _ hins, hcl, hn2, hlku, f.un, _, rfl, .inl (SqL.of (sS _ _ hun)), fun a3 fa3 => ?_⟩
  refine ⟨_, rfl, x, _, _, _, rfl, (same_new fa3 _) _ _ LS.ins, hcl, hn2, hfs _, ?_⟩
  rw [LFt.putU]
  have LU := LS.setU fa3 (us := us) (und := L.undone) (prMp hus fun _ _ q => q.mono sS)
  have sU := sm sS (set_fr LS fa3 (xs := us.map V.ref) (fs := ({ f' with ro := a1, si := a2, un := a3 } : LFt).fs))
  have ha3 : H a3 = none := sS.free fa3
  refine ⟨_, rfl, k x { f' with ro := a1, si := a2, un := a3 } _ LU sU fun y hy => ?_⟩
  simp only [LFt.all, List.mem_cons, List.not_mem_nil, or_false] at hy
  rcases hy with rfl | rfl | rfl | rfl | rfl
  · exact hx0
  · exact hf _ (by simp [LFt.all])
  · exact ha1
  · exact ha2
  · exact ha3
/-- what == of two ledgers tells, as far as it is asked -/
def eqL (L L' : LSt) (b : Bool) : Prop := (L.things ≠ L'.things ∧ b = false) ∨ (L.things = L'.things ∧ L.rows.length ≠ L'.rows.length ∧ b = false) ∨ (L.things = L'.things ∧ L.rows = L'.rows ∧ b = decide (L.sides = L'.sides))
@[irreducible] def spEqG (K : PySem.W.Frag) (C : Addr) : Sp := fun vs H Q _ => (∃ (p q : Addr) (f f' : LFt) (L L' : LSt) (b : Bool), vs = [.ref p, .ref q] ∧ LedAt K C H p f L ∧ LedAt K C H q f' L' ∧ LGood L ∧ LGood L' ∧ eqL L L' b ∧ Q (.bl b) H) ∨
  ∃ (p t : Addr) (xs : List V), vs = [.ref p, .ref t] ∧ SqL K H t xs ∧ Q (.bl false) H
theorem ok_Ledger___eq__ (T : Top K mg) : FnOk P w K mg base CX0 1 T.a_Ledger___eq__ T.d_Ledger___eq__ ["self", "other"] (spEqG K T.C_Ledger) := by
  refine T.F_Ledger___eq__.ok sc_Ledger___eq__ (fun vs H Q E h => ?_) (fun cdv A outer s H vs Q E hr h => ?_)
  · unfold spEqG at h
    obtain ⟨p, q, f, f', L, L', b, rfl, _⟩ | ⟨p, t, xs, rfl, _⟩ := h
    · rfl
    · rfl
  unfold spEqG at h
  obtain ⟨p, q, f, f', L, L', b, rfl, L0, M0, g, g', hb, k⟩ | ⟨p, t, xs, rfl, ht, k⟩ := h
  rotate_left
  · refine ⟨_, (pss_one (ps_ret (pe_and (pe_callB call_isi (by rfl) T.z_isinstance (by decide +kernel) (pa_cons (pv 1) (pa_cons (pe_glob (v := .ref T.C_Ledger) rfl T.mc_Ledger rfl) pa_nil))) (pe_and (pe_cmpR (op_eqD hr.units) (pe_fld (pv 0) rfl) (pe_fld (pv 1) rfl) (nomark _)) (pe_and (pe_cmpR (op_eqL hr.units) (pe_fld (pv 0) rfl) (pe_fld (pv 1) rfl) (nomark _)) (pe_one (pe_cmpR (op_eqD hr.units) (pe_fld (pv 0) rfl) (pe_fld (pv 1) rfl) (nomark _)))))))), ?_⟩
    refine ⟨_, rfl, _, _, _, _, _, rfl, .own _, tyL ht, own_kit T.ob_Ledger (by decide), _, rfl, iteF ?_⟩
    exact k
  have hcl := T.cl_Ledger
  have hn1 := T.n_Ledger__things
  have hn2 := T.n_Ledger__rows
  have hn3 := T.n_Ledger__sides
  refine ⟨_, (pss_one (ps_ret (pe_and (pe_callB call_isi (by rfl) T.z_isinstance (by decide +kernel) (pa_cons (pv 1) (pa_cons (pe_glob (v := .ref T.C_Ledger) rfl T.mc_Ledger rfl) pa_nil))) (pe_and (pe_cmpR (op_eqD hr.units) (pe_fld (pv 0) rfl) (pe_fld (pv 1) rfl) (nomark _)) (pe_and (pe_cmpR (op_eqL hr.units) (pe_fld (pv 0) rfl) (pe_fld (pv 1) rfl) (nomark _)) (pe_one (pe_cmpR (op_eqD hr.units) (pe_fld (pv 0) rfl) (pe_fld (pv 1) rfl) (nomark _)))))))), ?_⟩
  obtain ⟨ts, hth, hts⟩ := L0.th
  obtain ⟨ts', hth', hts'⟩ := M0.th
  obtain ⟨rs, hrs, hrp⟩ := L0.ro
  obtain ⟨rs', hrs', hrp'⟩ := M0.ro
  refine ⟨_, rfl, _, _, _, _, _, rfl, .own _, ty_own T.is_Ledger M0.ins, T.is_Ledger.me, _, rfl, iteT ?_⟩
  refine ⟨_, rfl, p, _, _, _, _, rfl, L0.ins, hcl, hn1, f.lkT, _, rfl, q, _, _, _, _, rfl, M0.ins, hcl, hn1, f'.lkT, ?_⟩
  refine ⟨_, _, dp_th (SqL.of hth) hts, dp_th (SqL.of hth') hts', shaped_th fun th ht z hz => okS_name ((g.th th ht).nm z hz), shaped_th fun th ht z hz => okS_name ((g'.th th ht).nm z hz), _, rfl, ?_⟩
  rw [eqv_th]
  rcases hb with ⟨h1, rfl⟩ | ⟨h1, h2, rfl⟩ | ⟨h1, h2, rfl⟩
  · rw [decide_eq_false h1]
    exact iteF k
  · rw [decide_eq_true h1]
    refine iteT ?_
    refine ⟨_, rfl, p, _, _, _, _, rfl, L0.ins, hcl, hn2, f.lkR, _, rfl, q, _, _, _, _, rfl, M0.ins, hcl, hn2, f'.lkR, ?_⟩
    unfold rEqL
    refine .inr ⟨_, _, _, _, rfl, rfl, SqL.of hrs, SqL.of hrs', by rw [List.length_map, List.length_map, pr_len hrp, pr_len hrp']; exact h2, _, rfl, iteF k⟩
  · rw [decide_eq_true h1]
    refine iteT ?_
    rw [← h2] at hrp'
    refine ⟨_, rfl, p, _, _, _, _, rfl, L0.ins, hcl, hn2, f.lkR, _, rfl, q, _, _, _, _, rfl, M0.ins, hcl, hn2, f'.lkR, ?_⟩
    unfold rEqL
    refine .inl ⟨3, by decide, rows_eq (SqL.of hrs) (SqL.of hrs') hrp hrp' (fun w hw => (g.ro w hw).2), _, rfl, iteT ?_⟩
    refine ⟨_, rfl, p, _, _, _, _, rfl, L0.ins, hcl, hn3, f.lkS, _, rfl, q, _, _, _, _, rfl, M0.ins, hcl, hn3, f'.lkS, ?_⟩
    refine ⟨_, _, dp_si (SqL.of L0.si), dp_si (SqL.of M0.si), shaped_si fun z hz => okS_lot (g.si z hz), shaped_si fun z hz => okS_lot (g'.si z hz), ?_⟩
    rw [eqv_si]
    exact k
theorem eq_led (T : Top K mg) {H : Hp} {p q : Addr} {f f' : LFt} {L L' : LSt} {b : Bool} {Q : VK} {E : XK} (A : LedAt K T.C_Ledger H p f L) (B : LedAt K T.C_Ledger H q f' L') (g : LGood L) (g' : LGood L') (hb : eqL L L' b) (k : Q (.bl b) H) : rOwnI K T.C_Ledger (spEqG K T.C_Ledger) E (.ref p) (.ref q) H Q := by
  unfold rOwnI spEqG
  exact ⟨p, _, _, _, rfl, A.ins, ty_own T.is_Ledger B.ins, own_me T.ob_Ledger, .inl ⟨p, q, f, f', L, L', b, rfl, A, B, g, g', hb, k⟩⟩
theorem undo_go {T : Top K mg} {p : Addr} {f : LFt} {L : LSt} {R : List Row} {S : List Str} {w : Row} {z : Str} {H : Hp} {Q : VK} {E : XK} (L0 : LedAt K T.C_Ledger H p f L) (h1 : L.rows = R ++ [w]) (h2 : L.sides = S ++ [z]) (h3 : L.undone.length ≤ 1000) (k : ∀ (H' : Hp), LedAt K T.C_Ledger H' p f ⟨L.things, R, S, L.undone ++ [(w, z)]⟩ → Fr (f.wr p) H H' → Q .non H') : spUndo T [.ref p] H Q E := by
  unfold spUndo
  exact ⟨p, f, L, rfl, L0, .inl ⟨R, S, w, z, h1, h2, h3, k⟩⟩
theorem redo_go {T : Top K mg} {p : Addr} {f : LFt} {L : LSt} {U : List (Row × Str)} {w : Row} {z : Str} {H : Hp} {Q : VK} {E : XK} (L0 : LedAt K T.C_Ledger H p f L) (h1 : L.undone = U ++ [(w, z)]) (h2 : L.rows.length ≤ 1000) (h3 : L.sides.length ≤ 1000) (k : ∀ (H' : Hp), LedAt K T.C_Ledger H' p f ⟨L.things, L.rows ++ [w], L.sides ++ [z], U⟩ → Fr (f.wr p) H H' → Q .non H') : spRedo T [.ref p] H Q E := by
  unfold spRedo
  exact ⟨p, f, L, rfl, L0, .inl ⟨U, w, z, h1, h2, h3, k⟩⟩
theorem undo_no {T : Top K mg} {p : Addr} {f : LFt} {L : LSt} {H : Hp} {Q : VK} {E : XK} (L0 : LedAt K T.C_Ledger H p f L) (h1 : L.rows = []) (k : ∀ cls e H', Rsd K T.C_LotsError T.C_Missing T.C_NothingLeft H' cls e ("NothingLeft", []) [] → Same H H' → E cls e H') : spUndo T [.ref p] H Q E := by
  unfold spUndo
  exact ⟨p, f, L, rfl, L0, .inr ⟨h1, k⟩⟩
theorem redo_no {T : Top K mg} {p : Addr} {f : LFt} {L : LSt} {H : Hp} {Q : VK} {E : XK} (L0 : LedAt K T.C_Ledger H p f L) (h1 : L.undone = []) (k : ∀ cls e H', Rsd K T.C_LotsError T.C_Missing T.C_NothingLeft H' cls e ("NothingLeft", []) [] → Same H H' → E cls e H') : spRedo T [.ref p] H Q E := by
  unfold spRedo
  exact ⟨p, f, L, rfl, L0, .inr ⟨h1, k⟩⟩
theorem hist_go {C p : Addr} {f : LFt} {L : LSt} {H : Hp} {Q : VK} {E : XK} (L0 : LedAt K C H p f L) (k : ∀ t, H t = none → Q (.ref t) (upd H t (.tup [.int (L.rows.length : Nat), .int (L.undone.length : Nat)]))) : spHist K C [.ref p] H Q E := by
  unfold spHist
  exact ⟨p, f, L, rfl, L0, k⟩
theorem twin_go {C p : Addr} {f : LFt} {L : LSt} {H : Hp} {Q : VK} {E : XK} (L0 : LedAt K C H p f L) (g : LGood L) (h1 : 1 ≤ L.things.length) (hu : L.undone.length ≤ 1000) (k : ∀ (q : Addr) (f' : LFt) (H' : Hp), LedAt K C H' q f' L → Same H H' → (∀ x ∈ f'.all q, H x = none) → Q (.ref q) H') : spTwin K C [.ref p] H Q E := by
  unfold spTwin
  have := g.mx
  have := g.ln
  exact ⟨p, f, L, rfl, L0, g.th, h1, g.t4, by omega, by omega, hu, k⟩
theorem lgroup_go {C p : Addr} {n : Nat} {f : LFt} {L : LSt} {H : Hp} {Q : VK} {E : XK} (L0 : LedAt K C H p f L) (g : LGood L) (hn : n < L.rows.length) (k : ∀ (ns : List Nat) (a : Addr) (H' : Hp), GrpOf (msOf L) n ns → H a = none → H' a = some (.lst (intL ns)) → Same H H' → Q (.ref a) H') : spLGroup P w K C [.ref p, .int ((n : Nat) : Int)] H Q E := by
  unfold spLGroup
  exact ⟨p, f, L, n, rfl, L0, g, hn, k⟩
theorem lchain_go {C p : Addr} {n t : Nat} {f : LFt} {L : LSt} {H : Hp} {Q : VK} {E : XK} (L0 : LedAt K C H p f L) (g : LGood L) (hn : n < L.rows.length) (ht : t < L.rows.length)
    (k : (lookN (bfs (msOf L) t) n = none ∧ ∀ H', Same H H' → Q .non H') ∨ (n = t ∧ ∀ (a : Addr) (H' : Hp), H a = none → H' a = some (.lst (intL [n])) → Same H H' → Q (.ref a) H')) : spLChain P w K C [.ref p, .int ((n : Nat) : Int), .int ((t : Nat) : Int)] H Q E := by
  unfold spLChain
  exact ⟨p, f, L, n, t, rfl, L0, g, hn, ht, k⟩
end
end Bl

namespace Bl
open PySem L2
open SX (S)
/-! short words: array_get_dec closes a side condition; array_mem_dec goes one step into a reading; sizeOf_list_dec goes on while it can -/
local macro_rules | `(tactic| array_get_dec) => `(tactic| first
  | (with_reducible assumption)
  | ((with_reducible apply Bl.gEq); first
    | rfl
    | assumption
    | exact upd_same
    | (with_reducible exact kit_d some_str)
    | (with_reducible exact kit_d some_int)
    | (with_reducible exact kit_d some_bool)
    | (with_reducible exact kit_d some_list)
    | (with_reducible exact kit_d some_tuple)
    | ((with_reducible apply Bl.get_new); assumption; array_get_dec)
    | ((with_reducible apply Bl.get_tr); assumption; array_get_dec)
    )
  | ((with_reducible apply Bl.gLe); first
    | omega
    | exact small (by omega)
    | exact small (by simp only [List.length_cons, List.length_nil]; decide)
    | exact small (by simp only [List.length_append, List.length_cons, List.length_nil]; omega)
    | decide)
  | ((with_reducible apply Bl.gLt); first
    | omega
    | exact small' (by omega)
    | exact small' (by simp only [List.length_cons, List.length_nil]; decide)
    | decide)
  | ((fail_if_success (with_reducible apply Bl.gEq)); (fail_if_success (with_reducible apply Bl.gLe)); (fail_if_success (with_reducible apply Bl.gLt)); first
    | assumption
    | exact SqL.of upd_same
    | exact SqT.of upd_same
    | ((with_reducible apply SqL.of); assumption)
    | ((with_reducible apply SqT.of); assumption)
    | exact Same.refl _
    | exact .ty _
    | exact .str _
    | exact .int _
    | exact ⟨_, rfl⟩
    | ((with_reducible apply Dp.ty); assumption)
    | ((with_reducible apply Bl.seq_new); assumption; array_get_dec)
    | ((with_reducible apply Bl.tup_new); assumption; array_get_dec)
    | ((with_reducible apply Bl.dp_new); assumption; array_get_dec)
    | ((with_reducible apply Bl.dpa_new); assumption; array_get_dec)
    | ((with_reducible apply Bl.same_nw); assumption; array_get_dec)
    | ((with_reducible apply Bl.seq_tr); assumption; array_get_dec)
    | ((with_reducible apply Bl.tup_tr); assumption; array_get_dec)
    | ((with_reducible apply Bl.dp_tr); assumption; array_get_dec)
    | ((with_reducible apply Bl.dpa_tr); assumption; array_get_dec)
    | ((with_reducible apply Bl.same_tr); assumption; array_get_dec)
    | ((with_reducible apply Dp.ty); assumption)
    | ((with_reducible apply Dp.ty); array_get_dec)
    | ((with_reducible refine Or.inl ?_); array_get_dec)
    | ((with_reducible refine Or.inr ?_); array_get_dec)
    | ((with_reducible apply Bl.gEx); array_get_dec)))
local macro_rules | `(tactic| array_mem_dec) => `(tactic| first
  | ((with_reducible apply Bl.gIte); first
    | (refine Bl.gT (by rfl) ?_)
    | (refine Bl.gF (by rfl) ?_))
  | ((fail_if_success (with_reducible apply Bl.gIte)); (fail_if_success (with_reducible apply Bl.gLoop)); (fail_if_success (with_reducible apply Bl.gComp)); (fail_if_success (with_reducible apply Bl.gWhile)); first
    | (with_reducible intro _ _)
    | (with_reducible intro _)
    | (refine And.intro (by array_get_dec) ?_)
    | (apply Bl.gEx)
    | (refine Or.inl (And.intro (by array_get_dec) ?_))
    | (refine Or.inr (And.intro (by array_get_dec) ?_))
    | (refine Or.inl ⟨_, by array_get_dec, ?_⟩)
    | (refine Or.inr ⟨_, by array_get_dec, ?_⟩)
    ))
local macro_rules | `(tactic| sizeOf_list_dec) => `(tactic| repeat array_mem_dec)

abbrev n_ledger_is : List Str := ["_law_made", "_law_rows", "_law_undone", "_law_lots", "_law_many", "_law_judge", "_law_told", "_law_text_z", "_law_row", "_law_lot", "_law_k"]
theorem sc_ledger_is : FnScope n_ledger_is ["_law_made", "_law_rows", "_law_undone"] (defScope s_ledger_is) := ⟨rfl, rfl, rfl, by decide +kernel, rfl, by decide +kernel, by decide +kernel⟩
theorem vals_non {ds : List Value} (h : Vals [V.non] ds) : ds = [Value.none] := by
  cases h with
  | cons a k =>
    cases k
    rw [show _ = Value.none from a]
theorem bd_Ledger_add {K : PySem.W.Frag} {mg : Str → Option Value} (T : Top K mg) : Binds K T.d_Ledger_add ["self", "row", "side"] [Value.none] := by
  obtain ⟨ds, r, b⟩ := T.fd_add.binds0 (ps := ["self", "row", "side"]) 2 (by simp) rfl fun D doc pm an cdv ct us ks h1 h2 => by
    match us, ks, h1, h2 with
    | [a, b], [c], _, _ => exact ⟨_, _, _, _, _, _, rfl, rfl, rfl⟩
  rw [vals_non r] at b
  exact b
@[irreducible] def spLIs (K : PySem.W.Frag) (C : Addr) : Sp := fun vs H Q _ => ∃ (p t : Addr) (u : Nat) (f : LFt) (L : LSt) (rws : List (Row × Str)), vs = [.ref p, .ref t, .int ((u : Nat) : Int)] ∧ LedAt K C H p f L ∧ LGood L ∧ L.rows = rws.map (·.1) ∧ L.sides = rws.map (·.2) ∧ L.undone.length = u ∧ RowsAt K H t rws ∧ ∀ H', Same H H' → Q (.bl true) H'
theorem fits_six {a b c e f : Int} {d : PyData} {z : Str} (hd : Fits 5 d) : Fits 8 (.list [.int a, .tuple [.int b, .int c], .int e, .int f, d, .str z]) := by
  refine ⟨by show 6 < 1000000; decide, fun x hx => ?_⟩
  rcases List.mem_cons.mp hx with rfl | hx
  · exact True.intro
  rcases List.mem_cons.mp hx with rfl | hx
  · refine ⟨by show 2 < 1000000; decide, fun y hy => ?_⟩
    rcases List.mem_cons.mp hy with rfl | hy
    · exact True.intro
    · rw [List.mem_singleton.mp hy]
      exact True.intro
  rcases List.mem_cons.mp hx with rfl | hx
  · exact True.intro
  rcases List.mem_cons.mp hx with rfl | hx
  · exact True.intro
  rcases List.mem_cons.mp hx with rfl | hx
  · exact hd.up.up
  · rw [List.mem_singleton.mp hx]
    exact True.intro
theorem srt_len {r : Row} : (srtOf r).length ≤ r.length := by
  unfold srtOf
  split
  · rename_i h
    rw [h.choose_spec.st.perm.length_eq]
    exact Nat.le_refl _
  · exact Nat.zero_le _
noncomputable def rowT (x : Row × Str) : PyData := .tuple [rowD (srtOf x.1), .str x.2]
section
variable {P : Program} {w : World} {K : PySem.W.Frag} {mg : Str → Option Value} {base : Heap}
theorem ok_ledger_is (T : Top K mg) : FnOk P w K mg base CX0 9 T.a_ledger_is T.d_ledger_is ["_law_made", "_law_rows", "_law_undone"] (spLIs K T.C_Ledger) := by
  refine T.F_ledger_is.ok sc_ledger_is (fun vs H Q E h => ?_) (fun cdv A outer s H vs Q E hr h => ?_)
  · unfold spLIs at h
    obtain ⟨p, t, u, f, L, rws, rfl, _⟩ := h
    rfl
  unfold spLIs at h
  obtain ⟨p, t, u, f, L, rws, rfl, L0, g, hR, hS, hU, hrw, k⟩ := h
  have hcl := T.cl_Ledger
  have hins := L0.ins
  have hlh : f.fs.lookup ("history" : Str) = none := LFt.lkN (by decide +kernel)
  have hlt : f.fs.lookup ("tally" : Str) = none := LFt.lkN (by decide +kernel)
  have hlw : f.fs.lookup ("walk" : Str) = none := LFt.lkN (by decide +kernel)
  have hls : f.fs.lookup ("side" : Str) = none := LFt.lkN (by decide +kernel)
  have hlr : f.fs.lookup ("row" : Str) = none := LFt.lkN (by decide +kernel)
  obtain ⟨us, hus, hups⟩ := hrw.ex
  have hul := pr_len hups
  have hmx := g.mx
  have hrl : rws.length ≤ 200 := by
    rw [hR, List.length_map] at hmx
    exact hmx
  refine ⟨_, (pss_cons (ps_set (i := 3) sc_ledger_is.nd rfl (Or.inr rfl) (pe_lc (own := [("_law_row", 8), ("_law_lot", 9)]) (g := gTup K 2 (gCons (gName 8) (gCons (gName 9) gNil))) (tt := tYes) rfl sc_ledger_is.nd (pi_list (pv 1)) (blkOk_by (own := [("_law_row", 8), ("_law_lot", 9)]) (N := n_ledger_is) (sc := defScope s_ledger_is) (by decide +kernel)) (fun _ _ _ _ _ => by exact (pg_tup rfl (pgs_cons (pg_name (i := 8) sc_ledger_is.nd rfl (Or.inl rfl)) (pgs_cons (pg_name (i := 9) sc_ledger_is.nd rfl (Or.inl rfl)) pgs_nil)))) (fun _ _ _ _ _ => pts_nil) (fun _ _ _ _ _ => (pv 9))))
    (pss_cons (ps_par (i := 4) (j := 5) (by rfl) sc_ledger_is.nd rfl rfl (by decide) rfl rfl (pa_cons (pe_bm PySem.F.plainAttrs_list PySem.F.slot_list_count PySem.F.type_list_count mt_lcountS (pv 3) (pa_cons pe_str pa_nil)) (pa_cons (pe_lc (own := [("_law_k", 10)]) (g := gName 10) rfl sc_ledger_is.nd (pi_range1 (by rfl) T.z_range (pa_cons (pe_callB call_len_seq (by rfl) T.z_len (by decide +kernel) (pa_cons (pv 3) pa_nil)) pa_nil)) (blkOk_by (own := [("_law_k", 10)]) (N := n_ledger_is) (sc := defScope s_ledger_is) (by decide +kernel)) (fun _ _ _ _ _ => (pg_name (i := 10) sc_ledger_is.nd rfl (Or.inl rfl))) (fun _ _ _ _ _ => (pts_one (pt_cmpR op_eq (pe_ix (r := rIxL K) ix_list (pv 3) (pv 10) (fun _ _ => rfl)) pe_str (nomark _)))) (fun _ _ _ _ _ => (pv 10))) pa_nil)) (by rfl))
    (pss_cons (ps_set (i := 6) sc_ledger_is.nd rfl (Or.inl rfl) (pe_lst (pa_cons (pe_callB (call_lenO T.M_Ledger___len__.at_ T.M_Ledger___len__.fn (ok_Ledger___len__ T) (hr.mono (by decide)) T.b_Ledger___len__ pass0) (by rfl) T.z_len (by decide +kernel) (pa_cons (pv 0) pa_nil)) (pa_cons (pe_meth0 (pv 0) T.cl_Ledger T.M_Ledger_history (ok_Ledger_history T) (hr.mono (by decide)) T.b_Ledger_history .nil pass0) (pa_cons (pe_meth (pv 0) T.cl_Ledger T.M_Ledger_tally (ok_Ledger_tally T) (hr.mono (by decide)) T.b_Ledger_tally .nil pass0 (pa_cons pe_str pa_nil)) (pa_cons (pe_meth (pv 0) T.cl_Ledger T.M_Ledger_tally (ok_Ledger_tally T) (hr.mono (by decide)) T.b_Ledger_tally .nil pass0 (pa_cons pe_str pa_nil)) (pa_cons (pe_listG (pgen_meth (pv 0) T.cl_Ledger T.M_Ledger_walk (okg_walk T) (hr.mono (by decide)) T.b_Ledger_walk .nil (pa_cons pe_str pa_nil)) pass0X nostop0 (hr.mono (by decide)) (by rfl) T.z_list (by decide +kernel)) (pa_cons (pe_callB (call_reprO T.M_Ledger___repr__.at_ T.M_Ledger___repr__.fn (ok_Ledger___repr__ T) (hr.mono (by decide)) T.b_Ledger___repr__ pass0) (by rfl) T.z_repr (by decide +kernel) (pa_cons (pv 0) pa_nil)) pa_nil))))))))
    (pss_cons (ps_set (i := 7) sc_ledger_is.nd rfl (Or.inl rfl) (pe_op op_add_str (pe_op op_add_str (pe_op op_add_str (pe_op op_add_str pe_str (pe_callTy call_str_int (by rfl) T.z_str (by decide +kernel) (pa_cons (pv 4) pa_nil))) pe_str) (pe_callTy call_str_int (by rfl) T.z_str (by decide +kernel) (pa_cons (pe_callB call_len_seq (by rfl) T.z_len (by decide +kernel) (pa_cons (pv 5) pa_nil)) pa_nil))) pe_str))
    (pss_cons (ps_if (pt_not (pt_val (pe_call (ok_same T 8) (hr.mono (by decide)) rfl T.m_same T.F_same.kp T.b_same .nil pass0 (pa_cons (pv 6) (pa_cons (pe_lst (pa_cons (pe_callB call_len_seq (by rfl) T.z_len (by decide +kernel) (pa_cons (pv 1) pa_nil)) (pa_cons (pe_tup (pa_cons (pe_callB call_len_seq (by rfl) T.z_len (by decide +kernel) (pa_cons (pv 1) pa_nil)) (pa_cons (pv 2) pa_nil))) (pa_cons (pv 4) (pa_cons (pe_callB call_len_seq (by rfl) T.z_len (by decide +kernel) (pa_cons (pv 5) pa_nil)) (pa_cons (pv 5) (pa_cons (pv 7) pa_nil))))))) pa_nil))))) (pss_one (ps_ret pe_bl)) pss_nil)
    (pss_one (ps_ret (pe_call (ok_same T 8) (hr.mono (by decide)) rfl T.m_same T.F_same.kp T.b_same .nil pass0 (pa_cons (pe_lc (own := [("_law_k", 10)]) (g := gName 10) (tt := tYes) rfl sc_ledger_is.nd (pi_range1 (by rfl) T.z_range (pa_cons (pe_callB call_len_seq (by rfl) T.z_len (by decide +kernel) (pa_cons (pv 1) pa_nil)) pa_nil)) (blkOk_by (own := [("_law_k", 10)]) (N := n_ledger_is) (sc := defScope s_ledger_is) (by decide +kernel)) (fun _ _ _ _ _ => (pg_name (i := 10) sc_ledger_is.nd rfl (Or.inl rfl))) (fun _ _ _ _ _ => pts_nil) (fun _ _ _ _ _ => (pe_tup (pa_cons (pe_callB (r := rSortKV K) cr_sortedKV (by rfl) T.z_sorted (by decide +kernel) (pa_cons (LiI.pe_listItems rfl (pe_meth (pv 0) T.cl_Ledger T.M_Ledger_row (ok_Ledger_row T) (hr.mono (by decide)) T.b_Ledger_row .nil pass0 (pa_cons (pv 10) pa_nil)) (by rfl) T.z_list (by decide +kernel)) pa_nil)) (pa_cons (pe_meth (pv 0) T.cl_Ledger T.M_Ledger_side (ok_Ledger_side T) (hr.mono (by decide)) T.b_Ledger_side .nil pass0 (pa_cons (pv 10) pa_nil)) pa_nil))))) (pa_cons (pe_lc (own := [("_law_row", 8), ("_law_lot", 9)]) (g := gTup K 2 (gCons (gName 8) (gCons (gName 9) gNil))) (tt := tYes) rfl sc_ledger_is.nd (pi_list (pv 1)) (blkOk_by (own := [("_law_row", 8), ("_law_lot", 9)]) (N := n_ledger_is) (sc := defScope s_ledger_is) (by decide +kernel)) (fun _ _ _ _ _ => by exact (pg_tup rfl (pgs_cons (pg_name (i := 8) sc_ledger_is.nd rfl (Or.inl rfl)) (pgs_cons (pg_name (i := 9) sc_ledger_is.nd rfl (Or.inl rfl)) pgs_nil)))) (fun _ _ _ _ _ => pts_nil) (fun _ _ _ _ _ => (pe_tup (pa_cons (pe_callB (r := rSortKV K) cr_sortedKV (by rfl) T.z_sorted (by decide +kernel) (pa_cons (LiI.pe_listItems rfl (pv 8) (by rfl) T.z_list (by decide +kernel)) pa_nil)) (pa_cons (pv 9) pa_nil))))) pa_nil)))))))))), ?_⟩
  sizeOf_list_dec
  rename_i DL fDL
  have sDL := same_new fDL (.lst [])
  refine lc_list (K := K) (a := t) (xs := us.map V.ref) (fun i Hx => Hold (Same H Hx ∧ Hx DL = some (.lst (((rws.map (·.2)).take i).map V.str)))) ⟨sDL, upd_same⟩ (fun i Hx _ h => SqL.of (h.h.1 _ _ hus)) ?_ ?_
  · rintro i x Hx hi ⟨e, hD⟩
    obtain ⟨ui, hu1, rfl⟩ := ref_get hi
    obtain ⟨x2, hx2, rr, hu2, hu3⟩ := pr_get hups hu1
    have huj : SqT K Hx ui [.ref rr, .str x2.2] := Same.tup e hu2
    sizeOf_list_dec
    refine ⟨?_, ⟨Same.mut e fDL _, ?_⟩⟩
    · rw [List.length_map, List.length_take, List.length_map]
      exact small' (by omega)
    · rw [upd_same, List.take_add_one, List.getElem?_map, hx2, List.map_append]
      rfl
  rintro Hx ⟨ex, hDL⟩
  have hSl : L.sides.length = rws.length := by rw [hS, List.length_map]
  rw [← hS, List.length_map, hul, ← hSl, List.take_length] at hDL
  have hlrn : ([.str "learn"] : List V) = [.str "learn"] := rfl
  refine ⟨_, rfl, .inl ⟨rfl, _, SqL.of hDL⟩, ?_⟩
  sizeOf_list_dec
  have hll : (((L.sides.map V.str).length : Nat) : Int).toNat = L.sides.length := by rw [Int.toNat_natCast, List.length_map]
  refine ⟨by rw [List.length_map, hSl]; omega, fun DJ fDJ => ?_⟩
  have sDJ := same_new fDJ (.lst [])
  refine lc_range (lo := 0) (n := (((L.sides.map V.str).length : Nat) : Int).toNat) (fun j Hy => Hold (Same Hx Hy ∧ Hy DJ = some (.lst ((inLot L.sides "judge" ((List.range L.sides.length).take j)).map fun n => V.int (n : Nat))))) ⟨sDJ, upd_same⟩ ?_ ?_
  · rintro j Hy hj ⟨e, hD⟩
    rw [hll] at hj
    have hDLy := e _ _ hDL
    have hj2 : L.sides[j]? = some L.sides[j] := List.getElem?_eq_getElem hj
    have hat : atI (L.sides.map V.str) ((j : Nat) : Int) = some (.str L.sides[j]) := atI_nat (by rw [List.getElem?_map, hj2]; rfl)
    have hst := inLot_step (sides := L.sides) (z := "judge") (is := List.range L.sides.length) (j := j) (n := j) (by rw [List.getElem?_range hj])
    rw [hj2] at hst
    rw [Int.zero_add]
    sizeOf_list_dec
    refine ite2 (fun hy => ?_) (fun hn => ?_)
    · have hy : L.sides[j] = "judge" := V.str.inj (of_decide_eq_true hy)
      rw [hy, decide_eq_true rfl, if_pos rfl] at hst
      refine ⟨_, rfl, _, hD, ?_, ⟨Same.mut e fDJ _, ?_⟩⟩
      · rw [List.length_map]
        have := inLot_len (sides := L.sides) (z := "judge") (is := (List.range L.sides.length).take j)
        rw [List.length_take] at this
        exact small' (by omega)
      · rw [upd_same, hst, List.map_append]
        rfl
    · have hn : ¬ (some L.sides[j] = some ("judge" : Str)) := fun q => hn (by rw [Option.some.inj q]; exact decide_eq_true rfl)
      rw [decide_eq_false hn, if_neg (fun q => by cases q), List.append_nil] at hst
      refine ⟨e, ?_⟩
      rw [hst]
      exact hD
  rintro Hy ⟨ey, hDJ⟩
  rw [hll, List.take_of_length_le (by rw [List.length_range]; exact Nat.le_refl _)] at hDJ
  have hDJ : Hy DJ = some (.lst ((walkOf L.sides "judge").map fun n => V.int (n : Nat))) := hDJ
  have lcB : (walkOf L.sides ("judge" : Str)).length = L.sides.count ("judge" : Str) := inLot_count
  have c1 : L.sides.count ("learn" : Str) ≤ 200 := Nat.le_trans List.count_le_length (by omega)
  have c2 : (walkOf L.sides ("judge" : Str)).length ≤ 200 := by rw [lcB]; exact Nat.le_trans List.count_le_length (by omega)
  have e1 := ex.trans ey
  have hins1 := e1 _ _ hins
  have L1 := L0.mono e1
  clear hDL ey ex fDJ sDJ sDL fDL
  sizeOf_list_dec
  refine len_go L1 ⟨_, rfl, by omega, by omega, ?_⟩
  sizeOf_list_dec
  refine hist_go L1 fun th fth => ?_
  have sth := same_new fth (.tup [.int (L.rows.length : Nat), .int (L.undone.length : Nat)])
  have hth : upd Hy th (.tup [.int (L.rows.length : Nat), .int (L.undone.length : Nat)]) th = some (.tup [.int (L.rows.length : Nat), .int (L.undone.length : Nat)]) := upd_same
  have e2 := e1.trans sth
  have hins2 := e2 _ _ hins
  have L2 := L0.mono e2
  have hDJ2 := sth _ _ hDJ
  generalize upd Hy th (.tup [.int (L.rows.length : Nat), .int (L.undone.length : Nat)]) = H2 at *
  clear hDJ L1 hins1 e1 sth fth
  sizeOf_list_dec
  refine tally_go (by decide +kernel) L2 ?_
  sizeOf_list_dec
  refine tally_goT (by decide +kernel) L2 lcB.symm ?_
  sizeOf_list_dec
  refine walk_go (by decide +kernel) L2 (by omega) fun H3 e3 wl fwl => ?_
  have sw := e3.trans (same_new fwl (.lst ((walkOf L.sides "judge").map fun n => V.int (n : Nat))))
  have hwl : upd H3 wl (.lst ((walkOf L.sides "judge").map fun n => V.int (n : Nat))) wl = some (.lst ((walkOf L.sides "judge").map fun n => V.int (n : Nat))) := upd_same
  have hth3 := sw _ _ hth
  have hDJ3 := sw _ _ hDJ2
  have e4 := e2.trans sw
  have hins4 := e4 _ _ hins
  have L4 := L0.mono e4
  generalize upd H3 wl (.lst ((walkOf L.sides "judge").map fun n => V.int (n : Nat))) = H4 at *
  clear hDJ2 hth L2 hins2 e2 sw fwl e3
  obtain ⟨tx, htx⟩ : ∃ tx, ledTxt L.sides = tx := ⟨_, rfl⟩
  sizeOf_list_dec
  have k1 := few c1
  have k2 : ((((walkOf L.sides "judge").map fun n => V.int (n : Nat)).length : Nat) : Int).natAbs.log2 < 1920 := by rw [List.length_map]; exact few c2
  have t1 := PyProof.Rows.int_text_len_1921 k1
  have t2 := PyProof.Rows.int_text_len_1921 k2
  have l1' : ("Ledger(" : Str).length = 7 := by decide +kernel
  have l2' : (" learn, " : Str).length = 8 := by decide +kernel
  have l3' : (" judge)" : Str).length = 7 := by decide +kernel
  have hte := ledTxt_eq (ss := L.sides) rfl lcB.symm
  refine repr_goT L4 (by omega) htx ?_
  refine ⟨_, rfl, (by show 6 ≤ sizeLine; decide), fun tl ftl => ?_⟩
  have stl := same_new ftl (.lst [.int (L.rows.length : Nat), .ref th, .int (L.sides.count ("learn" : Str) : Nat), .int ((walkOf L.sides ("judge" : Str)).length : Nat), .ref wl, .str tx])
  have htl : upd H4 tl (.lst [.int (L.rows.length : Nat), .ref th, .int (L.sides.count ("learn" : Str) : Nat), .int ((walkOf L.sides ("judge" : Str)).length : Nat), .ref wl, .str tx]) tl = some (.lst [.int (L.rows.length : Nat), .ref th, .int (L.sides.count ("learn" : Str) : Nat), .int ((walkOf L.sides ("judge" : Str)).length : Nat), .ref wl, .str tx]) := upd_same
  have hth5 := stl _ _ hth3
  have hDJ5 := stl _ _ hDJ3
  have hwl5 := stl _ _ hwl
  have e5 := e4.trans stl
  have hus5 := e5 _ _ hus
  generalize upd H4 tl (.lst [.int (L.rows.length : Nat), .ref th, .int (L.sides.count ("learn" : Str) : Nat), .int ((walkOf L.sides ("judge" : Str)).length : Nat), .ref wl, .str tx]) = H5 at *
  clear hth3 hDJ3 hwl e4 hins4 L4 stl ftl
  sizeOf_list_dec
  refine ⟨small (by rw [strLen_append]; omega), ?_⟩
  sizeOf_list_dec
  refine ⟨small (by rw [strLen_append, strLen_append]; omega), ?_⟩
  sizeOf_list_dec
  refine ⟨small (by rw [strLen_append, strLen_append, strLen_append]; omega), ?_⟩
  rw [List.length_map (as := walkOf L.sides "judge"), ← hte, htx]
  sizeOf_list_dec
  rename_i y1 fy1 y2 fy2
  have sy1 := same_new fy1 (.tup [.int ((us.map V.ref).length : Nat), .int (u : Nat)])
  have sy2 := same_new fy2 (.lst [.int ((us.map V.ref).length : Nat), .ref y1, .int (L.sides.count ("learn" : Str) : Nat), .int (((walkOf L.sides "judge").map fun n => V.int (n : Nat)).length : Nat), .ref DJ, .str tx])
  have sy := sy1.trans sy2
  have hRl : L.rows.length = rws.length := by rw [hR, List.length_map]
  have q1 : (((us.map V.ref).length : Nat) : Int) = ((L.rows.length : Nat) : Int) := by rw [List.length_map, hul, hRl]
  have q2 : ((((walkOf L.sides "judge").map fun n => V.int (n : Nat)).length : Nat) : Int) = (((walkOf L.sides ("judge" : Str)).length : Nat) : Int) := by rw [List.length_map]
  refine ⟨.lst (SqL.of (sy _ _ htl)) (.cons (.int _) (.cons (.tup (SqT.of (sy _ _ hth5)) (.cons (.int _) (.cons (.int _) .nil))) (.cons (.int _) (.cons (.int _) (.cons (Dp.mono sy _ _ (dp_nats (SqL.of hwl5))) (.cons (.str _) .nil)))))),
    .lst (SqL.of upd_same) (.cons (dp_int q1) (.cons (.tup (SqT.of (sy2 _ _ upd_same)) (.cons (dp_int q1) (.cons (dp_int (by rw [hU])) .nil))) (.cons (.int _) (.cons (dp_int q2) (.cons (Dp.mono sy _ _ (dp_nats (SqL.of hDJ5))) (.cons (.str _) .nil)))))), fits_six (fits_nats (by omega)), fun H6 e6 => ?_⟩
  have e7 := e5.trans (sy.trans e6)
  have L7 := L0.mono e7
  have hus7 := e7 _ _ hus
  have hins7 := e7 _ _ hins
  clear hus5 hDJ5 hwl5 hth5 htl sy sy1 sy2 fy1 fy2 e5 e6
  have hn3 : (((us.map V.ref).length : Nat) : Int).toNat = rws.length := by rw [Int.toNat_natCast, List.length_map, hul]
  sizeOf_list_dec
  rename_i DA fDA
  have sDA := same_new fDA (.lst [])
  refine lc_range (lo := 0) (n := (((us.map V.ref).length : Nat) : Int).toNat) (fun j Hx => Hold (Same H6 Hx ∧ ∃ ts : List V, Hx DA = some (.lst ts) ∧ ts.length = j ∧ DpAll K (hide DA Hx) ts ((rws.take j).map rowT))) ⟨sDA, [], upd_same, rfl, .nil⟩ ?_ ?_
  · rintro j Hx hj ⟨e, ts, hD, htl, hdp⟩
    rw [hn3] at hj
    have hr1 : L.rows[j]? = some rws[j].1 := by rw [hR, List.getElem?_map, List.getElem?_eq_getElem hj]; rfl
    have hr2 : L.sides[j]? = some rws[j].2 := by rw [hS, List.getElem?_map, List.getElem?_eq_getElem hj]; rfl
    have hnd : (rws[j].1.map (·.1)).Nodup := (g.ro _ (List.mem_of_getElem? hr1)).2
    have hinsx := e _ _ hins7
    have Lx := L7.mono e
    rw [Int.zero_add]
    sizeOf_list_dec
    refine row_go Lx hr1 fun d H1 fd hd e1 => ?_
    refine items_go hd fun p4 ts4 H4 s4 hp4 pr4 => ?_
    refine sort_goF hp4 pr4 hnd fun p5 us5 zs5 H5 fp5 s5 so5 hp5 pr5 => ?_
    obtain rfl := srt_eq so5
    have ea := e1.trans (s4.trans s5)
    have L5 := Lx.mono ea
    have hins5 := L5.ins
    have hlen5 : L.sides.length = L.rows.length := g.ln
    sizeOf_list_dec
    refine side_go L5 hlen5 hr2 fun H8 e8 => ?_
    sizeOf_list_dec
    rename_i tp ftp
    have eb := ea.trans e8
    have stp := same_new ftp (.tup [.ref p5, .str rws[j].2])
    have ec := eb.trans stp
    have hDc := ec _ _ hD
    have np5 : p5 ≠ DA := (ne_of_none ((e1.trans s4) _ _ hD) fp5).symm
    have ntp : tp ≠ DA := (ne_of_none (eb _ _ hD) ftp).symm
    have s58 := e8.trans stp
    refine ⟨Same.mut (e.trans ec) fDA _, _, upd_same, by rw [List.length_append, htl]; rfl, ?_⟩
    rw [hide_upd, List.take_add_one, List.getElem?_eq_getElem hj, List.map_append]
    refine Bl.DpAll.app (DpAll.mono (hide_mono ec) _ _ hdp) (.cons (.tup (tup_hide hDc (SqT.of upd_same)) (.cons (.lst (SqL.of (by rw [hide_ne np5]; exact s58 _ _ hp5)) (dp_rows (prMp pr5 fun _ _ q => tup_hide hDc (Same.tup s58 q)))) (.cons (.str _) .nil))) .nil)
  rintro Hx ⟨e, ts, hD, htl, hdp⟩
  rw [hn3, List.take_length] at hdp
  have e9 := e7.trans e
  have hus9 := e9 _ _ hus
  have hdp0 : Dp K Hx (.ref DA) (.list (rws.map rowT)) := .lst (SqL.of hD) (DpAll.mono hide_le _ _ hdp)
  clear hD hdp
  sizeOf_list_dec
  rename_i DB fDB
  have sDB := same_new fDB (.lst [])
  refine lc_list (K := K) (a := t) (xs := us.map V.ref) (fun j Hy => Hold (Same Hx Hy ∧ ∃ ts : List V, Hy DB = some (.lst ts) ∧ ts.length = j ∧ DpAll K (hide DB Hy) ts ((rws.take j).map rowT))) ⟨sDB, [], upd_same, rfl, .nil⟩ (fun i Hy _ h => SqL.of (h.h.1 _ _ hus9)) ?_ ?_
  · rintro j x Hy hj ⟨ey, ts, hD, htl, hdp⟩
    obtain ⟨ui, hu1, rfl⟩ := ref_get hj
    obtain ⟨x2, hx2, rr, hu2, hu3⟩ := pr_get hups hu1
    have huj : SqT K Hy ui [.ref rr, .str x2.2] := Same.tup (e9.trans ey) hu2
    have hrr : Hy rr = some (.dK (rowK x2.1)) := (e9.trans ey) _ _ hu3
    have hjl : j < rws.length := (List.getElem?_eq_some_iff.mp hx2).1
    have hr1 : L.rows[j]? = some x2.1 := by rw [hR, List.getElem?_map, hx2]; rfl
    have hnd : (x2.1.map (·.1)).Nodup := (g.ro _ (List.mem_of_getElem? hr1)).2
    refine ⟨ui, _, rfl, huj, ?_⟩
    sizeOf_list_dec
    rename_i H4 p4 ts4 s4 fp4 ft4 np4 hp4 pr4
    have s4 : Same Hy H4 := s4
    refine sort_goF hp4 (itAt_of pr4) hnd fun p5 us5 zs5 H5 fp5 s5 so5 hp5 pr5 => ?_
    obtain rfl := srt_eq so5
    have ea := s4.trans s5
    sizeOf_list_dec
    rename_i tp ftp
    have stp := same_new ftp (.tup [.ref p5, .str x2.2])
    have ec := ea.trans stp
    have hDc := ec _ _ hD
    have np5 : p5 ≠ DB := (ne_of_none (s4 _ _ hD) fp5).symm
    refine ⟨Same.mut (ey.trans ec) fDB _, _, upd_same, by rw [List.length_append, htl]; rfl, ?_⟩
    rw [hide_upd, List.take_add_one, hx2, List.map_append]
    refine Bl.DpAll.app (DpAll.mono (hide_mono ec) _ _ hdp) (.cons (.tup (tup_hide hDc (SqT.of upd_same)) (.cons (.lst (SqL.of (by rw [hide_ne np5]; exact stp _ _ hp5)) (dp_rows (prMp pr5 fun _ _ q => tup_hide hDc (Same.tup stp q)))) (.cons (.str _) .nil))) .nil)
  rintro Hy ⟨ey, ts, hD, htl, hdp⟩
  rw [List.length_map, hul, List.take_length] at hdp
  have hdp1 : Dp K Hy (.ref DB) (.list (rws.map rowT)) := .lst (SqL.of hD) (DpAll.mono hide_le _ _ hdp)
  refine ⟨_, _, _, rfl, Dp.mono ey _ _ hdp0, hdp1, ?_, fun H9 e10 => k H9 (e9.trans (ey.trans e10))⟩
  refine ⟨by rw [List.length_map]; omega, fun d hd => ?_⟩
  obtain ⟨x, hx, rfl⟩ := List.mem_map.mp hd
  have hl : (srtOf x.1).length ≤ 1000 := by
    have hr : x.1 ∈ L.rows := by
      rw [hR]
      exact List.mem_map_of_mem hx
    exact Nat.le_trans (srt_len (r := x.1)) (by have := (g.ro _ hr).1.2; omega)
  unfold rowT
  refine ⟨by show 2 < 1000000; decide, fun d hd => ?_⟩
  rcases List.mem_cons.mp hd with rfl | hd
  · exact (fits_row (by omega)).up
  · rw [List.mem_singleton.mp hd]
    exact True.intro
end
end Bl

namespace Bl
open PySem L2
open SX (S)
/-! short words: array_get_dec closes a side condition; array_mem_dec goes one step into a reading; sizeOf_list_dec goes on while it can -/
local macro_rules | `(tactic| array_get_dec) => `(tactic| first
  | (with_reducible assumption)
  | ((with_reducible apply Bl.gEq); first
    | rfl
    | assumption
    | exact upd_same
    | (with_reducible exact kit_d some_str)
    | (with_reducible exact kit_d some_int)
    | (with_reducible exact kit_d some_bool)
    | (with_reducible exact kit_d some_list)
    | (with_reducible exact kit_d some_tuple)
    | ((with_reducible apply Bl.get_new); assumption; array_get_dec)
    | ((with_reducible apply Bl.get_tr); assumption; array_get_dec)
    )
  | ((with_reducible apply Bl.gLe); first
    | omega
    | exact small (by omega)
    | exact small (by simp only [List.length_cons, List.length_nil]; decide)
    | exact small (by simp only [List.length_append, List.length_cons, List.length_nil]; omega)
    | decide)
  | ((with_reducible apply Bl.gLt); first
    | omega
    | exact small' (by omega)
    | exact small' (by simp only [List.length_cons, List.length_nil]; decide)
    | decide)
  | ((fail_if_success (with_reducible apply Bl.gEq)); (fail_if_success (with_reducible apply Bl.gLe)); (fail_if_success (with_reducible apply Bl.gLt)); first
    | assumption
    | exact SqL.of upd_same
    | exact SqT.of upd_same
    | ((with_reducible apply SqL.of); assumption)
    | ((with_reducible apply SqT.of); assumption)
    | exact Same.refl _
    | exact .ty _
    | exact .str _
    | exact .int _
    | exact ⟨_, rfl⟩
    | ((with_reducible apply Dp.ty); assumption)
    | ((with_reducible apply Bl.seq_new); assumption; array_get_dec)
    | ((with_reducible apply Bl.tup_new); assumption; array_get_dec)
    | ((with_reducible apply Bl.dp_new); assumption; array_get_dec)
    | ((with_reducible apply Bl.dpa_new); assumption; array_get_dec)
    | ((with_reducible apply Bl.same_nw); assumption; array_get_dec)
    | ((with_reducible apply Bl.seq_tr); assumption; array_get_dec)
    | ((with_reducible apply Bl.tup_tr); assumption; array_get_dec)
    | ((with_reducible apply Bl.dp_tr); assumption; array_get_dec)
    | ((with_reducible apply Bl.dpa_tr); assumption; array_get_dec)
    | ((with_reducible apply Bl.same_tr); assumption; array_get_dec)
    | ((with_reducible apply Dp.ty); assumption)
    | ((with_reducible apply Dp.ty); array_get_dec)
    | ((with_reducible refine Or.inl ?_); array_get_dec)
    | ((with_reducible refine Or.inr ?_); array_get_dec)
    | ((with_reducible apply Bl.gEx); array_get_dec)))
local macro_rules | `(tactic| array_mem_dec) => `(tactic| first
  | ((with_reducible apply Bl.gIte); first
    | (refine Bl.gT (by rfl) ?_)
    | (refine Bl.gF (by rfl) ?_))
  | ((fail_if_success (with_reducible apply Bl.gIte)); (fail_if_success (with_reducible apply Bl.gLoop)); (fail_if_success (with_reducible apply Bl.gComp)); (fail_if_success (with_reducible apply Bl.gWhile)); first
    | (with_reducible intro _ _)
    | (with_reducible intro _)
    | (refine And.intro (by array_get_dec) ?_)
    | (apply Bl.gEx)
    | (refine Or.inl (And.intro (by array_get_dec) ?_))
    | (refine Or.inr (And.intro (by array_get_dec) ?_))
    | (refine Or.inl ⟨_, by array_get_dec, ?_⟩)
    | (refine Or.inr ⟨_, by array_get_dec, ?_⟩)
    ))
local macro_rules | `(tactic| sizeOf_list_dec) => `(tactic| repeat array_mem_dec)

theorem hw_sub {W W' : List Addr} {H : Hp} (h : ∀ x ∈ W', x ∈ W) : Same (hw W H) (hw W' H) := fun b o q => by
  obtain ⟨h1, h2, h3⟩ := hw_get q
  exact hw_of h1 (fun k => h2 (h b k)) h3
/-- two ledgers beside each other -/
structure Two (K : PySem.W.Frag) (C : Addr) (Tb : List (Addr × Str)) (H : Hp) (q b p : Addr) (f : LFt) (L : LSt) (p2 : Addr) (f2 : LFt) (L2 : LSt) : Prop where
  box : BoxAt H q b
  l1 : LedAt K C H p f L
  l2 : LedAt K C H p2 f2 L2
  tabs : LamX.Tabs Tb H
  o1 : Out [q, b] (f.all p)
  o2 : Out [q, b] (f2.all p2)
  dj : Out (f.all p) (f2.all p2)
def W2 (q p : Addr) (f : LFt) (p2 : Addr) (f2 : LFt) : List Addr := q :: (f.wr p ++ f2.wr p2)
section
variable {K : PySem.W.Frag} {C : Addr} {Tb : List (Addr × Str)} {H H' : Hp} {q b p p2 : Addr} {f f2 : LFt} {L L2 L' : LSt}
theorem Two.swap (h : Two K C Tb H q b p f L p2 f2 L2) : Two K C Tb H q b p2 f2 L2 p f L := ⟨h.box, h.l2, h.l1, h.tabs, h.o2, h.o1, h.dj.symm⟩
theorem Two.new (h : Two K C Tb H q b p f L p2 f2 L2) (e : Same H H') : Two K C Tb H' q b p f L p2 f2 L2 := ⟨h.box.mono e, h.l1.mono e, h.l2.mono e, tabs_of h.tabs e, h.o1, h.o2, h.dj⟩
theorem Two.wrote (h : Two K C Tb H q b p f L p2 f2 L2) (l : LedAt K C H' p f L') (e : Fr (f.wr p) H H') : Two K C Tb H' q b p f L' p2 f2 L2 := by
  have nq : q ∉ f.wr p := fun k => h.o1 q (by simp) (LFt.wr_all k)
  have nb : b ∉ f.wr p := fun k => h.o1 b (by simp) (LFt.wr_all k)
  exact ⟨box_fr h.box e nq nb, l, h.l2.fr h.l1 e (h.dj.symm).wr, tabs_fr h.tabs e fun x hx => h.l1.li x (LFt.wr_all hx), h.o1, h.o2, h.dj⟩
theorem w2_same (e : Same H H') : Same (hw (W2 q p f p2 f2) H) (hw (W2 q p f p2 f2) H') := hw_same e
theorem w2_wrote (e : Fr (f.wr p) H H') : Same (hw (W2 q p f p2 f2) H) (hw (W2 q p f p2 f2) H') := hw_fr e (fun x hx => List.mem_cons_of_mem _ (List.mem_append_left _ hx)) fun x hx => .inl hx
theorem w2_wrote2 (e : Fr (f2.wr p2) H H') : Same (hw (W2 q p f p2 f2) H) (hw (W2 q p f p2 f2) H') := hw_fr e (fun x hx => List.mem_cons_of_mem _ (List.mem_append_right _ hx)) fun x hx => .inl hx
/-- one ledger's heap, the other new -/
theorem w2_in (e : Same H H') (n : ∀ x ∈ f2.all p2, H x = none) : Same (Im q f p H) (hw (W2 q p f p2 f2) H') := hw_fr (Fr.of (S := []) e) (fun x hx => nomatch hx) fun x hx => by
  rcases List.mem_cons.mp hx with rfl | hx
  · exact .inl List.mem_cons_self
  rcases List.mem_append.mp hx with hx | hx
  · exact .inl (List.mem_cons_of_mem _ hx)
  · exact .inr (n x (LFt.wr_all hx))
theorem w2_out : Same (hw (W2 q p f p2 f2) H) (Im q f p H) := hw_sub fun x hx => by
  rcases List.mem_cons.mp hx with rfl | hx
  · exact List.mem_cons_self
  · exact List.mem_cons_of_mem _ (List.mem_append_left _ hx)
theorem Liv.two (h : Liv K C Tb H q b p f L) (l : LedAt K C H' p2 f2 L2) (e : Same H H') (n : ∀ x ∈ f2.all p2, H x = none) : Two K C Tb H' q b p f L p2 f2 L2 := by
  have h' := h.new e
  have tr : Tr H [q, b] := Tr.cons (box_two h.box).1.choose_spec (Tr.cons (box_two h.box).2.choose_spec .nil)
  exact ⟨h'.box, h'.led, l, h'.tabs, h.ob, Out.fresh tr n, Out.fresh h.led.tr n⟩
theorem Two.liv (h : Two K C Tb H q b p f L p2 f2 L2) : Liv K C Tb H q b p f L := ⟨h.box, h.l1, h.tabs, h.o1⟩
theorem Liv.wroteS (h : Liv K C Tb H q b p f L) (l : LedAt K C H' p f L') (e : Fr (f.wr p) H H') : Liv K C Tb H' q b p f L' := by
  have nq : q ∉ f.wr p := fun k => h.ob q (by simp) (LFt.wr_all k)
  have nb : b ∉ f.wr p := fun k => h.ob b (by simp) (LFt.wr_all k)
  exact ⟨box_fr h.box e nq nb, l, tabs_fr h.tabs e fun x hx => h.led.li x (LFt.wr_all hx), h.ob⟩
theorem im_wroteS (e : Fr (f.wr p) H H') : Same (Im q f p H) (Im q f p H') := hw_fr e (fun x hx => List.mem_cons_of_mem _ hx) fun x hx => .inl hx
end
theorem Two.exs {K : PySem.W.Frag} {C : Addr} {Tb : List (Addr × Str)} {H : Hp} {q b p p2 : Addr} {f f2 : LFt} {L L2 : LSt} (h : Two K C Tb H q b p f L p2 f2 L2) : ∀ x ∈ W2 q p f p2 f2, ∃ u, H x = some u := fun x hx => by
  rcases List.mem_cons.mp hx with rfl | hx
  · exact (box_two h.box).1
  rcases List.mem_append.mp hx with hx | hx
  · exact h.l1.tr x (LFt.wr_all hx)
  · exact h.l2.tr x (LFt.wr_all hx)
theorem vnon : Vals [V.non] [Value.none] := .cons rfl .nil
/-! an empty row -/
theorem meet_nil {ths : List (List Str)} (h : ∀ th ∈ ths, 1 ≤ th.length) {e : Row} : meet ths e [] = false := by
  unfold meet
  rw [List.any_eq_false]
  intro th ht
  have h1 := h th ht
  cases th with
  | nil => exact absurd h1 (by decide)
  | cons x th =>
    unfold same1
    rw [List.all_cons]
    have hx : look [] x = none := rfl
    rw [hx]
    cases look e x <;> simp
theorem alikes_nil {ths : List (List Str)} (h : ∀ th ∈ ths, 1 ≤ th.length) {rows : List Row} : alikes ths rows [] = [] := by
  unfold alikes
  rw [List.filter_eq_nil_iff]
  intro i hi
  have hi := List.mem_range.mp hi
  rw [List.getElem?_eq_getElem hi]
  show ¬ meet ths rows[i] [] = true
  rw [meet_nil h]
  decide
theorem addR_nil {L : LSt} (h : ∀ th ∈ L.things, 1 ≤ th.length) (hr : L.rows.length < 200) {sd : Option Str} : addR L [] sd = .ok (freeR L sd) := by
  have a := alikes_nil h (rows := L.rows)
  unfold addR tornOf dueA dueOf lrn jdg
  rw [if_neg (by omega), a]
  rfl
theorem addR_full {L : LSt} (hr : 200 ≤ L.rows.length) {r : Row} {sd : Option Str} : addR L r sd = .full := if_pos hr
theorem marks_nil : ∀ {n : Nat} {ths : List (List Str)}, (∀ th ∈ ths, 1 ≤ th.length) → marks [] n ths = []
  | _, [], _ => rfl
  | n, th :: ths, h => by
    have h1 := h th List.mem_cons_self
    cases th with
    | nil => exact absurd h1 (by decide)
    | cons x th =>
      unfold marks
      have hv : vals [] (x :: th) = none := by
        unfold vals
        rfl
      rw [hv]
      exact marks_nil (n := n + 1) fun th ht => h th (List.mem_cons_of_mem _ ht)
theorem grp_alone {ms : List (List NestedKey)} {s : Nat} {ns : List Nat} (h : mkL ms s = []) (g : GrpOf ms s ns) : ns = [s] := by
  have := g.perm
  rw [bfs_alone h] at this
  exact List.perm_singleton.mp this
theorem grp_not {ms : List (List NestedKey)} {s t : Nat} {ns : List Nat} (hs : s < ms.length) (h : mkL ms t = []) (n : t ≠ s) (g : GrpOf ms s ns) : t ∉ ns := fun hm => by
  have h1 := bfs_not hs h n
  have h2 := lookN_mem (fd := bfs ms s) (o := t)
  rw [h1, decide_eq_true (g.perm.mem_iff.mp hm)] at h2
  cases h2
theorem mkL_nil {ths : List (List Str)} {R : List Row} {S : List Str} {U : List (Row × Str)} {n : Nat} (h : ∀ th ∈ ths, ThV th) (hn : R.length = n) : mkL (msOf ⟨ths, R ++ [[]], S, U⟩) n = [] := by
  unfold mkL msOf
  show (((R ++ [[]]).map fun r => marks r 0 ths)[n]?).getD [] = []
  rw [← hn, List.map_append, List.getElem?_append_right (by rw [List.length_map]; exact Nat.le_refl _), List.length_map, Nat.sub_self]
  exact marks_nil fun th ht => (h th ht).lo
theorem emptier_lot {ss : List Str} : lotB (emptier ss) = true := by
  unfold emptier
  split <;> decide +kernel
theorem LGood.addN {L : LSt} (g : LGood L) {z : Str} (hz : lotB z = true) (hr : L.rows.length < 200) {U : List (Row × Str)} : LGood ⟨L.things, L.rows ++ [[]], L.sides ++ [z], U⟩ := by
  refine ⟨g.th, g.t4, fun r hr => ?_, fun y hy => ?_, ?_, ?_⟩
  · rcases List.mem_append.mp hr with h | h
    · exact g.ro r h
    · rw [List.mem_singleton.mp h]
      exact ⟨⟨(fun x hx => nomatch hx), by decide⟩, List.nodup_nil⟩
  · rcases List.mem_append.mp hy with h | h
    · exact g.si y h
    · rw [List.mem_singleton.mp h]
      exact hz
  · show (L.sides ++ [z]).length = (L.rows ++ [[]]).length
    rw [List.length_append, List.length_append, g.ln]
    rfl
  · show (L.rows ++ [[]]).length ≤ 200
    rw [List.length_append]
    show L.rows.length + 1 ≤ 200
    omega
theorem flat_ints {ns : List Nat} : (intL ns).all flatV = true := by
  unfold intL
  rw [List.all_eq_true]
  intro x hx
  obtain ⟨n, _, rfl⟩ := List.mem_map.mp hx
  rfl
theorem in_ints {ns : List Nat} {t : Nat} (h : t ∉ ns) : inV (.int ((t : Nat) : Int)) (intL ns) = false := by
  unfold inV intL
  rw [List.any_eq_false]
  intro x hx q
  obtain ⟨n, hn, rfl⟩ := List.mem_map.mp hx
  have q : decide (((n : Nat) : Int) = ((t : Nat) : Int)) = true := q
  have := of_decide_eq_true q
  have : n = t := by omega
  subst this
  exact h hn
section
variable {P : Program} {w : World} {K : PySem.W.Frag} {mg : Str → Option Value} {base : Heap}
theorem add_nil_go (T : Top K mg) {p d : Addr} {f : LFt} {L : LSt} {sd : Option Str} {H : Hp} {Q : VK} {E : XK} (L0 : LedAt K T.C_Ledger H p f L) (g : LGood L) (hr : L.rows.length < 200) (hd : H d = some (.dK [])) (hsd : ∀ z, sd = some z → lotB z = true)
    (k : ∀ (au : Addr) (H' : Hp), LedAt K T.C_Ledger H' p { f with un := au } ⟨L.things, L.rows ++ [[]], L.sides ++ [freeR L sd], []⟩ → Fr (f.wr p) H H' → H au = none → Q (.str (freeR L sd)) H') : spAdd T [.ref p, .ref d, sdV sd] H Q E := by
  unfold spAdd
  refine ⟨p, d, f, L, [], sd, rfl, hsd, L0, g, hd, ⟨(fun x hx => nomatch hx), by decide⟩, List.nodup_nil, ?_⟩
  rw [addR_nil (fun th ht => (g.th th ht).lo) hr]
  exact fun au H' a b c _ => k au H' a b c
theorem hist_goT {C p : Addr} {f : LFt} {L : LSt} {n m : Nat} {H : Hp} {Q : VK} {E : XK} (L0 : LedAt K C H p f L) (h1 : L.rows.length = n) (h2 : L.undone.length = m) (k : ∀ t, H t = none → Q (.ref t) (upd H t (.tup [.int ((n : Nat) : Int), .int ((m : Nat) : Int)]))) : spHist K C [.ref p] H Q E := hist_go L0 (by rw [h1, h2]; exact k)
theorem lis_go {C p t : Addr} {u : Nat} {f : LFt} {L : LSt} {rws : List (Row × Str)} {H : Hp} {Q : VK} {E : XK} (L0 : LedAt K C H p f L) (g : LGood L) (h1 : L.rows = rws.map (·.1)) (h2 : L.sides = rws.map (·.2)) (h3 : L.undone.length = u) (hr : RowsAt K H t rws) (k : ∀ H', Same H H' → Q (.bl true) H') :
    spLIs K C [.ref p, .ref t, .int ((u : Nat) : Int)] H Q E := by
  unfold spLIs
  exact ⟨p, t, u, f, L, rws, rfl, L0, g, h1, h2, h3, hr, k⟩
end
end Bl

namespace Bl
open PySem L2
open SX (S)
/-! short words: array_get_dec closes a side condition; array_mem_dec goes one step into a reading; sizeOf_list_dec goes on while it can -/
local macro_rules | `(tactic| array_get_dec) => `(tactic| first
  | (with_reducible assumption)
  | ((with_reducible apply Bl.gEq); first
    | rfl
    | assumption
    | exact upd_same
    | (with_reducible exact kit_d some_str)
    | (with_reducible exact kit_d some_int)
    | (with_reducible exact kit_d some_bool)
    | (with_reducible exact kit_d some_list)
    | (with_reducible exact kit_d some_tuple)
    | ((with_reducible apply Bl.get_new); assumption; array_get_dec)
    | ((with_reducible apply Bl.get_tr); assumption; array_get_dec)
    )
  | ((with_reducible apply Bl.gLe); first
    | omega
    | exact small (by omega)
    | exact small (by simp only [List.length_cons, List.length_nil]; decide)
    | exact small (by simp only [List.length_append, List.length_cons, List.length_nil]; omega)
    | decide)
  | ((with_reducible apply Bl.gLt); first
    | omega
    | exact small' (by omega)
    | exact small' (by simp only [List.length_cons, List.length_nil]; decide)
    | decide)
  | ((fail_if_success (with_reducible apply Bl.gEq)); (fail_if_success (with_reducible apply Bl.gLe)); (fail_if_success (with_reducible apply Bl.gLt)); first
    | assumption
    | exact SqL.of upd_same
    | exact SqT.of upd_same
    | ((with_reducible apply SqL.of); assumption)
    | ((with_reducible apply SqT.of); assumption)
    | exact Same.refl _
    | exact .ty _
    | exact .str _
    | exact .int _
    | exact ⟨_, rfl⟩
    | ((with_reducible apply Dp.ty); assumption)
    | ((with_reducible apply Bl.seq_new); assumption; array_get_dec)
    | ((with_reducible apply Bl.tup_new); assumption; array_get_dec)
    | ((with_reducible apply Bl.dp_new); assumption; array_get_dec)
    | ((with_reducible apply Bl.dpa_new); assumption; array_get_dec)
    | ((with_reducible apply Bl.same_nw); assumption; array_get_dec)
    | ((with_reducible apply Bl.seq_tr); assumption; array_get_dec)
    | ((with_reducible apply Bl.tup_tr); assumption; array_get_dec)
    | ((with_reducible apply Bl.dp_tr); assumption; array_get_dec)
    | ((with_reducible apply Bl.dpa_tr); assumption; array_get_dec)
    | ((with_reducible apply Bl.same_tr); assumption; array_get_dec)
    | ((with_reducible apply Dp.ty); assumption)
    | ((with_reducible apply Dp.ty); array_get_dec)
    | ((with_reducible refine Or.inl ?_); array_get_dec)
    | ((with_reducible refine Or.inr ?_); array_get_dec)
    | ((with_reducible apply Bl.gEx); array_get_dec)))
local macro_rules | `(tactic| array_mem_dec) => `(tactic| first
  | ((with_reducible apply Bl.gIte); first
    | (refine Bl.gT (by rfl) ?_)
    | (refine Bl.gF (by rfl) ?_))
  | ((fail_if_success (with_reducible apply Bl.gIte)); (fail_if_success (with_reducible apply Bl.gLoop)); (fail_if_success (with_reducible apply Bl.gComp)); (fail_if_success (with_reducible apply Bl.gWhile)); first
    | (with_reducible intro _ _)
    | (with_reducible intro _)
    | (refine And.intro (by array_get_dec) ?_)
    | (apply Bl.gEx)
    | (refine Or.inl (And.intro (by array_get_dec) ?_))
    | (refine Or.inr (And.intro (by array_get_dec) ?_))
    | (refine Or.inl ⟨_, by array_get_dec, ?_⟩)
    | (refine Or.inr ⟨_, by array_get_dec, ?_⟩)
    ))
local macro_rules | `(tactic| sizeOf_list_dec) => `(tactic| repeat array_mem_dec)

abbrev n_ledger_back : List Str := ["_law_made", "_law_rows", "_law_undone", "_law_way", "_law_lots", "_law_found"]
theorem sc_ledger_back : FnScope n_ledger_back ["_law_made", "_law_rows", "_law_undone", "_law_way"] (defScope s_ledger_back) := ⟨rfl, rfl, rfl, by decide +kernel, rfl, by decide +kernel, by decide +kernel⟩
@[irreducible] def spBack {K : PySem.W.Frag} {mg : Str → Option Value} (T : Top K mg) : Sp := fun vs H Q _ => ∃ (q b p t u : Addr) (way : Nat) (f : LFt) (ths : List (List Str)) (rws und : List (Row × Str)), vs = [.ref p, .ref t, .ref u, .int (way : Nat)] ∧ way < 2 ∧
  Liv K T.C_Ledger (Tbl T) H q b p f ⟨ths, rws.map (·.1), rws.map (·.2), und⟩ ∧ RowsAt K (Im q f p H) t rws ∧ RowsAt K (Im q f p H) u und ∧ rws.length ≤ 500 ∧ und.length ≤ 500 ∧
  ∀ (y t' u' : Addr) (rws' und' : List (Row × Str)) (H' : Hp), rws' ++ und'.reverse = rws ++ und.reverse → Liv K T.C_Ledger (Tbl T) H' q b p f ⟨ths, rws'.map (·.1), rws'.map (·.2), und'⟩ → RowsAt K (Im q f p H') t' rws' → RowsAt K (Im q f p H') u' und' →
    Im q f p H' y = some (.tup [.ref t', .ref u']) → Same (Im q f p H) (Im q f p H') → Q (.ref y) H'
section
variable {P : Program} {w : World} {K : PySem.W.Frag} {mg : Str → Option Value} {base : Heap}
theorem eqL_nil {K : PySem.W.Frag} {a e : Addr} {H : Hp} {Q : VK} (ha : SqL K H a []) (he : SqL K H e []) (q : Q (.bl true) H) : rEqL K (.ref a) (.ref e) H Q := by
  unfold rEqL
  exact .inl ⟨0, by decide, .inl ⟨a, e, [], [], rfl, rfl, ha, he, .nil⟩, q⟩
theorem eqL_ne {K : PySem.W.Frag} {a e : Addr} {xs : List V} {H : Hp} {Q : VK} (ha : SqL K H a xs) (he : SqL K H e []) (n : xs.length ≠ 0) (q : Q (.bl false) H) : rEqL K (.ref a) (.ref e) H Q := by
  unfold rEqL
  exact .inr ⟨a, e, xs, [], rfl, rfl, ha, he, n, q⟩
theorem cut_init {xs : List V} {x : V} : cutV (xs ++ [x]) none (some (-1)) = xs := by
  have h : HT.sIx (xs ++ [x]).length (xs ++ [x]).length (some (-1)) = xs.length := by
    show (if (-1 : Int) < 0 then ((-1 : Int) + (((xs ++ [x]).length : Nat) : Int)).toNat else min (-1 : Int).toNat (xs ++ [x]).length) = xs.length
    rw [if_pos (by decide), List.length_append]
    show ((-1 : Int) + ((xs.length + 1 : Nat) : Int)).toNat = _
    omega
  unfold cutV
  rw [h, HT.sIx_none, List.drop_zero]
  exact List.take_left
theorem cut_last {xs : List V} {x : V} : cutV (xs ++ [x]) (some (-1)) none = [x] := by
  have h : HT.sIx (xs ++ [x]).length 0 (some (-1)) = xs.length := by
    show (if (-1 : Int) < 0 then ((-1 : Int) + (((xs ++ [x]).length : Nat) : Int)).toNat else min (-1 : Int).toNat (xs ++ [x]).length) = xs.length
    rw [if_pos (by decide), List.length_append]
    show ((-1 : Int) + ((xs.length + 1 : Nat) : Int)).toNat = _
    omega
  unfold cutV
  rw [h, HT.sIx_none, List.drop_left, List.length_append]
  exact List.take_of_length_le (by simp)
def bkD : List (Row × Str) → PyData
  | [] => .tuple [.str "NothingLeft", .none]
  | _ => .tuple [.str "", .none]
theorem fits_bk {xs : List (Row × Str)} : Fits 4 (bkD xs) := by
  have key : ∀ z : Str, Fits 4 (.tuple [.str z, .none]) := fun z => by
    refine ⟨by show 2 < 1000000; decide, fun d hd => ?_⟩
    rcases List.mem_cons.mp hd with rfl | hd
    · exact True.intro
    · rw [List.mem_singleton.mp hd]
      exact True.intro
  cases xs <;> exact key _
theorem bkD_snoc {R : List (Row × Str)} {x : Row × Str} : bkD (R ++ [x]) = .tuple [.str "", .none] := by cases R <;> rfl
def lastL (xs : List (Row × Str)) : List (Row × Str) := xs.getLast?.toList
theorem last_nil : lastL [] = [] := rfl
theorem last_snoc {xs : List (Row × Str)} {x : Row × Str} : lastL (xs ++ [x]) = [x] := by
  unfold lastL
  rw [List.getLast?_append]
  rfl
theorem got_bk0 (T : Top K mg) {σ : L2.St} {H : Hp} {Q : VK} {q b p : Addr} {f : LFt} {ths : List (List Str)} {rws und : List (Row × Str)} (i0 : σ[0]? = some (some (.ref p))) (i3 : σ[3]? = some (some (.int 0)))
    (Lv : Liv K T.C_Ledger (Tbl T) H q b p f ⟨ths, rws.map (·.1), rws.map (·.2), und⟩) (hu : und.length ≤ 500)
    (k : ∀ (v : V) (H' : Hp), Liv K T.C_Ledger (Tbl T) H' q b p f ⟨ths, rws.dropLast.map (·.1), rws.dropLast.map (·.2), und ++ lastL rws⟩ → Same (Im q f p H) (Im q f p H') → Dp K H' v (bkD rws) → Q v H') :
    tGL T (Tbl T) (fun x => tIf (tTest (tOp rEq (tVar 3) (tC (V.int 0)))) (tMeth T.C_Ledger "undo" (spUndo T) [] x (tVar 0) tNil) (tMeth T.C_Ledger "redo" (spRedo T) [] x (tVar 0) tNil)) σ H Q := by
  unfold tGL
  refine ⟨Lv.tabs, fun H1 e1 t1 => ?_⟩
  have L1 := Lv.ext e1 t1
  have E1 := im_ext (q := q) (f := f) (p := p) e1
  have hlk : f.fs.lookup ("undo" : Str) = none := LFt.lkN (by decide +kernel)
  have hins := L1.led.ins
  sizeOf_list_dec
  show spUndo T [.ref p] _ _ _
  rcases List.eq_nil_or_concat rws with rfl | ⟨R, ⟨w, z⟩, rfl⟩
  · refine undo_no L1.led rfl fun cls e H3 rs s3 => ?_
    exact ⟨_, _, [], rs.hand, .nil, rs.any, fun v H4 s4 hv => k v H4 (by rw [last_nil, List.append_nil]; exact (L1.new s3).new s4) (E1.trans ((im_same s3).trans (im_same s4))) hv⟩
  · rw [List.concat_eq_append] at *
    refine undo_go (R := R.map (·.1)) (S := R.map (·.2)) (w := w) (z := z) L1.led List.map_append List.map_append (by show und.length ≤ 1000; omega) fun H3 l3 F3 => ?_
    have L3 := L1.wroteS l3 F3
    rw [List.dropLast_concat, last_snoc] at k
    refine ⟨by show 2 ≤ sizeLine; decide, fun v fv => ?_⟩
    have s4 := same_new fv (.tup [.str "", .non])
    refine k (.ref v) _ (L3.new s4) (E1.trans ((im_wroteS F3).trans (im_same s4))) ?_
    have : bkD (R ++ [(w, z)]) = .tuple [.str "", .none] := by cases R <;> rfl
    rw [this]
    exact .tup (SqT.of upd_same) (.cons (.str _) (.cons .non .nil))
theorem got_bk1 (T : Top K mg) {σ : L2.St} {H : Hp} {Q : VK} {q b p : Addr} {f : LFt} {ths : List (List Str)} {rws und : List (Row × Str)} (i0 : σ[0]? = some (some (.ref p))) (i3 : σ[3]? = some (some (.int 1)))
    (Lv : Liv K T.C_Ledger (Tbl T) H q b p f ⟨ths, rws.map (·.1), rws.map (·.2), und⟩) (hu : rws.length ≤ 500)
    (k : ∀ (v : V) (H' : Hp), Liv K T.C_Ledger (Tbl T) H' q b p f ⟨ths, (rws ++ lastL und).map (·.1), (rws ++ lastL und).map (·.2), und.dropLast⟩ → Same (Im q f p H) (Im q f p H') → Dp K H' v (bkD und) → Q v H') :
    tGL T (Tbl T) (fun x => tIf (tTest (tOp rEq (tVar 3) (tC (V.int 0)))) (tMeth T.C_Ledger "undo" (spUndo T) [] x (tVar 0) tNil) (tMeth T.C_Ledger "redo" (spRedo T) [] x (tVar 0) tNil)) σ H Q := by
  unfold tGL
  refine ⟨Lv.tabs, fun H1 e1 t1 => ?_⟩
  have L1 := Lv.ext e1 t1
  have E1 := im_ext (q := q) (f := f) (p := p) e1
  have hlk : f.fs.lookup ("redo" : Str) = none := LFt.lkN (by decide +kernel)
  have hins := L1.led.ins
  sizeOf_list_dec
  show spRedo T [.ref p] _ _ _
  rcases List.eq_nil_or_concat und with rfl | ⟨R, ⟨w, z⟩, rfl⟩
  · refine redo_no L1.led rfl fun cls e H3 rs s3 => ?_
    exact ⟨_, _, [], rs.hand, .nil, rs.any, fun v H4 s4 hv => k v H4 (by rw [last_nil, List.append_nil]; exact (L1.new s3).new s4) (E1.trans ((im_same s3).trans (im_same s4))) hv⟩
  · rw [List.concat_eq_append] at *
    refine redo_go (U := R) (w := w) (z := z) L1.led rfl (by show (rws.map (·.1)).length ≤ 1000; rw [List.length_map]; omega) (by show (rws.map (·.2)).length ≤ 1000; rw [List.length_map]; omega) fun H3 l3 F3 => ?_
    have L3 := L1.wroteS l3 F3
    rw [List.dropLast_concat, last_snoc, List.map_append, List.map_append] at k
    refine ⟨by show 2 ≤ sizeLine; decide, fun v fv => ?_⟩
    have s4 := same_new fv (.tup [.str "", .non])
    refine k (.ref v) _ (L3.new s4) (E1.trans ((im_wroteS F3).trans (im_same s4))) ?_
    have : bkD (R ++ [(w, z)]) = .tuple [.str "", .none] := by cases R <;> rfl
    rw [this]
    exact .tup (SqT.of upd_same) (.cons (.str _) (.cons .non .nil))
theorem ok_ledger_back (T : Top K mg) (TB : LamX.TabB base mg T.c_ledger_back T.P_ledger_back) : FnOk P w K mg base CX0 20 T.a_ledger_back T.d_ledger_back ["_law_made", "_law_rows", "_law_undone", "_law_way"] (spBack T) := by
  refine okC T.F_ledger_back sc_ledger_back (fun vs H Q E h => ?_) (fun cdv A outer s H vs Q E hc hr h => ?_)
  · unfold spBack at h
    obtain ⟨q, b, p, t, u, way, f, ths, rws, und, rfl, _⟩ := h
    rfl
  obtain rfl : cdv = .ref T.c_ledger_back := hc.symm.trans T.k_ledger_back
  unfold spBack at h
  obtain ⟨q, b, p, t, u, way, f, ths, rws, und, rfl, hw, L0, hrw, hun, r5, u5, k⟩ := h
  refine ⟨_, (pss_cons (ps_set (i := 4) sc_ledger_back.nd rfl (Or.inl rfl) (pe_ifExp (pt_cmpR op_eq (pv 3) pe_int (nomark _)) (pe_lst (pa_cons (pv 1) (pa_cons (pv 2) pa_nil))) (pe_lst (pa_cons (pv 2) (pa_cons (pv 1) pa_nil)))))
    (pss_cons (ps_set (i := 5) sc_ledger_back.nd rfl (Or.inl rfl) (pe_gl (k := 14) (Tb := Tbl T) T (by rfl) TB rfl (lam_in_ledger_back T) (lam_on_ledger_back T) (hr.mono (by decide)) (hr.mono (by decide)) (LamX.lamS_by (by show LamX.lamSB (defScope s_ledger_back) _ = true; decide +kernel)) rfl (fun _ _ _ _ _ => rfl) (fun _ _ _ _ _ _ _ hrl => (pe_ifExp (pt_cmpR op_eq (pv 3) pe_int (nomark _)) (pe_meth0 (pv 0) T.cl_Ledger T.M_Ledger_undo (ok_Ledger_undo T) (hrl.mono (by decide)) T.b_Ledger_undo .nil (passes_lamE rfl rfl)) (pe_meth0 (pv 0) T.cl_Ledger T.M_Ledger_redo (ok_Ledger_redo T) (hrl.mono (by decide)) T.b_Ledger_redo .nil (passes_lamE rfl rfl))))))
    (pss_cons (ps_if (pt_cmpR (op_eqL hr.units) (pe_ix ix_list (pv 4) pe_int (fun _ _ => rfl)) (pe_lst pa_nil) (nomark _)) (pss_one (ps_ret (pe_ifExp (pt_val (pe_call (ok_same T 4) (hr.mono (by decide)) rfl T.m_same T.F_same.kp T.b_same .nil pass0 (pa_cons (pv 5) (pa_cons (pe_tup (pa_cons pe_str (pa_cons pe_non pa_nil))) pa_nil)))) (pe_tup (pa_cons (pv 1) (pa_cons (pv 2) pa_nil))) pe_non))) pss_nil)
    (pss_cons (ps_if (pt_not (pt_val (pe_call (ok_same T 4) (hr.mono (by decide)) rfl T.m_same T.F_same.kp T.b_same .nil pass0 (pa_cons (pv 5) (pa_cons (pe_tup (pa_cons pe_str (pa_cons pe_non pa_nil))) pa_nil))))) (pss_one (ps_ret pe_non)) pss_nil)
    (pss_one (ps_ret (pe_ifExp (pt_cmpR op_eq (pv 3) pe_int (nomark _)) (pe_tup (pa_cons (pe_slice sl_list (pv 1) po_none (po_some (pe_un un_neg pe_int))) (pa_cons (pe_op op_cat (pv 2) (pe_slice sl_list (pv 1) (po_some (pe_un un_neg pe_int)) po_none)) pa_nil))) (pe_tup (pa_cons (pe_op op_cat (pv 1) (pe_slice sl_list (pv 2) (po_some (pe_un un_neg pe_int)) po_none)) (pa_cons (pe_slice sl_list (pv 2) po_none (po_some (pe_un un_neg pe_int))) pa_nil)))))))))), ?_⟩
  sizeOf_list_dec
  obtain rfl | rfl : way = 0 ∨ way = 1 := by omega
  · refine iteTk (decide_eq_true rfl) ?_
    sizeOf_list_dec
    rename_i lo flo
    have s1 := same_new flo (.lst [.ref t, .ref u])
    have hlo1 := L0.fresh (o := .lst [.ref t, .ref u]) flo (fun _ h => nomatch h)
    have L1 := L0.new s1
    have E1 := im_same (q := q) (f := f) (p := p) s1
    generalize upd H lo (.lst [.ref t, .ref u]) = H1 at *
    clear L0 s1 flo
    sizeOf_list_dec
    refine got_bk0 T rfl rfl L1 u5 fun v H2 L2 E2 hv => ?_
    have hlo2 := im_le _ _ (E2 _ _ hlo1)
    have EE := E1.trans E2
    have hrw2 := hrw.mono EE
    have hun2 := hun.mono EE
    obtain ⟨us, hus, hups⟩ := hrw2.ex
    obtain ⟨uu, huu, huups⟩ := hun2.ex
    have hus2 := im_le _ _ hus
    have huu2 := im_le _ _ huu
    sizeOf_list_dec
    rename_i em fem
    have s3 := same_new fem (.lst [])
    have L3 := L2.new s3
    have E3 := EE.trans (im_same (q := q) (f := f) (p := p) s3)
    have hem : upd H2 em (.lst []) em = some (.lst []) := upd_same
    have hv3 := Dp.mono s3 _ _ hv
    have hus3 := s3 _ _ hus2
    have huu3 := s3 _ _ huu2
    generalize upd H2 em (.lst []) = H3 at *
    rcases List.eq_nil_or_concat rws with rfl | ⟨R, ⟨w, z⟩, rfl⟩
    · cases hups
      refine eqL_nil (SqL.of hus3) (SqL.of hem) ?_
      sizeOf_list_dec
      rename_i td ftd
      have s4 := same_new ftd (.tup [.str "NothingLeft", .non])
      refine ⟨.tup (SqT.of upd_same) (.cons (.str _) (.cons .non .nil)), fits_bk, fun H4 g4 => ?_⟩
      have L4 := L3.new (s4.trans g4)
      have E4 := E3.trans (im_same (q := q) (f := f) (p := p) (s4.trans g4))
      sizeOf_list_dec
      rename_i y fy
      have s5 := same_new fy (.tup [.ref t, .ref u])
      have E5 := E4.trans (im_same (q := q) (f := f) (p := p) s5)
      have hn : und ++ lastL [] = und := by rw [last_nil, List.append_nil]
      rw [hn] at L4
      exact k y t u [] und _ rfl (L4.new s5) (hrw.mono E5) (hun.mono E5) (L4.fresh fy (fun _ h => nomatch h)) E5
    · rw [List.concat_eq_append] at *
      obtain ⟨us0, ux, rfl, hus0, hux⟩ := pr_snoc hups
      rw [List.map_append] at hus3
      refine eqL_ne (SqL.of hus3) (SqL.of hem) (by rw [List.length_append]; show _ + 1 ≠ 0; omega) ?_
      sizeOf_list_dec
      rename_i td ftd
      have s4 := same_new ftd (.tup [.str "", .non])
      refine ⟨by rw [bkD_snoc]; exact .tup (SqT.of upd_same) (.cons (.str _) (.cons .non .nil)), fits_bk, fun H4 g4 => ?_⟩
      have L4 := L3.new (s4.trans g4)
      have E4 := E3.trans (im_same (q := q) (f := f) (p := p) (s4.trans g4))
      have hus4 : H4 t = some (.lst (us0.map V.ref ++ [V.ref ux])) := g4 _ _ (s4 _ _ hus3)
      have huu4 := g4 _ _ (s4 _ _ huu3)
      rw [List.dropLast_concat, last_snoc] at L4
      sizeOf_list_dec
      rename_i n1 fn1 n2 fn2
      rw [cut_init] at fn2
      rw [cut_last, cut_init]
      have hul := pr_len huups
      refine ⟨small (by rw [List.length_map]; show uu.length + 1 ≤ _; omega), fun n3 fn3 => ?_⟩
      have m1 := same_new fn1 (.lst (us0.map V.ref))
      have m2 := same_new fn2 (.lst [V.ref ux])
      have m3 := same_new fn3 (.lst (uu.map V.ref ++ [V.ref ux]))
      have L5 := L4.new m1
      have L6 := L5.new m2
      have hn1 := (L4.fresh (o := .lst (us0.map V.ref)) fn1 (fun _ h => nomatch h))
      have hn3 := (L6.fresh (o := .lst (uu.map V.ref ++ [V.ref ux])) fn3 (fun _ h => nomatch h))
      have I1 := im_same (q := q) (f := f) (p := p) m1
      have I2 := im_same (q := q) (f := f) (p := p) m2
      have I3 := im_same (q := q) (f := f) (p := p) m3
      sizeOf_list_dec
      rename_i y fy
      have m5 := same_new fy (.tup [V.ref n1, V.ref n3])
      have I5 := im_same (q := q) (f := f) (p := p) m5
      have E5 := (((E4.trans I1).trans I2).trans I3).trans I5
      have EK : Same (Im q f p H2) _ := ((((im_same (q := q) (f := f) (p := p) (s3.trans (s4.trans g4))).trans I1).trans I2).trans I3).trans I5
      exact k y n1 n3 R (und ++ [(w, z)]) _ (by rw [List.reverse_append, List.append_assoc]; rfl) (((L6.new m3).new m5)) ⟨us0, I5 _ _ (I3 _ _ (I2 _ _ hn1)), prMp hus0 fun _ _ z => z.mono EK⟩
        ⟨uu ++ [ux], by rw [List.map_append]; exact I5 _ _ hn3, pr_app (prMp huups fun _ _ z => z.mono EK) (.cons (hux.mono EK) .nil)⟩ ((L6.new m3).fresh fy (fun _ h => nomatch h)) E5
  · refine iteFk (decide_eq_false (fun e => by cases e)) ?_
    sizeOf_list_dec
    rename_i lo flo
    have s1 := same_new flo (.lst [.ref u, .ref t])
    have hlo1 := L0.fresh (o := .lst [.ref u, .ref t]) flo (fun _ h => nomatch h)
    have L1 := L0.new s1
    have E1 := im_same (q := q) (f := f) (p := p) s1
    generalize upd H lo (.lst [.ref u, .ref t]) = H1 at *
    clear L0 s1 flo
    sizeOf_list_dec
    refine got_bk1 T rfl rfl L1 r5 fun v H2 L2 E2 hv => ?_
    have hlo2 := im_le _ _ (E2 _ _ hlo1)
    have EE := E1.trans E2
    have hrw2 := hrw.mono EE
    have hun2 := hun.mono EE
    obtain ⟨us, hus, hups⟩ := hrw2.ex
    obtain ⟨uu, huu, huups⟩ := hun2.ex
    have hus2 := im_le _ _ hus
    have huu2 := im_le _ _ huu
    sizeOf_list_dec
    rename_i em fem
    have s3 := same_new fem (.lst [])
    have L3 := L2.new s3
    have E3 := EE.trans (im_same (q := q) (f := f) (p := p) s3)
    have hem : upd H2 em (.lst []) em = some (.lst []) := upd_same
    have hv3 := Dp.mono s3 _ _ hv
    have hus3 := s3 _ _ hus2
    have huu3 := s3 _ _ huu2
    generalize upd H2 em (.lst []) = H3 at *
    rcases List.eq_nil_or_concat und with rfl | ⟨R, ⟨w, z⟩, rfl⟩
    · cases huups
      refine eqL_nil (SqL.of huu3) (SqL.of hem) ?_
      sizeOf_list_dec
      rename_i td ftd
      have s4 := same_new ftd (.tup [.str "NothingLeft", .non])
      refine ⟨.tup (SqT.of upd_same) (.cons (.str _) (.cons .non .nil)), fits_bk, fun H4 g4 => ?_⟩
      have L4 := L3.new (s4.trans g4)
      have E4 := E3.trans (im_same (q := q) (f := f) (p := p) (s4.trans g4))
      sizeOf_list_dec
      rename_i y fy
      have s5 := same_new fy (.tup [.ref t, .ref u])
      have E5 := E4.trans (im_same (q := q) (f := f) (p := p) s5)
      have hn : rws ++ lastL [] = rws := by rw [last_nil, List.append_nil]
      rw [hn] at L4
      exact k y t u rws [] _ rfl (L4.new s5) (hrw.mono E5) (hun.mono E5) (L4.fresh fy (fun _ h => nomatch h)) E5
    · rw [List.concat_eq_append] at *
      obtain ⟨us0, ux, rfl, hus0, hux⟩ := pr_snoc huups
      rw [List.map_append] at huu3
      refine eqL_ne (SqL.of huu3) (SqL.of hem) (by rw [List.length_append]; show _ + 1 ≠ 0; omega) ?_
      sizeOf_list_dec
      rename_i td ftd
      have s4 := same_new ftd (.tup [.str "", .non])
      refine ⟨by rw [bkD_snoc]; exact .tup (SqT.of upd_same) (.cons (.str _) (.cons .non .nil)), fits_bk, fun H4 g4 => ?_⟩
      have L4 := L3.new (s4.trans g4)
      have E4 := E3.trans (im_same (q := q) (f := f) (p := p) (s4.trans g4))
      have huu4 : H4 u = some (.lst (us0.map V.ref ++ [V.ref ux])) := g4 _ _ (s4 _ _ huu3)
      have hus4 := g4 _ _ (s4 _ _ hus3)
      rw [List.dropLast_concat, last_snoc] at L4
      sizeOf_list_dec
      rename_i n2 fn2
      rw [cut_last]
      have hul := pr_len hups
      refine ⟨small (by rw [List.length_map]; show us.length + 1 ≤ _; omega), fun n3 fn3 => ?_⟩
      have m2 := same_new fn2 (.lst [V.ref ux])
      have m3 := same_new fn3 (.lst (us.map V.ref ++ [V.ref ux]))
      have L6 := L4.new m2
      have L7 := L6.new m3
      have hn3 := (L6.fresh (o := .lst (us.map V.ref ++ [V.ref ux])) fn3 (fun _ h => nomatch h))
      have I2 := im_same (q := q) (f := f) (p := p) m2
      have I3 := im_same (q := q) (f := f) (p := p) m3
      have huu6 := m3 _ _ (m2 _ _ huu4)
      sizeOf_list_dec
      rename_i n1 fn1 y fy
      rw [cut_init] at fy ⊢
      have m1 := same_new fn1 (.lst (us0.map V.ref))
      have I1 := im_same (q := q) (f := f) (p := p) m1
      have hn1 := (L7.fresh (o := .lst (us0.map V.ref)) fn1 (fun _ h => nomatch h))
      have m5 := same_new fy (.tup [V.ref n3, V.ref n1])
      have I5 := im_same (q := q) (f := f) (p := p) m5
      have E5 := (((E4.trans I2).trans I3).trans I1).trans I5
      have EK : Same (Im q f p H2) _ := ((((im_same (q := q) (f := f) (p := p) (s3.trans (s4.trans g4))).trans I2).trans I3).trans I1).trans I5
      exact k y n3 n1 (rws ++ [(w, z)]) R _ (by rw [List.reverse_append, List.append_assoc]; rfl) ((L7.new m1).new m5)
        ⟨us ++ [ux], by rw [List.map_append]; exact I5 _ _ (I1 _ _ hn3), pr_app (prMp hups fun _ _ z => z.mono EK) (.cons (hux.mono EK) .nil)⟩ ⟨us0, I5 _ _ hn1, prMp hus0 fun _ _ z => z.mono EK⟩
        ((L7.new m1).fresh fy (fun _ h => nomatch h)) E5
end
end Bl

namespace Bl
open PySem L2
open SX (S)
/-! short words: array_get_dec closes a side condition; array_mem_dec goes one step into a reading; sizeOf_list_dec goes on while it can -/
local macro_rules | `(tactic| array_get_dec) => `(tactic| first
  | (with_reducible assumption)
  | ((with_reducible apply Bl.gEq); first
    | rfl
    | assumption
    | exact upd_same
    | (with_reducible exact kit_d some_str)
    | (with_reducible exact kit_d some_int)
    | (with_reducible exact kit_d some_bool)
    | (with_reducible exact kit_d some_list)
    | (with_reducible exact kit_d some_tuple)
    | ((with_reducible apply Bl.get_new); assumption; array_get_dec)
    | ((with_reducible apply Bl.get_tr); assumption; array_get_dec)
    )
  | ((with_reducible apply Bl.gLe); first
    | omega
    | exact small (by omega)
    | exact small (by simp only [List.length_cons, List.length_nil]; decide)
    | exact small (by simp only [List.length_append, List.length_cons, List.length_nil]; omega)
    | decide)
  | ((with_reducible apply Bl.gLt); first
    | omega
    | exact small' (by omega)
    | exact small' (by simp only [List.length_cons, List.length_nil]; decide)
    | decide)
  | ((fail_if_success (with_reducible apply Bl.gEq)); (fail_if_success (with_reducible apply Bl.gLe)); (fail_if_success (with_reducible apply Bl.gLt)); first
    | assumption
    | exact SqL.of upd_same
    | exact SqT.of upd_same
    | ((with_reducible apply SqL.of); assumption)
    | ((with_reducible apply SqT.of); assumption)
    | exact Same.refl _
    | exact .ty _
    | exact .str _
    | exact .int _
    | exact ⟨_, rfl⟩
    | ((with_reducible apply Dp.ty); assumption)
    | ((with_reducible apply Bl.seq_new); assumption; array_get_dec)
    | ((with_reducible apply Bl.tup_new); assumption; array_get_dec)
    | ((with_reducible apply Bl.dp_new); assumption; array_get_dec)
    | ((with_reducible apply Bl.dpa_new); assumption; array_get_dec)
    | ((with_reducible apply Bl.same_nw); assumption; array_get_dec)
    | ((with_reducible apply Bl.seq_tr); assumption; array_get_dec)
    | ((with_reducible apply Bl.tup_tr); assumption; array_get_dec)
    | ((with_reducible apply Bl.dp_tr); assumption; array_get_dec)
    | ((with_reducible apply Bl.dpa_tr); assumption; array_get_dec)
    | ((with_reducible apply Bl.same_tr); assumption; array_get_dec)
    | ((with_reducible apply Dp.ty); assumption)
    | ((with_reducible apply Dp.ty); array_get_dec)
    | ((with_reducible refine Or.inl ?_); array_get_dec)
    | ((with_reducible refine Or.inr ?_); array_get_dec)
    | ((with_reducible apply Bl.gEx); array_get_dec)))
local macro_rules | `(tactic| array_mem_dec) => `(tactic| first
  | ((with_reducible apply Bl.gIte); first
    | (refine Bl.gT (by rfl) ?_)
    | (refine Bl.gF (by rfl) ?_))
  | ((fail_if_success (with_reducible apply Bl.gIte)); (fail_if_success (with_reducible apply Bl.gLoop)); (fail_if_success (with_reducible apply Bl.gComp)); (fail_if_success (with_reducible apply Bl.gWhile)); first
    | (with_reducible intro _ _)
    | (with_reducible intro _)
    | (refine And.intro (by array_get_dec) ?_)
    | (apply Bl.gEx)
    | (refine Or.inl (And.intro (by array_get_dec) ?_))
    | (refine Or.inr (And.intro (by array_get_dec) ?_))
    | (refine Or.inl ⟨_, by array_get_dec, ?_⟩)
    | (refine Or.inr ⟨_, by array_get_dec, ?_⟩)
    ))
local macro_rules | `(tactic| sizeOf_list_dec) => `(tactic| repeat array_mem_dec)

abbrev n_twins_so : List Str := ["_law_made", "_law_rows", "_law_undone", "_law_things", "_law_twin", "_law_fresh", "_law_other"]
theorem sc_twins_so : FnScope n_twins_so ["_law_made", "_law_rows", "_law_undone", "_law_things"] (defScope s_twins_so) := ⟨rfl, rfl, rfl, by decide +kernel, rfl, by decide +kernel, by decide +kernel⟩
@[irreducible] def spTwins {K : PySem.W.Frag} {mg : Str → Option Value} (T : Top K mg) : Sp := fun vs H Q _ => ∃ (q b p t u a : Addr) (f : LFt) (ths : List (List Str)) (rws und : List (Row × Str)), vs = [.ref p, .ref t, .ref u, .ref a] ∧
  Liv K T.C_Ledger (Tbl T) H q b p f ⟨ths, rws.map (·.1), rws.map (·.2), und⟩ ∧ RowsAt K (Im q f p H) t rws ∧ RowsAt K (Im q f p H) u und ∧ ThsAt K (Im q f p H) a ths ∧ LGood ⟨ths, rws.map (·.1), rws.map (·.2), und⟩ ∧ 1 ≤ ths.length ∧ und.length ≤ 500 ∧
  ∀ (H' : Hp), Liv K T.C_Ledger (Tbl T) H' q b p f ⟨ths, rws.map (·.1), rws.map (·.2), und⟩ → Same (Im q f p H) (Im q f p H') → Q (.bl true) H'
section
variable {P : Program} {w : World} {K : PySem.W.Frag} {mg : Str → Option Value} {base : Heap}
theorem ne_led (T : Top K mg) {H : Hp} {p t : Addr} {f : LFt} {L : LSt} {xs : List V} {Q : VK} {E : XK} (A : LedAt K T.C_Ledger H p f L) (ht : SqL K H t xs) (k : Q (.bl true) H) : rOwnN K T.C_Ledger (spEqG K T.C_Ledger) E (.ref p) (.ref t) H Q := by
  unfold rOwnN spEqG
  exact ⟨p, _, _, .type "list", rfl, A.ins, tyL ht, own_nf T.ob_Ledger (by decide), .inr ⟨p, t, xs, rfl, ht, false, rfl, k⟩⟩
theorem ok_twins_so (T : Top K mg) : FnOk P w K mg base CX0 20 T.a_twins_so T.d_twins_so ["_law_made", "_law_rows", "_law_undone", "_law_things"] (spTwins T) := by
  refine T.F_twins_so.ok sc_twins_so (fun vs H Q E h => ?_) (fun cdv A outer s H vs Q E hr h => ?_)
  · unfold spTwins at h
    obtain ⟨q, b, p, t, u, a, f, ths, rws, und, rfl, _⟩ := h
    rfl
  unfold spTwins at h
  obtain ⟨q, b, p, t, u, a, f, ths, rws, und, rfl, L0, hrw, hun, hth, g, l1, u5, k⟩ := h
  refine ⟨_, (pss_cons (ps_par (i := 4) (j := 5) (by rfl) sc_twins_so.nd rfl rfl (by decide) rfl rfl (pa_cons (pe_meth0 (pv 0) T.cl_Ledger T.M_Ledger_twin (ok_Ledger_twin T) (hr.mono (by decide)) T.b_Ledger_twin .nil pass0) (pa_cons (pe_call (ok_ledger T) (hr.mono (by decide)) rfl T.m_ledger T.F_ledger.kp T.b_ledger .nil pass0 (pa_cons (pv 3) pa_nil)) pa_nil)) (by rfl))
    (pss_cons (ps_if (PW.pt (pw_or (pt_not (pt_cmpR (op_ownI T.M_Ledger___eq__.at_ T.M_Ledger___eq__.fn (ok_Ledger___eq__ T) T.b_Ledger___eq__ (hr.mono (by decide)) pass0) (pv 4) (pv 0) (nomark _))) (pw_or (pt_not (pt_val (pe_call (ok_ledger_is T) (hr.mono (by decide)) rfl T.m_ledger_is T.F_ledger_is.kp T.b_ledger_is .nil pass0 (pa_cons (pv 4) (pa_cons (pv 1) (pa_cons (pe_callB call_len_seq (by rfl) T.z_len (by decide +kernel) (pa_cons (pv 2) pa_nil)) pa_nil)))))) (pw_or1 (pt_cmpR op_ne (pe_cmpR (op_ownI T.M_Ledger___eq__.at_ T.M_Ledger___eq__.fn (ok_Ledger___eq__ T) T.b_Ledger___eq__ (hr.mono (by decide)) pass0) (pv 5) (pv 0) (nomark _)) (pe_cmpR (op_eqL hr.units) (pv 1) (pe_lst pa_nil) (nomark _)) (nomark _)))))) (pss_one (ps_ret pe_bl)) pss_nil)
    (pss_cons (ps_for PassesOwn.never rfl (pi_list (pe_ifExp (pt_cmpR (op_neL hr.units) (pv 1) (pe_lst pa_nil) (nomark _)) (pe_lst (pa_cons (pv 0) (pa_cons (pv 4) pa_nil))) (pe_lst pa_nil))) (pg_name (i := 6) sc_twins_so.nd rfl (Or.inl rfl))
    (pss_cons (ps_expr (pe_meth0 (pv 6) T.cl_Ledger T.M_Ledger_undo (ok_Ledger_undo T) (hr.mono (by decide)) T.b_Ledger_undo .nil pass0X))
    (pss_cons (ps_if (pt_cmpR (op_ownI T.M_Ledger___eq__.at_ T.M_Ledger___eq__.fn (ok_Ledger___eq__ T) T.b_Ledger___eq__ (hr.mono (by decide)) pass0) (pv 0) (pv 4) (nomark _)) (pss_one (ps_ret pe_bl)) pss_nil)
    (pss_one (ps_expr (pe_meth0 (pv 6) T.cl_Ledger T.M_Ledger_redo (ok_Ledger_redo T) (hr.mono (by decide)) T.b_Ledger_redo .nil pass0X))))))
    (pss_one (ps_ret (pe_and (pe_cmpR (op_ownN T.M_Ledger___eq__.at_ T.M_Ledger___eq__.fn (neB_of T.ne1_Ledger T.ne2_Ledger) (ok_Ledger___eq__ T) T.b_Ledger___eq__ (hr.mono (by decide)) pass0) (pv 0) (pv 1) (nomark _)) (pe_one (pe_call (ok_ledger_is T) (hr.mono (by decide)) rfl T.m_ledger_is T.F_ledger_is.kp T.b_ledger_is .nil pass0 (pa_cons (pv 4) (pa_cons (pv 1) (pa_cons (pe_callB call_len_seq (by rfl) T.z_len (by decide +kernel) (pa_cons (pv 2) pa_nil)) pa_nil))))))))))), ?_⟩
  have hins := L0.led.ins
  have hlt : f.fs.lookup ("twin" : Str) = none := LFt.lkN (by decide +kernel)
  sizeOf_list_dec
  refine twin_go L0.led g l1 (by show und.length ≤ 1000; omega) fun p2 f2 H1 l2 e1 n1 => ?_
  have M1 := L0.two l2 e1 n1
  have E1 := w2_in (q := q) (f := f) (p := p) e1 n1
  obtain ⟨ts, hts, htp⟩ := ((hth.mono E1).mono hw_le).ex
  sizeOf_list_dec
  refine ledger_go (SqL.of hts) htp g.th l1 g.t4 fun p3 f3 H2 l3 e2 n3 => ?_
  have M2 := M1.new e2
  have E2 := E1.trans (w2_same (q := q) (p := p) (f := f) (p2 := p2) (f2 := f2) e2)
  have hR2 := (hrw.mono E2).mono hw_le
  have hU2 := (hun.mono E2).mono hw_le
  obtain ⟨us, hus, hups⟩ := hR2.ex
  obtain ⟨uu, huu, huups⟩ := hU2.ex
  have hul := pr_len hups
  have huul := pr_len huups
  have hlu : f.fs.lookup ("undo" : Str) = none := LFt.lkN (by decide +kernel)
  have hlr : f.fs.lookup ("redo" : Str) = none := LFt.lkN (by decide +kernel)
  have hlu2 : f2.fs.lookup ("undo" : Str) = none := LFt.lkN (by decide +kernel)
  have hlr2 : f2.fs.lookup ("redo" : Str) = none := LFt.lkN (by decide +kernel)
  have g3 : LGood ⟨ths, [], [], []⟩ := ⟨g.th, g.t4, (fun r hr => nomatch hr), (fun z hz => nomatch hz), rfl, Nat.zero_le _⟩
  have eqr : eqL (⟨ths, rws.map (·.1), rws.map (·.2), und⟩ : LSt) ⟨ths, rws.map (·.1), rws.map (·.2), und⟩ true := .inr (.inr ⟨rfl, rfl, (decide_eq_true rfl).symm⟩)
  sizeOf_list_dec
  refine eq_led T M2.l2 M2.l1 g g eqr ?_
  sizeOf_list_dec
  refine lis_go (u := (uu.map V.ref).length) M2.l2 g rfl rfl (by rw [List.length_map, huul]) hR2 fun H3 e3 => ?_
  have M3 := M2.new e3
  have E3 := E2.trans (w2_same (q := q) (p := p) (f := f) (p2 := p2) (f2 := f2) e3)
  have l3' := l3.mono e3
  have hus3 := e3 _ _ hus
  have huu3 := e3 _ _ huu
  clear M2 E2 M1 E1 e1 e2 n1 n3 l2 l3 hus huu hts htp hR2 hU2 hups huups e3
  sizeOf_list_dec
  rcases List.eq_nil_or_concat rws with rfl | ⟨R, ⟨w, z⟩, rfl⟩
  · obtain rfl : us = [] := List.length_eq_zero_iff.mp hul
    refine eq_led T l3' M3.l1 g3 g (b := true) (.inr (.inr ⟨rfl, rfl, rfl⟩)) ?_
    sizeOf_list_dec
    rename_i em fem
    have s4 := same_new fem (.lst [])
    refine eqL_nil (SqL.of (s4 _ _ hus3)) (SqL.of upd_same) ?_
    have hus4 := s4 _ _ hus3
    have huu4 := s4 _ _ huu3
    have M4 := M3.new s4
    have E4 := E3.trans (w2_same (q := q) (p := p) (f := f) (p2 := p2) (f2 := f2) s4)
    clear s4
    generalize upd H3 em (.lst []) = H4 at *
    sizeOf_list_dec
    rename_i en fen
    have s5 := same_new fen (.lst [])
    refine neL_nil (SqL.of (s5 _ _ hus4)) (SqL.of upd_same) ?_
    sizeOf_list_dec
    rename_i ln fln
    have s6 := same_new fln (.lst [])
    have M6 := M4.new (s5.trans s6)
    have E6 := E4.trans (w2_same (q := q) (p := p) (f := f) (p2 := p2) (f2 := f2) (s5.trans s6))
    have hus6 := s6 _ _ (s5 _ _ hus4)
    have huu6 := s6 _ _ (s5 _ _ huu4)
    have hln : upd (upd H4 en (.lst [])) ln (.lst []) ln = some (.lst []) := upd_same
    clear s5 s6
    generalize upd (upd H4 en (.lst [])) ln (.lst []) = H6 at *
    refine for_list (K := K) (a := ln) (xs := []) (fun i σ Hx => Hold (Hx = H6 ∧ ∃ o6, σ = [some (.ref p), some (.ref t), some (.ref u), some (.ref a), some (.ref p2), some (.ref p3), o6])) ⟨rfl, _, rfl⟩ (fun i σ Hx _ h => by rw [h.h.1]; exact SqL.of hln) (fun i x σ Hx hi _ => nomatch hi) ?_
    rintro σ Hx ⟨rfl, o6, rfl⟩
    sizeOf_list_dec
    refine ne_led T M6.l1 (SqL.of hus6) ?_
    sizeOf_list_dec
    refine lis_go (u := (uu.map V.ref).length) M6.l2 g rfl rfl (by rw [List.length_map, huul]) ((hrw.mono E6).mono hw_le) fun H7 e7 => ?_
    have M7 := M6.new e7
    exact k H7 M7.liv ((E6.trans (w2_same (q := q) (p := p) (f := f) (p2 := p2) (f2 := f2) e7)).trans w2_out)
  · rw [List.concat_eq_append] at *
    have mF : (R ++ [(w, z)]).map (·.1) = R.map (·.1) ++ [w] := List.map_append
    have mS : (R ++ [(w, z)]).map (·.2) = R.map (·.2) ++ [z] := List.map_append
    have gS : ∀ U, LGood ⟨ths, R.map (·.1), R.map (·.2), U⟩ := fun U => ⟨g.th, g.t4, fun r hr => g.ro r (by show r ∈ (R ++ [(w, z)]).map (·.1); rw [mF]; exact List.mem_append_left _ hr), fun y hy => g.si y (by show y ∈ (R ++ [(w, z)]).map (·.2); rw [mS]; exact List.mem_append_left _ hy), by rw [List.length_map, List.length_map], by
      have := g.mx
      show (R.map (·.1)).length ≤ 200
      have h2 : ((R ++ [(w, z)]).map (·.1)).length ≤ 200 := this
      rw [mF, List.length_append] at h2
      omega⟩
    have hRl : (R ++ [(w, z)]).length = R.length + 1 := by rw [List.length_append]; rfl
    have hR200 : R.length + 1 ≤ 200 := by
      have h2 : ((R ++ [(w, z)]).map (·.1)).length ≤ 200 := g.mx
      rw [List.length_map, hRl] at h2
      exact h2
    refine eq_led T l3' M3.l1 g3 g (b := false) (.inr (.inl ⟨rfl, by show (0 : Nat) ≠ ((R ++ [(w, z)]).map (·.1)).length; rw [List.length_map, hRl]; omega, rfl⟩)) ?_
    have hus0 : (us.map V.ref).length ≠ 0 := by rw [List.length_map, hul, hRl]; omega
    sizeOf_list_dec
    rename_i em fem
    have s4 := same_new fem (.lst [])
    refine eqL_ne (SqL.of (s4 _ _ hus3)) (SqL.of upd_same) hus0 ?_
    have hus4 := s4 _ _ hus3
    have huu4 := s4 _ _ huu3
    have M4 := M3.new s4
    have E4 := E3.trans (w2_same (q := q) (p := p) (f := f) (p2 := p2) (f2 := f2) s4)
    clear s4
    generalize upd H3 em (.lst []) = H4 at *
    sizeOf_list_dec
    rename_i en fen
    have s5 := same_new fen (.lst [])
    refine neL_ne (SqL.of (s5 _ _ hus4)) (SqL.of upd_same) hus0 ?_
    sizeOf_list_dec
    rename_i ln fln
    have s6 := same_new fln (.lst [.ref p, .ref p2])
    have M6 := M4.new (s5.trans s6)
    have E6 := E4.trans (w2_same (q := q) (p := p) (f := f) (p2 := p2) (f2 := f2) (s5.trans s6))
    have hln : hw (W2 q p f p2 f2) (upd (upd H4 en (.lst [])) ln (.lst [.ref p, .ref p2])) ln = some (.lst [.ref p, .ref p2]) := hw_new fln (M4.new s5).exs (fun _ h => nomatch h)
    clear s5 s6
    generalize upd (upd H4 en (.lst [])) ln (.lst [.ref p, .ref p2]) = H6 at *
    refine for_list (K := K) (a := ln) (xs := [.ref p, .ref p2]) (fun i σ Hx => Hold (Same (hw (W2 q p f p2 f2) H6) (hw (W2 q p f p2 f2) Hx) ∧ Two K T.C_Ledger (Tbl T) Hx q b p f ⟨ths, (R ++ [(w, z)]).map (·.1), (R ++ [(w, z)]).map (·.2), und⟩ p2 f2 ⟨ths, (R ++ [(w, z)]).map (·.1), (R ++ [(w, z)]).map (·.2), und⟩ ∧ ∃ o6, σ = [some (.ref p), some (.ref t), some (.ref u), some (.ref a), some (.ref p2), some (.ref p3), o6]))
      ⟨Same.refl _, M6, _, rfl⟩ (fun i σ Hx _ h => SqL.of (hw_le _ _ (h.h.1 _ _ hln))) ?_ ?_
    · rintro i x σ Hx hi ⟨ex, Mx, o6, rfl⟩
      obtain ⟨rfl, rfl⟩ | ⟨rfl, rfl⟩ : (i = 0 ∧ V.ref p = x) ∨ (i = 1 ∧ V.ref p2 = x) := by
        match i, hi with
        | 0, h => exact .inl ⟨rfl, Option.some.inj h⟩
        | 1, h => exact .inr ⟨rfl, Option.some.inj h⟩
      · have hinsx := Mx.l1.ins
        sizeOf_list_dec
        refine undo_go Mx.l1 mF mS (by show und.length ≤ 1000; omega) fun H7 l7 F7 => ?_
        have M7 := Mx.wrote l7 F7
        sizeOf_list_dec
        refine eq_led T M7.l1 M7.l2 (gS _) g (b := false) (.inr (.inl ⟨rfl, by show (R.map (·.1)).length ≠ ((R ++ [(w, z)]).map (·.1)).length; rw [List.length_map, List.length_map, hRl]; omega, rfl⟩)) ?_
        have hins7 := M7.l1.ins
        sizeOf_list_dec
        refine redo_go (U := und) (w := w) (z := z) M7.l1 rfl (by show (R.map (·.1)).length ≤ 1000; rw [List.length_map]; omega) (by show (R.map (·.2)).length ≤ 1000; rw [List.length_map]; omega) fun H8 l8 F8 => ?_
        have l8 : LedAt K T.C_Ledger H8 p f ⟨ths, R.map (·.1) ++ [w], R.map (·.2) ++ [z], und⟩ := l8
        rw [← mF, ← mS] at l8
        exact ⟨ex.trans ((w2_wrote (q := q) (p := p) (f := f) (p2 := p2) (f2 := f2) F7).trans (w2_wrote (q := q) (p := p) (f := f) (p2 := p2) (f2 := f2) F8)), M7.wrote l8 F8, _, rfl⟩
      · have hinsx := Mx.l2.ins
        sizeOf_list_dec
        refine undo_go Mx.l2 mF mS (by show und.length ≤ 1000; omega) fun H7 l7 F7 => ?_
        have M7 := Mx.swap.wrote l7 F7
        sizeOf_list_dec
        refine eq_led T M7.l2 M7.l1 g (gS _) (b := false) (.inr (.inl ⟨rfl, by show ((R ++ [(w, z)]).map (·.1)).length ≠ (R.map (·.1)).length; rw [List.length_map, List.length_map, hRl]; omega, rfl⟩)) ?_
        have hins7 := M7.l1.ins
        sizeOf_list_dec
        refine redo_go (U := und) (w := w) (z := z) M7.l1 rfl (by show (R.map (·.1)).length ≤ 1000; rw [List.length_map]; omega) (by show (R.map (·.2)).length ≤ 1000; rw [List.length_map]; omega) fun H8 l8 F8 => ?_
        have l8 : LedAt K T.C_Ledger H8 p2 f2 ⟨ths, R.map (·.1) ++ [w], R.map (·.2) ++ [z], und⟩ := l8
        rw [← mF, ← mS] at l8
        exact ⟨ex.trans ((w2_wrote2 (q := q) (p := p) (f := f) (p2 := p2) (f2 := f2) F7).trans (w2_wrote2 (q := q) (p := p) (f := f) (p2 := p2) (f2 := f2) F8)), (M7.wrote l8 F8).swap, _, rfl⟩
    rintro σ Hx ⟨ex, Mx, o6, rfl⟩
    have E7 := E6.trans ex
    have hRx := (hrw.mono E7).mono hw_le
    have hUx := (hun.mono E7).mono hw_le
    obtain ⟨us7, hus7, _⟩ := hRx.ex
    obtain ⟨uu7, huu7, huups7⟩ := hUx.ex
    have huul7 := pr_len huups7
    sizeOf_list_dec
    refine ne_led T Mx.l1 (SqL.of hus7) ?_
    sizeOf_list_dec
    refine lis_go (u := (uu7.map V.ref).length) Mx.l2 g rfl rfl (by rw [List.length_map, huul7]) hRx fun H7 e7 => ?_
    have M7 := Mx.new e7
    exact k H7 M7.liv ((E7.trans (w2_same (q := q) (p := p) (f := f) (p2 := p2) (f2 := f2) e7)).trans w2_out)
end
end Bl

namespace Bl
open PySem L2
open SX (S)
/-! short words: array_get_dec closes a side condition; array_mem_dec goes one step into a reading; sizeOf_list_dec goes on while it can -/
local macro_rules | `(tactic| array_get_dec) => `(tactic| first
  | (with_reducible assumption)
  | ((with_reducible apply Bl.gEq); first
    | rfl
    | assumption
    | exact upd_same
    | (with_reducible exact kit_d some_str)
    | (with_reducible exact kit_d some_int)
    | (with_reducible exact kit_d some_bool)
    | (with_reducible exact kit_d some_list)
    | (with_reducible exact kit_d some_tuple)
    | ((with_reducible apply Bl.get_new); assumption; array_get_dec)
    | ((with_reducible apply Bl.get_tr); assumption; array_get_dec)
    )
  | ((with_reducible apply Bl.gLe); first
    | omega
    | exact small (by omega)
    | exact small (by simp only [List.length_cons, List.length_nil]; decide)
    | exact small (by simp only [List.length_append, List.length_cons, List.length_nil]; omega)
    | decide)
  | ((with_reducible apply Bl.gLt); first
    | omega
    | exact small' (by omega)
    | exact small' (by simp only [List.length_cons, List.length_nil]; decide)
    | decide)
  | ((fail_if_success (with_reducible apply Bl.gEq)); (fail_if_success (with_reducible apply Bl.gLe)); (fail_if_success (with_reducible apply Bl.gLt)); first
    | assumption
    | exact SqL.of upd_same
    | exact SqT.of upd_same
    | ((with_reducible apply SqL.of); assumption)
    | ((with_reducible apply SqT.of); assumption)
    | exact Same.refl _
    | exact .ty _
    | exact .str _
    | exact .int _
    | exact ⟨_, rfl⟩
    | ((with_reducible apply Dp.ty); assumption)
    | ((with_reducible apply Bl.seq_new); assumption; array_get_dec)
    | ((with_reducible apply Bl.tup_new); assumption; array_get_dec)
    | ((with_reducible apply Bl.dp_new); assumption; array_get_dec)
    | ((with_reducible apply Bl.dpa_new); assumption; array_get_dec)
    | ((with_reducible apply Bl.same_nw); assumption; array_get_dec)
    | ((with_reducible apply Bl.seq_tr); assumption; array_get_dec)
    | ((with_reducible apply Bl.tup_tr); assumption; array_get_dec)
    | ((with_reducible apply Bl.dp_tr); assumption; array_get_dec)
    | ((with_reducible apply Bl.dpa_tr); assumption; array_get_dec)
    | ((with_reducible apply Bl.same_tr); assumption; array_get_dec)
    | ((with_reducible apply Dp.ty); assumption)
    | ((with_reducible apply Dp.ty); array_get_dec)
    | ((with_reducible refine Or.inl ?_); array_get_dec)
    | ((with_reducible refine Or.inr ?_); array_get_dec)
    | ((with_reducible apply Bl.gEx); array_get_dec)))
local macro_rules | `(tactic| array_mem_dec) => `(tactic| first
  | ((with_reducible apply Bl.gIte); first
    | (refine Bl.gT (by rfl) ?_)
    | (refine Bl.gF (by rfl) ?_))
  | ((fail_if_success (with_reducible apply Bl.gIte)); (fail_if_success (with_reducible apply Bl.gLoop)); (fail_if_success (with_reducible apply Bl.gComp)); (fail_if_success (with_reducible apply Bl.gWhile)); first
    | (with_reducible intro _ _)
    | (with_reducible intro _)
    | (refine And.intro (by array_get_dec) ?_)
    | (apply Bl.gEx)
    | (refine Or.inl (And.intro (by array_get_dec) ?_))
    | (refine Or.inr (And.intro (by array_get_dec) ?_))
    | (refine Or.inl ⟨_, by array_get_dec, ?_⟩)
    | (refine Or.inr ⟨_, by array_get_dec, ?_⟩)
    ))
local macro_rules | `(tactic| sizeOf_list_dec) => `(tactic| repeat array_mem_dec)

theorem box_hide {H : Hp} {u q b : Addr} (B : BoxAt H q b) (h1 : q ≠ u) (h2 : b ≠ u) : BoxAt (hide u H) q b := by
  obtain ⟨ns, i, w, m, c, hp, hl, r⟩ := B
  have n : b ≠ q := by
    rintro rfl
    rw [hide_at] at hl
    cases hl
  rw [hide_ne n] at hl
  exact ⟨ns, i, w, m, c, by rw [hide_ne h1]; exact hp, by rw [hide_ne n, hide_ne h2]; exact hl, r⟩
theorem tabs_hide {Tb : List (Addr × Str)} {H : Hp} {u : Addr} {ks : List (Key × V)} (t : LamX.Tabs Tb H) (hu : H u = some (.dK ks)) : LamX.Tabs Tb (hide u H) := by
  have key : ∀ a o, H a = some o → (∀ ks, o ≠ .dK ks) → hide u H a = some o := fun a o h n => by
    rw [hide_ne]
    · exact h
    · rintro rfl
      rw [hu] at h
      exact n _ (Option.some.inj h).symm
  intro x hx
  obtain ⟨ps, h1, h2, h3⟩ := t x hx
  exact ⟨ps, key _ _ h1 (fun _ h => nomatch h), h2, fun pos cv hc => by
    obtain ⟨c', e1, e2⟩ := h3 pos cv hc
    exact ⟨c', e1, key _ _ e2 (fun _ h => nomatch h)⟩⟩
theorem hide_ext {H H' : Hp} {u : Addr} (e : LamX.ExtN H H') : LamX.ExtN (hide u H) (hide u H') := fun b o h n => by
  have nb : b ≠ u := by
    rintro rfl
    rw [hide_at] at h
    cases h
  rw [hide_ne nb] at h ⊢
  exact e _ _ h n
theorem hide_fr {H H' : Hp} {u : Addr} {S : List Addr} (e : Fr S H H') : Fr S (hide u H) (hide u H') := fun b o h n => by
  have nb : b ≠ u := by
    rintro rfl
    rw [hide_at] at h
    cases h
  rw [hide_ne nb] at h ⊢
  exact e _ _ h n
theorem hide_ne_of {H : Hp} {u b : Addr} {o : HO} (h : hide u H b = some o) : b ≠ u := by
  rintro rfl
  rw [hide_at] at h
  cases h
theorem tup_hwD {W : List Addr} {H : Hp} {t : Addr} {xs : List V} (h : H t = some (.tup xs)) (hW : ∀ x ∈ W, ListIns H x ∨ ∃ ks, H x = some (.dK ks)) : hw W H t = some (.tup xs) := hw_of h (fun k => by
  rcases hW t k with (⟨ys, e⟩ | ⟨C, dx, fs, e⟩) | ⟨ks, e⟩
  all_goals
    rw [h] at e
    cases e) (fun _ h => nomatch h)
theorem res_hwD {W : List Addr} {H : Hp} {t : Addr} {R : AddR} (h : ResAt H t R) (hW : ∀ x ∈ W, ListIns H x ∨ ∃ ks, H x = some (.dK ks)) : ResAt (hw W H) t R := by
  cases R with
  | full => exact h.elim
  | taken z => exact tup_hwD h hW
  | ok z => exact tup_hwD h hW
  | torn a b =>
    obtain ⟨w, h1, h2⟩ := h
    exact ⟨w, tup_hwD h1 hW, tup_hwD h2 hW⟩
theorem hide_put2 {H : Hp} {u : Addr} {o : HO} : Same (hide u H) (upd H u o) := fun b x h => by
  have n := hide_ne_of h
  rw [hide_ne n] at h
  rw [upd_ne n]
  exact h
theorem hw_put {W : List Addr} {H : Hp} {u : Addr} {o : HO} : Same (hw (u :: W) H) (hw W (upd H u o)) := fun b x h => by
  obtain ⟨h1, h2, h3⟩ := hw_get h
  have n : b ≠ u := fun q => h2 (q ▸ List.mem_cons_self)
  exact hw_of (by rw [upd_ne n]; exact h1) (fun q => h2 (List.mem_cons_of_mem _ q)) h3
theorem after_not {L : LSt} {r : Row} {R : AddR} (h : ∀ z, R ≠ .ok z) : after L r R = L := by
  cases R with
  | ok z => exact absurd rfl (h z)
  | _ => rfl
section
variable {K : PySem.W.Frag} {mg : Str → Option Value}
theorem got_addN (T : Top K mg) {i j : Nat} {σ : L2.St} {H : Hp} {Q : VK} {q b p u : Addr} {f : LFt} {L : LSt} {r : Row} (i5 : σ[i]? = some (some (.ref p))) (i11 : σ[j]? = some (some (.ref u)))
    (LH : Liv K T.C_Ledger (Tbl T) (hide u H) q b p f L) (hu : H u = some (.dK (rowK r))) (g : LGood L) (hV : RowV r) (nd : (r.map (·.1)).Nodup)
    (k : ∀ (v : V) (f' : LFt) (H' : Hp), Liv K T.C_Ledger (Tbl T) (hide u H') q b p f' (after L r (addR L r none)) → Same (hw (u :: Wb q f p) H) (hw (u :: Wb q f' p) H') → H' u = some (.dK (rowK r)) → Dp K H' v (resD (addR L r none)) → Q v H') :
    tGL T (Tbl T) (fun x => tMeth T.C_Ledger "add" (spAdd T) [V.non] x (tVar i) (tCons (tVar j) tNil)) σ H Q := by
  unfold tGL
  refine ⟨tabs_of LH.tabs hide_le, fun H1 e1 t1 => ?_⟩
  have hu1 : H1 u = some (.dK (rowK r)) := e1 _ _ hu (fun _ h => nomatch h)
  have L1 := LH.ext (hide_ext e1) (tabs_hide t1 hu1)
  have Lr := L1.new hide_le
  have E1 : Same (hw (u :: Wb q f p) H) (hw (u :: Wb q f p) H1) := hw_ext e1
  refine ⟨_, i5, p, _, _, rfl, Lr.led.ins, LFt.lkN (by decide +kernel), ?_⟩
  refine ⟨_, i11, ?_⟩
  show spAdd T [.ref p, .ref u, sdV none] _ _ _
  unfold spAdd
  refine ⟨p, u, f, L, r, none, rfl, (fun _ h => nomatch h), Lr.led, g, hu1, hV, nd, ?_⟩
  cases hR : addR L r none with
  | ok z =>
    rw [hR] at k
    intro au H3 l3 F3 n3 hh
    have L3 := L1.wrote (hh L1.led) (hide_fr F3) (hide_free n3)
    have nu : u ∉ f.wr p := fun h => by
      rcases L1.led.li u (LFt.wr_all h) with ⟨ys, e⟩ | ⟨C, dx, fs, e⟩
      · rw [hide_at] at e
        cases e
      · rw [hide_at] at e
        cases e
    have hu3 := F3 _ _ hu1 nu
    refine ⟨by show 2 ≤ sizeLine; decide, fun v fv => ?_⟩
    have s4 := same_new fv (.tup [.str "", .str z])
    have E3 : Same (hw (u :: Wb q f p) H1) (hw (u :: Wb q { f with un := au } p) H3) := hw_fr F3 (fun x hx => List.mem_cons_of_mem _ (List.mem_cons_of_mem _ hx)) fun x hx => by
      rcases List.mem_cons.mp hx with rfl | hx
      · exact .inl List.mem_cons_self
      rcases List.mem_cons.mp hx with rfl | hx
      · exact .inl (List.mem_cons_of_mem _ List.mem_cons_self)
      · simp only [LFt.wr, List.mem_cons, List.not_mem_nil, or_false] at hx
        rcases hx with k | k | k | k
        · exact .inl (by simp [Wb, LFt.wr, k])
        · exact .inl (by simp [Wb, LFt.wr, k])
        · exact .inl (by simp [Wb, LFt.wr, k])
        · exact .inr (k ▸ n3)
    exact k _ _ _ (L3.new (hide_mono s4)) (E1.trans (E3.trans (hw_same s4))) (s4 _ _ hu3) (.tup (SqT.of upd_same) (.cons (.str _) (.cons (.str _) .nil)))
  | full =>
    rw [hR] at k
    intro cls e H3 rs s3
    exact ⟨_, _, [.int 200], rs.hand, .cons (.int _) .nil, rs.any, fun v H4 s4 hv => k v f H4 (L1.new (hide_mono (s3.trans s4))) (E1.trans (hw_same (s3.trans s4))) (s4 _ _ (s3 _ _ hu1)) hv⟩
  | torn x y =>
    rw [hR] at k
    intro cls e H3 rs s3
    exact ⟨_, _, [.int (x : Nat), .int (y : Nat)], rs.hand, .cons (.int _) (.cons (.int _) .nil), rs.any, fun v H4 s4 hv => k v f H4 (L1.new (hide_mono (s3.trans s4))) (E1.trans (hw_same (s3.trans s4))) (s4 _ _ (s3 _ _ hu1)) hv⟩
  | taken z =>
    rw [hR] at k
    intro cls e H3 rs s3
    exact ⟨_, _, [.str z], rs.hand, .cons (.str _) .nil, rs.any, fun v H4 s4 hv => k v f H4 (L1.new (hide_mono (s3.trans s4))) (E1.trans (hw_same (s3.trans s4))) (s4 _ _ (s3 _ _ hu1)) hv⟩
end
section
variable {K : PySem.W.Frag} {C : Addr} {Tb : List (Addr × Str)} {H H' : Hp} {q b p p2 au D : Addr} {f f2 : LFt} {L L2 L' : LSt}
theorem Two.put (h : Two K C Tb H q b p f L p2 f2 L2) {xs ys : List V} (hD : H D = some (.lst xs)) (n : D ∉ q :: b :: (f.all p ++ f2.all p2)) : Two K C Tb (upd H D (.lst ys)) q b p f L p2 f2 L2 := by
  have e : Fr [D] H (upd H D (.lst ys)) := (Fr.of (Same.refl H)).put List.mem_cons_self
  have li : ∀ x ∈ [D], ListIns H x := fun x hx => by
    rw [List.mem_singleton.mp hx]
    exact .inl ⟨xs, hD⟩
  have ne : ∀ x ∈ q :: b :: (f.all p ++ f2.all p2), x ∉ [D] := fun x hx hm => n (List.mem_singleton.mp hm ▸ hx)
  exact ⟨box_fr h.box e (ne _ List.mem_cons_self) (ne _ (List.mem_cons_of_mem _ List.mem_cons_self)), h.l1.frame e li fun x hx => ne x (List.mem_cons_of_mem _ (List.mem_cons_of_mem _ (List.mem_append_left _ hx))),
    h.l2.frame e li fun x hx => ne x (List.mem_cons_of_mem _ (List.mem_cons_of_mem _ (List.mem_append_right _ hx))), tabs_fr h.tabs e li, h.o1, h.o2, h.dj⟩
theorem Two.exAll (h : Two K C Tb H q b p f L p2 f2 L2) : ∀ x ∈ q :: b :: (f.all p ++ f2.all p2), ∃ u, H x = some u := fun x hx => by
  rcases List.mem_cons.mp hx with rfl | hx
  · exact (box_two h.box).1
  rcases List.mem_cons.mp hx with rfl | hx
  · exact (box_two h.box).2
  rcases List.mem_append.mp hx with hx | hx
  · exact h.l1.tr x hx
  · exact h.l2.tr x hx
theorem Two.free (h : Two K C Tb H q b p f L p2 f2 L2) (hD : H D = none) : D ∉ q :: b :: (f.all p ++ f2.all p2) := fun k => by
  obtain ⟨u, e⟩ := h.exAll D k
  rw [hD] at e
  cases e
theorem Two.add2 (h : Two K C Tb H q b p f L p2 f2 L2) (l : LedAt K C H' p2 { f2 with un := au } L') (e : Fr (f2.wr p2) H H') (na : H au = none) : Two K C Tb H' q b p f L p2 { f2 with un := au } L' := by
  have li : ∀ x ∈ f2.wr p2, ListIns H x := fun x hx => h.l2.li x (LFt.wr_all hx)
  have tr : Tr H [q, b] := Tr.cons (box_two h.box).1.choose_spec (Tr.cons (box_two h.box).2.choose_spec .nil)
  exact ⟨box_fr h.box e (fun k => h.o2 q (by simp) (LFt.wr_all k)) (fun k => h.o2 b (by simp) (LFt.wr_all k)), h.l1.frame e li (fun x hx hm => h.dj x hx (LFt.wr_all hm)), l, tabs_fr h.tabs e li, h.o1, Out.unA tr na h.o2, Out.unA h.l1.tr na h.dj⟩
theorem w2_add2 (e : Fr (f2.wr p2) H H') (na : H au = none) : Same (hw (W2 q p f p2 f2) H) (hw (W2 q p f p2 { f2 with un := au }) H') := hw_fr e (fun x hx => List.mem_cons_of_mem _ (List.mem_append_right _ hx)) fun x hx => by
  rcases List.mem_cons.mp hx with rfl | hx
  · exact .inl List.mem_cons_self
  rcases List.mem_append.mp hx with hx | hx
  · exact .inl (List.mem_cons_of_mem _ (List.mem_append_left _ hx))
  · simp only [LFt.wr, List.mem_cons, List.not_mem_nil, or_false] at hx
    rcases hx with k | k | k | k
    · exact .inl (by simp [W2, LFt.wr, k])
    · exact .inl (by simp [W2, LFt.wr, k])
    · exact .inl (by simp [W2, LFt.wr, k])
    · exact .inr (k ▸ na)
theorem hw_late {W W' : List Addr} {o : HO} (e : Same (hw W H) (hw W' H')) (hD : H D = none) : Same (hw W H) (hw W' (upd H' D o)) := fun b x h => by
  have h1 := e b x h
  obtain ⟨k1, k2, k3⟩ := hw_get h1
  have n : b ≠ D := by
    rintro rfl
    obtain ⟨k4, _⟩ := hw_get h
    rw [hD] at k4
    cases k4
  exact hw_of (by rw [upd_ne n]; exact k1) k2 k3
end
section
variable {K : PySem.W.Frag} {mg : Str → Option Value}
theorem add_ok_go (T : Top K mg) {p d : Addr} {f : LFt} {L : LSt} {r : Row} {z : Str} {H : Hp} {Q : VK} {E : XK} (L0 : LedAt K T.C_Ledger H p f L) (g : LGood L) (hd : H d = some (.dK (rowK r))) (hV : RowV r) (nd : (r.map (·.1)).Nodup) (hz : lotB z = true) (hR : addR L r (some z) = .ok z)
    (k : ∀ (au : Addr) (H' : Hp), LedAt K T.C_Ledger H' p { f with un := au } ⟨L.things, L.rows ++ [r], L.sides ++ [z], []⟩ → Fr (f.wr p) H H' → H au = none → Q (.str z) H') : spAdd T [.ref p, .ref d, .str z] H Q E := by
  show spAdd T [.ref p, .ref d, sdV (some z)] _ _ _
  unfold spAdd
  refine ⟨p, d, f, L, r, some z, rfl, (fun y e => Option.some.inj e ▸ hz), L0, g, hd, hV, nd, ?_⟩
  rw [hR]
  exact fun au H' a b c _ => k au H' a b c
theorem snd_at {ths : List (List Str)} {rws ys : List (Row × Str)} {j : Nat} (h : Snd ths (rws ++ ys)) (hj : j < rws.length) : addR ⟨ths, (rws.take j).map (·.1), (rws.take j).map (·.2), []⟩ rws[j].1 (some rws[j].2) = .ok rws[j].2 :=
  h (rws.take j) rws[j] (rws.drop (j + 1) ++ ys) (by
    rw [← List.cons_append, ← List.append_assoc, List.getElem_cons_drop, List.take_append_drop])
theorem good_take {ths : List (List Str)} {rws : List (Row × Str)} {j : Nat} (h3 : ∀ th ∈ ths, ThV th) (h4 : ths.length ≤ 4) (hl : rws.length ≤ 200) (ok : ∀ x ∈ rws, lotB x.2 = true ∧ RowV x.1 ∧ (x.1.map fun y : Str × Str => y.1).Nodup) : LGood ⟨ths, (rws.take j).map (·.1), (rws.take j).map (·.2), []⟩ := ⟨h3, h4, fun r hr => by
    obtain ⟨x, hx, rfl⟩ := List.mem_map.mp hr
    exact (ok x (List.mem_of_mem_take hx)).2, fun z hz => by
    obtain ⟨x, hx, rfl⟩ := List.mem_map.mp hz
    exact (ok x (List.mem_of_mem_take hx)).1, by rw [List.length_map, List.length_map], by
    show ((rws.take j).map (·.1)).length ≤ 200
    rw [List.length_map, List.length_take]
    omega⟩
end
theorem sorted_eq : ∀ {a b : List Nat}, a.Perm b → a.Pairwise (· ≤ ·) → b.Pairwise (· ≤ ·) → a = b
  | [], b, h, _, _ => (List.nil_perm.mp h).symm
  | x :: a, [], h, _, _ => by
    have := h.length_eq
    cases this
  | x :: a, y :: b, h, ha, hb => by
    have hx : x ∈ y :: b := h.mem_iff.mp List.mem_cons_self
    have hy : y ∈ x :: a := h.mem_iff.mpr List.mem_cons_self
    have h1 : x ≤ y := by
      rcases List.mem_cons.mp hy with e | hy
      · exact Nat.le_of_eq e.symm
      · exact (List.pairwise_cons.mp ha).1 y hy
    have h2 : y ≤ x := by
      rcases List.mem_cons.mp hx with e | hx
      · exact Nat.le_of_eq e.symm
      · exact (List.pairwise_cons.mp hb).1 x hx
    obtain rfl : x = y := Nat.le_antisymm h1 h2
    rw [sorted_eq (List.Perm.cons_inv h) (List.pairwise_cons.mp ha).2 (List.pairwise_cons.mp hb).2]
theorem grp_uniq {ms : List (List NestedKey)} {s : Nat} {a b : List Nat} (h : GrpOf ms s a) (k : GrpOf ms s b) : a = b := sorted_eq (h.perm.trans k.perm.symm) h.so k.so
def nnD (nss : List (List Nat)) : PyData := .list (nss.map natsD)
theorem can_nats {a : List Nat} : PyData.canLay0 (natsD a) = true := by
  unfold natsD
  rw [PyData.canLay0]
  exact canAll_map fun _ _ => rfl
theorem shaped_nn {nss : List (List Nat)} : SeqAt.shaped (nnD nss) = true := by
  unfold SeqAt.shaped nnD
  rw [PyData.canLay0, canAll_map (fun a _ => can_nats), Bool.true_and]
  refine decide_eq_true ?_
  rw [PyData.depth]
  have := depthAll_map (g := natsD) (as := nss) (n := 2) fun a _ => by
    unfold natsD
    rw [PyData.depth]
    have := depthAll_map (g := fun n : Nat => PyData.int (n : Int)) (as := a) (n := 1) fun a _ => by rw [PyData.depth]; try omega
    omega
  omega
theorem dpa_nn {K : PySem.W.Frag} {H : Hp} {as : List Addr} {nss : List (List Nat)} (p : PySem.Paired (fun (a : Addr) ns => H a = some (.lst (intL ns))) as nss) : DpAll K H (as.map V.ref) (nss.map natsD) := by
  induction p with
  | nil => exact .nil
  | cons r _ ih => exact .cons (dp_nats (SqL.of r)) ih
/-- the groups of all rows -/
def GrpsAt (ms : List (List NestedKey)) (n : Nat) (H : Hp) (g : Addr) : Prop := ∃ (as : List Addr) (nss : List (List Nat)), H g = some (.lst (as.map V.ref)) ∧ nss.length = n ∧ (∀ i (h : i < nss.length), GrpOf ms i nss[i]) ∧ PySem.Paired (fun (a : Addr) ns => H a = some (.lst (intL ns))) as nss
theorem GrpsAt.mono {ms : List (List NestedKey)} {n : Nat} {H H' : Hp} {g : Addr} (h : GrpsAt ms n H g) (e : Same H H') : GrpsAt ms n H' g := by
  obtain ⟨as, nss, h1, h2, h3, h4⟩ := h
  exact ⟨as, nss, e _ _ h1, h2, h3, prMp h4 fun _ _ z => e _ _ z⟩
theorem grps_same {K : PySem.W.Frag} {ms : List (List NestedKey)} {n : Nat} {H : Hp} {g g' : Addr} (h : GrpsAt ms n H g) (k : GrpsAt ms n H g') : ∃ nss, Dp K H (.ref g) (nnD nss) ∧ Dp K H (.ref g') (nnD nss) := by
  obtain ⟨as, nss, h1, h2, h3, h4⟩ := h
  obtain ⟨bs, mss, k1, k2, k3, k4⟩ := k
  obtain rfl : nss = mss := List.ext_getElem (h2.trans k2.symm) fun i x y => grp_uniq (h3 i x) (k3 i y)
  exact ⟨nss, .lst (SqL.of h1) (dpa_nn h4), .lst (SqL.of k1) (dpa_nn k4)⟩
theorem eqv_nn {nss : List (List Nat)} : PyData.eqv (nnD nss) (nnD nss) = true := by
  exact SeqAt.eqv_refl _ (SeqAt.canLay_of_shaped shaped_nn)
end Bl

namespace Bl
open PySem L2
open SX (S)
/-! short words: array_get_dec closes a side condition; array_mem_dec goes one step into a reading; sizeOf_list_dec goes on while it can -/
local macro_rules | `(tactic| array_get_dec) => `(tactic| first
  | (with_reducible assumption)
  | ((with_reducible apply Bl.gEq); first
    | rfl
    | assumption
    | exact upd_same
    | (with_reducible exact kit_d some_str)
    | (with_reducible exact kit_d some_int)
    | (with_reducible exact kit_d some_bool)
    | (with_reducible exact kit_d some_list)
    | (with_reducible exact kit_d some_tuple)
    | ((with_reducible apply Bl.get_new); assumption; array_get_dec)
    | ((with_reducible apply Bl.get_tr); assumption; array_get_dec)
    )
  | ((with_reducible apply Bl.gLe); first
    | omega
    | exact small (by omega)
    | exact small (by simp only [List.length_cons, List.length_nil]; decide)
    | exact small (by simp only [List.length_append, List.length_cons, List.length_nil]; omega)
    | decide)
  | ((with_reducible apply Bl.gLt); first
    | omega
    | exact small' (by omega)
    | exact small' (by simp only [List.length_cons, List.length_nil]; decide)
    | decide)
  | ((fail_if_success (with_reducible apply Bl.gEq)); (fail_if_success (with_reducible apply Bl.gLe)); (fail_if_success (with_reducible apply Bl.gLt)); first
    | assumption
    | exact SqL.of upd_same
    | exact SqT.of upd_same
    | ((with_reducible apply SqL.of); assumption)
    | ((with_reducible apply SqT.of); assumption)
    | exact Same.refl _
    | exact .ty _
    | exact .str _
    | exact .int _
    | exact ⟨_, rfl⟩
    | ((with_reducible apply Dp.ty); assumption)
    | ((with_reducible apply Bl.seq_new); assumption; array_get_dec)
    | ((with_reducible apply Bl.tup_new); assumption; array_get_dec)
    | ((with_reducible apply Bl.dp_new); assumption; array_get_dec)
    | ((with_reducible apply Bl.dpa_new); assumption; array_get_dec)
    | ((with_reducible apply Bl.same_nw); assumption; array_get_dec)
    | ((with_reducible apply Bl.seq_tr); assumption; array_get_dec)
    | ((with_reducible apply Bl.tup_tr); assumption; array_get_dec)
    | ((with_reducible apply Bl.dp_tr); assumption; array_get_dec)
    | ((with_reducible apply Bl.dpa_tr); assumption; array_get_dec)
    | ((with_reducible apply Bl.same_tr); assumption; array_get_dec)
    | ((with_reducible apply Dp.ty); assumption)
    | ((with_reducible apply Dp.ty); array_get_dec)
    | ((with_reducible refine Or.inl ?_); array_get_dec)
    | ((with_reducible refine Or.inr ?_); array_get_dec)
    | ((with_reducible apply Bl.gEx); array_get_dec)))
local macro_rules | `(tactic| array_mem_dec) => `(tactic| first
  | ((with_reducible apply Bl.gIte); first
    | (refine Bl.gT (by rfl) ?_)
    | (refine Bl.gF (by rfl) ?_))
  | ((fail_if_success (with_reducible apply Bl.gIte)); (fail_if_success (with_reducible apply Bl.gLoop)); (fail_if_success (with_reducible apply Bl.gComp)); (fail_if_success (with_reducible apply Bl.gWhile)); first
    | (with_reducible intro _ _)
    | (with_reducible intro _)
    | (refine And.intro (by array_get_dec) ?_)
    | (apply Bl.gEx)
    | (refine Or.inl (And.intro (by array_get_dec) ?_))
    | (refine Or.inr (And.intro (by array_get_dec) ?_))
    | (refine Or.inl ⟨_, by array_get_dec, ?_⟩)
    | (refine Or.inr ⟨_, by array_get_dec, ?_⟩)
    ))
local macro_rules | `(tactic| sizeOf_list_dec) => `(tactic| repeat array_mem_dec)

abbrev n_law : List Str := ["_law_script", "_law_box_here", "_law_turn", "_law_words", "_law_things", "_law_made", "_law_rows", "_law_undone", "_law_k", "_law_way", "_law_late", "_law_row", "_law_due", "_law_again", "_law_sides", "_law_groups", "_law_lot", "_law_one"]
theorem sc_law : FnScope n_law ["_law_script"] (defScope s_law) := ⟨rfl, rfl, rfl, by decide +kernel, rfl, by decide +kernel, by decide +kernel⟩
@[irreducible] def spLaw {K : PySem.W.Frag} {mg : Str → Option Value} (T : Top K mg) : Sp := fun vs H Q _ => ∃ (a : Addr) (ns : List Int), vs = [.ref a] ∧ SqL K H a (ns.map V.int) ∧ ns.length ≤ 63 ∧ H T.P_law = some (.tbl #[]) ∧ H T.P_lived = some (.tbl #[]) ∧ H T.P_ledger_back = some (.tbl #[]) ∧ ∀ H', Q (.bl true) H'
/-- a ledger, the law's rows of it, and what was undone -/
structure Day {K : PySem.W.Frag} {mg : Str → Option Value} (T : Top K mg) (q b wd a2 : Addr) (zs : List Str) (ths : List (List Str)) (m : Nat) (H : Hp) (p : Addr) (f : LFt) (t u : Addr) (rws und : List (Row × Str)) : Prop where
  lv : Liv K T.C_Ledger (Tbl T) H q b p f ⟨ths, rws.map (·.1), rws.map (·.2), und⟩
  rw : RowsAt K (Im q f p H) t rws
  un : RowsAt K (Im q f p H) u und
  wd : Im q f p H wd = some (.lst (zs.map V.str))
  th : ThsAt K (Im q f p H) a2 ths
  sn : Snd ths (rws ++ und.reverse)
  ok : ∀ x ∈ rws ++ und.reverse, lotB x.2 = true ∧ RowV x.1 ∧ (x.1.map fun y : Str × Str => y.1).Nodup
  ln : (rws ++ und.reverse).length ≤ m
section
variable {K : PySem.W.Frag} {mg : Str → Option Value} {T : Top K mg} {q b wd a2 : Addr} {zs : List Str} {ths : List (List Str)} {m : Nat} {H H' : Hp} {p : Addr} {f : LFt} {t u : Addr} {rws und : List (Row × Str)}
theorem Day.len (D : Day T q b wd a2 zs ths m H p f t u rws und) : rws.length + und.length ≤ m := by
  have := D.ln
  rwa [List.length_append, List.length_reverse] at this
theorem Day.good (D : Day T q b wd a2 zs ths m H p f t u rws und) (h3 : ∀ th ∈ ths, ThV th) (h4 : ths.length ≤ 4) (hm : m ≤ 200) : LGood ⟨ths, rws.map (·.1), rws.map (·.2), und⟩ := ⟨h3, h4, fun r hr => by
    obtain ⟨x, hx, rfl⟩ := List.mem_map.mp hr
    exact (D.ok x (List.mem_append_left _ hx)).2, fun z hz => by
    obtain ⟨x, hx, rfl⟩ := List.mem_map.mp hz
    exact (D.ok x (List.mem_append_left _ hx)).1, by rw [List.length_map, List.length_map], by
    have := D.len
    show (rws.map (·.1)).length ≤ 200
    rw [List.length_map]
    omega⟩
theorem Day.same (D : Day T q b wd a2 zs ths m H p f t u rws und) (e : Same H H') : Day T q b wd a2 zs ths m H' p f t u rws und := ⟨D.lv.new e, D.rw.mono (im_same e), D.un.mono (im_same e), im_same e _ _ D.wd, D.th.mono (im_same e), D.sn, D.ok, D.ln⟩
theorem Day.draw (D : Day T q b wd a2 zs ths m H p f t u rws und) (e : But q H H') (B : BoxAt H' q b) : Day T q b wd a2 zs ths m H' p f t u rws und := ⟨D.lv.draw e B, D.rw.mono (im_draw e), D.un.mono (im_draw e), im_draw e _ _ D.wd, D.th.mono (im_draw e), D.sn, D.ok, D.ln⟩
theorem Day.up (D : Day T q b wd a2 zs ths m H p f t u rws und) {m' : Nat} (h : m ≤ m') : Day T q b wd a2 zs ths m' H p f t u rws und := ⟨D.lv, D.rw, D.un, D.wd, D.th, D.sn, D.ok, Nat.le_trans D.ln h⟩
end
section
variable {P : Program} {w : World} {K : PySem.W.Frag} {mg : Str → Option Value} {base : Heap}
theorem back_go {p t u q b : Addr} {way : Nat} {f : LFt} {ths : List (List Str)} {rws und : List (Row × Str)} {H : Hp} {Q : VK} {E : XK} (T : Top K mg) (hw : way < 2) (lv : Liv K T.C_Ledger (Tbl T) H q b p f ⟨ths, rws.map (·.1), rws.map (·.2), und⟩) (hr : RowsAt K (Im q f p H) t rws) (hu : RowsAt K (Im q f p H) u und)
    (r5 : rws.length ≤ 500) (u5 : und.length ≤ 500)
    (k : ∀ (y t' u' : Addr) (rws' und' : List (Row × Str)) (H' : Hp), rws' ++ und'.reverse = rws ++ und.reverse → Liv K T.C_Ledger (Tbl T) H' q b p f ⟨ths, rws'.map (·.1), rws'.map (·.2), und'⟩ → RowsAt K (Im q f p H') t' rws' → RowsAt K (Im q f p H') u' und' →
    Im q f p H' y = some (.tup [.ref t', .ref u']) → Same (Im q f p H) (Im q f p H') → Q (.ref y) H') : spBack T [.ref p, .ref t, .ref u, .int ((way : Nat) : Int)] H Q E := by
  unfold spBack
  exact ⟨q, b, p, t, u, way, f, ths, rws, und, rfl, hw, lv, hr, hu, r5, u5, k⟩
theorem twins_go {p t u a q b : Addr} {f : LFt} {ths : List (List Str)} {rws und : List (Row × Str)} {H : Hp} {Q : VK} {E : XK} (T : Top K mg) (lv : Liv K T.C_Ledger (Tbl T) H q b p f ⟨ths, rws.map (·.1), rws.map (·.2), und⟩) (hr : RowsAt K (Im q f p H) t rws) (hu : RowsAt K (Im q f p H) u und) (ha : ThsAt K (Im q f p H) a ths)
    (g : LGood ⟨ths, rws.map (·.1), rws.map (·.2), und⟩) (l1 : 1 ≤ ths.length) (u5 : und.length ≤ 500)
    (k : ∀ (H' : Hp), Liv K T.C_Ledger (Tbl T) H' q b p f ⟨ths, rws.map (·.1), rws.map (·.2), und⟩ → Same (Im q f p H) (Im q f p H') → Q (.bl true) H') : spTwins T [.ref p, .ref t, .ref u, .ref a] H Q E := by
  unfold spTwins
  exact ⟨q, b, p, t, u, a, f, ths, rws, und, rfl, lv, hr, hu, ha, g, l1, u5, k⟩
theorem ok_law (T : Top K mg) (TB : LamX.TabB base mg T.c_law T.P_law) (TBv : LamX.TabB base mg T.c_lived T.P_lived) (TBb : LamX.TabB base mg T.c_ledger_back T.P_ledger_back) : FnOk P w K mg base CX0 30 T.a_law T.d_law ["_law_script"] (spLaw T) := by
  refine okC T.F_law sc_law (fun vs H Q E h => ?_) (fun cdv A outer s H vs Q E hc hr h => ?_)
  · unfold spLaw at h
    obtain ⟨a, ns, rfl, _⟩ := h
    rfl
  obtain rfl : cdv = .ref T.c_law := hc.symm.trans T.k_law
  unfold spLaw at h
  obtain ⟨a, ns, rfl, hS, h63, hP1, hP2, hP3, k⟩ := h
  refine ⟨_, (pss_cons (ps_set (i := 1) sc_law.nd rfl (Or.inl rfl) (pe_call (ok_box T) (hr.mono (by decide)) rfl T.m_box T.F_box.kp T.b_box .nil pass0 (pa_cons (pv 0) pa_nil)))
    (pss_cons (ps_for PassesOwn.never rfl (pi_range1 (by rfl) T.z_range (pa_cons pe_int pa_nil)) (pg_name (i := 2) sc_law.nd rfl (Or.inl rfl))
    (pss_cons (ps_set (i := 3) sc_law.nd rfl (Or.inl rfl) (pe_call (ok_names T) (hr.mono (by decide)) rfl T.m_names T.F_names.kp T.b_names .nil pass0 (pa_cons (pv 1) (pa_cons pe_int pa_nil))))
    (pss_cons (ps_set (i := 4) sc_law.nd rfl (Or.inl rfl) (pe_call (ok_fields T) (hr.mono (by decide)) rfl T.m_fields T.F_fields.kp T.b_fields .nil pass0 (pa_cons (pv 1) (pa_cons (pv 3) pa_nil))))
    (pss_cons (ps_set (i := 5) sc_law.nd rfl (Or.inr rfl) (pe_call (ok_ledger T) (hr.mono (by decide)) rfl T.m_ledger T.F_ledger.kp T.b_ledger .nil pass0 (pa_cons (pv 4) pa_nil)))
    (pss_cons (ps_asg (pe_tup (pa_cons (pe_call (ok_lived T TBv) (hr.mono (by decide)) rfl T.m_lived T.F_lived.kp T.b_lived .nil pass0 (pa_cons (pv 1) (pa_cons (pv 5) (pa_cons (pv 4) (pa_cons (pv 3) (pa_cons pe_int pa_nil)))))) (pa_cons (pe_lst pa_nil) pa_nil))) (pg_tup rfl (pgs_cons (pg_name (i := 6) sc_law.nd rfl (Or.inr rfl)) (pgs_cons (pg_name (i := 7) sc_law.nd rfl (Or.inl rfl)) pgs_nil))))
    (pss_cons (ps_for PassesOwn.never rfl (pi_range1 (by rfl) T.z_range (pa_cons (pe_ifExp (pt_cmpR op_notN (pv 6) pe_non (nomark _)) pe_int pe_int) pa_nil)) (pg_name (i := 8) sc_law.nd rfl (Or.inl rfl))
    (pss_cons (ps_set (i := 9) sc_law.nd rfl (Or.inl rfl) (pe_call (ok_pull T) (hr.mono (by decide)) rfl T.m_pull T.F_pull.kp T.b_pull .nil pass0 (pa_cons (pv 1) (pa_cons pe_int pa_nil))))
    (pss_cutI (ps_if (pt_cmpR op_lt (pv 9) pe_int (nomark _)) (pss_cons (ps_set (i := 10) sc_law.nd rfl (Or.inl rfl) (pe_call (ok_ledger_back T TBb) (hr.mono (by decide)) rfl T.m_ledger_back T.F_ledger_back.kp T.b_ledger_back .nil pass0 (pa_cons (pv 5) (pa_cons (pv 6) (pa_cons (pv 7) (pa_cons (pv 9) pa_nil))))))
    (pss_cons (ps_if (pt_cmpR op_isN (pv 10) pe_non (nomark _)) (pss_one (ps_ret pe_bl)) pss_nil)
    (pss_one (ps_asg (pv 10) (pg_tup rfl (pgs_cons (pg_name (i := 6) sc_law.nd rfl (Or.inr rfl)) (pgs_cons (pg_name (i := 7) sc_law.nd rfl (Or.inl rfl)) pgs_nil))))))) (pss_one (ps_if (pt_cmpR op_eq (pv 9) pe_int (nomark _)) (pss_cons (ps_set (i := 11) sc_law.nd rfl (Or.inr rfl) (pe_call (ok_entry T) (hr.mono (by decide)) rfl T.m_entry T.F_entry.kp T.b_entry .nil pass0 (pa_cons (pv 1) (pa_cons (pv 3) (pa_cons (pe_slice sl_list (pv 3) (po_some pe_int) (po_some pe_int)) pa_nil)))))
    (pss_cons (ps_set (i := 12) sc_law.nd rfl (Or.inl rfl) (pe_call (ok_added T) (hr.mono (by decide)) rfl T.m_added T.F_added.kp T.b_added .nil pass0 (pa_cons (pv 4) (pa_cons (pv 6) (pa_cons (pv 11) (pa_cons pe_non pa_nil))))))
    (pss_cons (ps_if (pt_not (pt_val (pe_call (ok_same T 6) (hr.mono (by decide)) rfl T.m_same T.F_same.kp T.b_same .nil pass0 (pa_cons (pe_gl (k := 14) (Tb := Tbl T) T (by rfl) TB rfl (lam_in_law T) (lam_on_law T) (hr.mono (by decide)) (hr.mono (by decide)) (LamX.lamS_by (by show LamX.lamSB (defScope s_law) _ = true; decide +kernel)) rfl (fun _ _ _ _ _ => rfl) (fun _ _ _ _ _ _ _ hrl => (pe_meth (pv 5) T.cl_Ledger T.M_Ledger_add (ok_Ledger_add T) (hrl.mono (by decide)) (bd_Ledger_add T) vnon (passes_lamE rfl rfl) (pa_cons (pv 11) pa_nil)))) (pa_cons (pv 12) pa_nil))))) (pss_one (ps_ret pe_bl)) pss_nil)
    (pss_cons (ps_asg (pe_ifExp (pt_cmpR op_eq (pe_ix ix_tup (pv 12) pe_int (fun _ _ => rfl)) pe_str (nomark _)) (pe_tup (pa_cons (pe_op op_cat (pv 6) (pe_lst (pa_cons (pe_tup (pa_cons (pe_callTy call_dictD (by rfl) T.z_dict (by decide +kernel) (pa_cons (pv 11) pa_nil)) (pa_cons (pe_ix ix_tup (pv 12) pe_int (fun _ _ => rfl)) pa_nil))) pa_nil))) (pa_cons (pe_lst pa_nil) pa_nil))) (pe_tup (pa_cons (pv 6) (pa_cons (pv 7) pa_nil)))) (pg_tup rfl (pgs_cons (pg_name (i := 6) sc_law.nd rfl (Or.inr rfl)) (pgs_cons (pg_name (i := 7) sc_law.nd rfl (Or.inl rfl)) pgs_nil))))
    (pss_one (ps_expr (pe_dclear (pv 11)))))))) (pss_one (ps_if (pt_not (pt_val (pe_call (ok_twins_so T) (hr.mono (by decide)) rfl T.m_twins_so T.F_twins_so.kp T.b_twins_so .nil pass0 (pa_cons (pv 5) (pa_cons (pv 6) (pa_cons (pv 7) (pa_cons (pv 4) pa_nil))))))) (pss_one (ps_ret pe_bl)) (pss_one (ps_set (i := 5) sc_law.nd rfl (Or.inr rfl) (pe_ifExp (pt_cmpR op_eq (pe_call (ok_pull T) (hr.mono (by decide)) rfl T.m_pull T.F_pull.kp T.b_pull .nil pass0 (pa_cons (pv 1) (pa_cons pe_int pa_nil))) pe_int (nomark _)) (pe_meth0 (pv 5) T.cl_Ledger T.M_Ledger_twin (ok_Ledger_twin T) (hr.mono (by decide)) T.b_Ledger_twin .nil pass0) (pv 5)))))))))
    (pss_cons (ps_set (i := 13) sc_law.nd rfl (Or.inr rfl) (pe_call (ok_ledger T) (hr.mono (by decide)) rfl T.m_ledger T.F_ledger.kp T.b_ledger .nil pass0 (pa_cons (pv 4) pa_nil)))
    (pss_cons (ps_setLc (i := 14) (own := [("_law_row", 11), ("_law_lot", 16)]) (g := gTup K 2 (gCons (gName 11) (gCons (gName 16) gNil))) (tt := tYes) rfl sc_law.nd rfl rfl (sw_true rfl rfl rfl (by decide +kernel)) (pi_list (pv 6)) (blkOk_by (own := [("_law_row", 11), ("_law_lot", 16)]) (N := n_law) (sc := defScope s_law) (by decide +kernel)) (fun _ _ _ _ _ => by exact (pg_tup rfl (pgs_cons (pg_name (i := 11) sc_law.nd rfl (Or.inl rfl)) (pgs_cons (pg_name (i := 16) sc_law.nd rfl (Or.inl rfl)) pgs_nil)))) (fun _ _ _ _ _ => pts_nil) (fun _ _ _ _ _ => (pe_methK (pv 13) T.cl_Ledger T.M_Ledger_add (ok_Ledger_add T) (hr.mono (by decide)) (kb_Ledger_add_side T) pass0X (pa_cons (pe_callTy call_dictD (by rfl) T.z_dict (by decide +kernel) (pa_cons (pv 11) pa_nil)) pa_nil) (pk_cons (pv 16) pk_nil))))
    (pss_cons (ps_setLc (i := 15) (own := [("_law_one", 17)]) (g := gName 17) (tt := tYes) rfl sc_law.nd rfl rfl (sw_true rfl rfl rfl (by decide +kernel)) (pi_list (pe_lst (pa_cons (pv 5) (pa_cons (pv 13) pa_nil)))) (blkOk_by (own := [("_law_one", 17)]) (N := n_law) (sc := defScope s_law) (by decide +kernel)) (fun _ _ _ _ _ => (pg_name (i := 17) sc_law.nd rfl (Or.inr rfl))) (fun _ _ _ _ _ => pts_nil) (fun _ _ _ _ _ => (pe_lc (own := [("_law_k", 8)]) (g := gName 8) (tt := tYes) rfl sc_law.nd (pi_range1 (by rfl) T.z_range (pa_cons (pe_callB (call_lenC (K := K) rfl) (by rfl) T.z_len (by decide +kernel) (pa_cons (pv 6) pa_nil)) pa_nil)) (by refine blkOk_by (N := n_law) ?_; rfl) (fun _ _ _ _ _ => (pg_name (i := 8) sc_law.nd rfl (Or.inl rfl))) (fun _ _ _ _ _ => pts_nil) (fun _ _ _ _ _ => (pe_meth (pv 17) T.cl_Ledger T.M_Ledger_group (ok_Ledger_group (P := P) (w := w) (base := base) T) (hr.mono (by decide)) T.b_Ledger_group .nil pass0 (pa_cons (pv 8) pa_nil))))))
    (pss_one (ps_if (PW.pt (pw_or (pt_not (pt_val (pe_call (ok_ledger_is T) (hr.mono (by decide)) rfl T.m_ledger_is T.F_ledger_is.kp T.b_ledger_is .nil pass0 (pa_cons (pv 5) (pa_cons (pv 6) (pa_cons (pe_callB call_len_seq (by rfl) T.z_len (by decide +kernel) (pa_cons (pv 7) pa_nil)) pa_nil)))))) (pw_or (pt_cmpR (op_neD hr.units) (pv 14) (pe_lc (own := [("_law_row", 11), ("_law_lot", 16)]) (g := gTup K 2 (gCons (gName 11) (gCons (gName 16) gNil))) (tt := tYes) rfl sc_law.nd (pi_list (pv 6)) (blkOk_by (own := [("_law_row", 11), ("_law_lot", 16)]) (N := n_law) (sc := defScope s_law) (by decide +kernel)) (fun _ _ _ _ _ => by exact (pg_tup rfl (pgs_cons (pg_name (i := 11) sc_law.nd rfl (Or.inl rfl)) (pgs_cons (pg_name (i := 16) sc_law.nd rfl (Or.inl rfl)) pgs_nil)))) (fun _ _ _ _ _ => pts_nil) (fun _ _ _ _ _ => (pv 16))) (nomark _)) (pw_or1 (pt_cmpR (op_neD hr.units) (pe_ix ix_list (pv 15) pe_int (fun _ _ => rfl)) (pe_ix ix_list (pv 15) pe_int (fun _ _ => rfl)) (nomark _)))))) (pss_one (ps_ret pe_bl)) pss_nil))))))))
    (pss_one (ps_if (pt_cmpR op_isN (pv 6) pe_non (nomark _)) (pss_one (ps_ret pe_bl)) pss_nil))))))))
    (pss_one (ps_ret pe_bl)))), ?_⟩
  refine ⟨_, rfl, a, ns, rfl, hS, h63, fun q b H0 hq B0 e0 => ?_⟩
  have T0 : LamX.Tabs (Tbl T) H0 := fun x hx => by
    unfold Tbl at hx
    simp only [List.mem_cons, List.not_mem_nil, or_false] at hx
    rcases hx with rfl | rfl | rfl
    · exact LamX.TabS.nil (e0 _ _ hP1)
    · exact LamX.TabS.nil (e0 _ _ hP2)
    · exact LamX.TabS.nil (e0 _ _ hP3)
  refine ⟨3, rfl, by decide, by decide, for_range (lo := 0) (n := 3) (fun i σ H2 => Hold (∃ o : List (Option V), o.length = n_law.length - 2 ∧ σ = some (.ref a) :: some (.ref q) :: o ∧ BoxAt H2 q b ∧ LamX.Tabs (Tbl T) H2)) ⟨_, rfl, rfl, B0, T0⟩ ?_ ?_⟩
  rotate_left
  · rintro σ H2 ⟨o, ho, rfl, B, TT⟩
    exact k _
  rintro i σ H1 hi ⟨o, ho, rfl, B1, T1⟩
  clear B0 T0 e0 hq
  obtain ⟨o2, o3, o4, o5, o6, o7, o8, o9, o10, o11, o12, o13, o14, o15, o16, o17, rfl⟩ : ∃ o2 o3 o4 o5 o6 o7 o8 o9 o10 o11 o12 o13 o14 o15 o16 o17, o = [o2, o3, o4, o5, o6, o7, o8, o9, o10, o11, o12, o13, o14, o15, o16, o17] := by
    match o, ho with
    | [o2, o3, o4, o5, o6, o7, o8, o9, o10, o11, o12, o13, o14, o15, o16, o17], _ => exact ⟨o2, o3, o4, o5, o6, o7, o8, o9, o10, o11, o12, o13, o14, o15, o16, o17, rfl⟩
  clear ho
  refine ⟨_, rfl, q, b, 11, rfl, B1, by decide, by decide, fun wd xs G hzl hnm hnd hsm hfq hqp hwd BG eG => ?_⟩
  have TG := tabs_but T1 B1 eG
  have hwd1 : hide q G wd = some (.lst ((xs.map S).map V.str)) := by
    rw [hide_ne hqp, hwd, List.map_map]
    rfl
  have W : Wds G q wd (xs.map S) := ⟨hwd1, by rw [List.length_map, hzl], fun z hz => by
    obtain ⟨x, hx, rfl⟩ := List.mem_map.mp hz
    exact NameL.nameB (hnm x hx), by
    rw [List.Nodup, List.pairwise_map]
    exact List.Pairwise.imp (fun hab e => hab (S_inj e)) hnd⟩
  generalize xs.map S = zs at W hwd1
  refine ⟨_, rfl, _, rfl, fields_go BG W fun a2 ts ths G2 fa na ha2 hp2 hv2 l1 l4 B2 e2 => ?_⟩
  have T2 := tabs_but TG BG e2
  have W2' := W.but e2
  have ha2h : hide q G2 a2 = some (.lst (ts.map V.ref)) := by rw [hide_ne na]; exact ha2
  refine ⟨_, rfl, ledger_go (SqL.of ha2) (prMp hp2 fun _ _ z => z.mono hide_le) (fun n hn => (hv2 n hn).1) l1 l4 fun p f G3 A3 s3 d3 => ?_⟩
  have B3 := B2.mono s3
  have Lv : Liv K T.C_Ledger (Tbl T) G3 q b p f ⟨ths, [], [], []⟩ := ⟨B3, A3, tabs_of T2 s3, Out.fresh (Tr.cons (box_two B2).1.choose_spec (Tr.cons (box_two B2).2.choose_spec .nil)) d3⟩
  have toIm : ∀ x o, hide q G2 x = some o → (∀ ps, o ≠ .tbl ps) → Im q f p G3 x = some o := fun x o hx ht => hw_of (s3 _ _ (hide_le _ _ hx)) (fun hm => by
    rcases List.mem_cons.mp hm with rfl | hm
    · rw [hide_at] at hx
      cases hx
    · have h1 := d3 x (LFt.wr_all hm)
      rw [hide_le _ _ hx] at h1
      cases h1) ht
  have hthI : ThsAt K (Im q f p G3) a2 ths := ⟨ts, toIm _ _ ha2h (fun _ h => nomatch h), prMp hp2 fun _ _ z => by
    rcases z with (h | ⟨o, h⟩) | h
    · exact .inl (.inl (toIm _ _ h (fun _ h => nomatch h)))
    · exact .inl (.inr ⟨o, toIm _ _ h (fun _ h => nomatch h)⟩)
    · exact .inr h⟩
  have hwdI : Im q f p G3 wd = some (.lst (zs.map V.str)) := toIm _ _ W2'.at_ (fun _ h => nomatch h)
  have W3 : Wds G3 q wd zs := ⟨im_hide _ _ hwdI, W.ln, W.nm, W.nd⟩
  have hths : ∀ th ∈ ths, ThV th := fun th h => (hv2 th h).1
  clear toIm hp2 ha2 ha2h W2' T2 B2 e2 W hwd hwd1 TG T1 BG B1 eG hsm hfq hqp hnd hnm d3 A3 B3 s3 fa na hv2
  refine ⟨_, rfl, _, rfl, _, rfl, _, rfl, lived_go T (n := 6) Lv W3 hwdI hthI hths l4 (by decide) (by decide) fun t f1 rws G4 L4 hrw4 hrl hrv e4 hne hsn => ?_⟩
  sizeOf_list_dec
  rename_i U0 fU0 tp0 ftp0
  have s5 := same_new fU0 (.lst [])
  have s6 := same_new ftp0 (.tup [.ref t, .ref U0])
  have hU5 := L4.fresh (o := .lst []) fU0 (fun _ h => nomatch h)
  have hU6 := im_same (q := q) (f := f1) (p := p) s6 _ _ hU5
  have I56 := im_same (q := q) (f := f1) (p := p) (s5.trans s6)
  have D6 : Day T q b wd a2 zs ths 6 _ p f1 t U0 rws [] := ⟨L4.new (s5.trans s6), hrw4.mono I56, ⟨[], hU6, .nil⟩, I56 _ _ (e4 _ _ hwdI), (hthI.mono e4).mono I56, by rw [List.reverse_nil, List.append_nil]; exact hsn, by rw [List.reverse_nil, List.append_nil]; exact hrv, by rw [List.reverse_nil, List.append_nil]; exact hrl⟩
  have Wln := W3.ln
  have Wnm := W3.nm
  have Wnd := W3.nd
  clear Lv W3 hwdI hthI e4 L4 hrw4 hrl hrv hne hsn hU5 hU6 I56 s5 s6
  generalize upd (upd G4 U0 (.lst [])) tp0 (.tup [.ref t, .ref U0]) = G6 at *
  clear fU0 ftp0
  refine for_range (lo := 0) (n := 12) (fun j σ Hx => Hold (∃ p f t u rws und o8 o9 o10 o11 o12 o13 o14 o15 o16 o17, σ = [some (.ref a), some (.ref q), some (.int (0 + (i : Int))), some (.ref wd), some (.ref a2), some (.ref p), some (.ref t), some (.ref u), o8, o9, o10, o11, o12, o13, o14, o15, o16, o17] ∧
    Day T q b wd a2 zs ths (6 + j) Hx p f t u rws und)) ⟨p, f1, t, U0, rws, [], o8, o9, o10, o11, o12, o13, o14, o15, o16, o17, rfl, D6⟩ ?_ ?_
  rotate_left
  · rintro σ Hx ⟨p, f, t, u, rws, und, o8, o9, o10, o11, o12, o13, o14, o15, o16, o17, rfl, D⟩
    sizeOf_list_dec
    exact ⟨_, rfl, rfl, D.lv.box, D.lv.tabs⟩
  clear D6
  rintro j σ Hx hj ⟨p, f, t, u, rws, und, o8, o9, o10, o11, o12, o13, o14, o15, o16, o17, rfl, D⟩
  refine ⟨_, rfl, q, b, 4, rfl, D.lv.box, by decide, by decide, fun d H2 d0 d4 B2 e2 => ?_⟩
  have D2 := D.draw e2 B2
  clear D B2 e2
  obtain ⟨d, rfl⟩ := Int.eq_ofNat_of_zero_le d0
  refine cut_mk (fun σ Hx => ∃ p f t u rws und o8 o9 o10 o11 o12 o13 o14 o15 o16 o17, σ = [some (.ref a), some (.ref q), some (.int (0 + (i : Int))), some (.ref wd), some (.ref a2), some (.ref p), some (.ref t), some (.ref u), o8, o9, o10, o11, o12, o13, o14, o15, o16, o17] ∧
    Day T q b wd a2 zs ths (6 + (j + 1)) Hx p f t u rws und) ?_ ?_
  · have hdl := D2.len
    have hg := D2.good hths l4 (by omega)
    obtain ⟨us, hus, hups⟩ := D2.rw.ex
    have hus2 := im_le _ _ hus
    obtain hd | rfl | rfl : d < 2 ∨ d = 2 ∨ d = 3 := by omega
    · sizeOf_list_dec
      refine gT (decide_eq_true (by omega)) ?_
      sizeOf_list_dec
      refine back_go T hd D2.lv D2.rw D2.un (by omega) (by omega) fun y t' u' rws' und' H3 heq lv3 rw3 un3 hy e3 => ?_
      have hyH := im_le _ _ hy
      sizeOf_list_dec
      exact ⟨lv3, rw3, un3, e3 _ _ D2.wd, D2.th.mono e3, by rw [heq]; exact D2.sn, by rw [heq]; exact D2.ok, by rw [heq]; exact Nat.le_trans D2.ln (by omega)⟩
    · have hwdH := im_le _ _ D2.wd
      sizeOf_list_dec
      rename_i sl fsl
      show spEntry K [.ref q, .ref wd, .ref sl] _ _ _
      have hcut : cutV (zs.map V.str) (some (4 : Int)) (some (8 : Int)) = ((zs.drop 4).take 4).map V.str := by
        rw [show (4 : Int) = ((4 : Nat) : Int) from rfl, show (8 : Int) = ((8 : Nat) : Int) from rfl]
        unfold cutV
        rw [HT.sIx_nat, HT.sIx_nat, List.length_map, Wln, List.map_take, List.map_drop]
        rfl
      rw [hcut] at *
      generalize hps : (zs.drop 4).take 4 = ps at *
      have hpl : ps.length = 4 := by
        rw [← hps, List.length_take, List.length_drop, Wln]
        rfl
      have hpn : ∀ z ∈ ps, nameB z = true := fun z hz => Wnm z (List.mem_of_mem_drop (List.mem_of_mem_take (by rw [hps]; exact hz)))
      have s3 := same_new fsl (.lst (ps.map V.str))
      have D3 := D2.same s3
      have hsl := D2.lv.fresh (o := .lst (ps.map V.str)) fsl (fun _ h => nomatch h)
      clear D2 s3 hus2 hwdH
      generalize upd H2 sl (.lst (ps.map V.str)) = H3 at *
      refine entry_go D3.lv.box ⟨im_hide _ _ D3.wd, Wln, Wnm, Wnd⟩ (im_hide _ _ hsl) (by omega) (by omega) hpn fun u0 r H4 fu0 nu0 hu0 hrV hrn B4 e4 => ?_
      have fu3 : H3 u0 = none := by rw [hide_ne nu0] at fu0; exact fu0
      have I4 : Same (Im q f p H3) (hw (u0 :: Wb q f p) H4) := hw_fr (fr_but e4) (fun x hx => by rw [List.mem_singleton.mp hx]; exact List.mem_cons_self) fun x hx => by
        rcases List.mem_cons.mp hx with rfl | hx
        · exact .inr fu3
        · exact .inl hx
      have LH4 : Liv K T.C_Ledger (Tbl T) (hide u0 H4) q b p f ⟨ths, rws.map (·.1), rws.map (·.2), und⟩ := by
        have D4 := D3.lv.draw e4 B4
        refine ⟨box_hide B4 nu0.symm (ne_of_none (box_two D3.lv.box).2.choose_spec fu3), ?_, tabs_hide D4.tabs hu0, D4.ob⟩
        refine D3.lv.led.frame (S := [q]) (fun x o hx n => ?_) (fun x hx => by rw [List.mem_singleton.mp hx]; exact box_list D3.lv.box) fun x hx hm => D3.lv.ob q (by simp) (by rw [List.mem_singleton.mp hm] at hx; exact hx)
        rw [hide_ne (ne_of_none hx fu3)]
        exact fr_but e4 x o hx n
      clear hsl fu0 B4 e4
      have rw4 := D3.rw.mono I4
      have un4 := D3.un.mono I4
      have th4 := D3.th.mono I4
      have wd4 := I4 _ _ D3.wd
      have dsn := D3.sn
      have dok := D3.ok
      have dln := D3.ln
      clear D3 I4 fu3 hus hups us
      sizeOf_list_dec
      show spAdded K [.ref a2, .ref t, .ref u0, sdV none] _ _ _
      refine added_go (th4.mono hw_le) hths l4 (rw4.mono hw_le) (by omega) (fun x hx => (dok x (List.mem_append_left _ hx)).1) hu0 (fun _ h => nomatch h) fun t3 H5 ft3 hres e5 => ?_
      have hu5 := e5 _ _ hu0
      have LH5 := LH4.new (hide_mono (p := u0) e5)
      have I5 : Same (hw (u0 :: Wb q f p) H4) (hw (u0 :: Wb q f p) H5) := hw_same e5
      have hres5 : ResAt (hw (u0 :: Wb q f p) H5) t3 (addR ⟨ths, rws.map (·.1), rws.map (·.2), []⟩ r none) := res_hwD hres fun x hx => by
        rcases List.mem_cons.mp hx with rfl | hx
        · exact .inr ⟨_, hu5⟩
        · exact .inl ((LH5.new hide_le).li x hx)
      have hR : addR (⟨ths, rws.map (·.1), rws.map (·.2), und⟩ : LSt) r none = addR ⟨ths, rws.map (·.1), rws.map (·.2), []⟩ r none := rfl
      sizeOf_list_dec
      refine got_addN T rfl rfl LH5 hu5 hg hrV hrn fun v f2 H6 LH6 I6 hu6 hv => ?_
      rw [hR] at LH6 hv
      have hres6 := hres5.mono I6
      have hrd := res_dp (K := K) (hres6.mono hw_le)
      sizeOf_list_dec
      refine ⟨(resD_fits _).up.up, fun H7 e7 => ?_⟩
      have hres7 := hres6.mono (hw_same (W := u0 :: Wb q f2 p) e7)
      have I7 := (I5.trans I6).trans (hw_same (W := u0 :: Wb q f2 p) e7)
      have LH7 := LH6.new (hide_mono (p := u0) e7)
      have hu7 := e7 _ _ hu6
      obtain ⟨tag, y, ht3, hRz⟩ := res_parts hres7
      have ht3s := SqT.of (K := K) (hw_le _ _ ht3)
      have rw7 := rw4.mono I7
      have un7 := un4.mono I7
      have th7 := th4.mono I7
      have wd7 := I7 _ _ wd4
      have hx1 : atI ([.str tag, y] : List V) 1 = some y := rfl
      have hx0 : atI ([.str tag, y] : List V) 0 = some (.str tag) := rfl
      obtain ⟨us, hus, hups⟩ := rw7.ex
      have hul := pr_len hups
      have hus7 := hw_le _ _ hus
      have hrd7 := Rd.of hu7
      clear hv hrd hres5 hres6 hres hu0 hu5 hu6 LH4 LH5 LH6 I5 I6 e5 e7 rw4 un4 th4 wd4 hR ft3
      sizeOf_list_dec
      rcases hRz with ⟨z, hRz, rfl, rfl⟩ | ⟨hno, hne⟩
      · refine iteTk (decide_eq_true rfl) ?_
        rw [hRz] at LH7
        sizeOf_list_dec
        rename_i d1 fd1 e fe l fl
        refine ⟨small (by rw [List.length_map, hul]; show rws.length + 1 ≤ _; omega), fun t' ft' => ?_⟩
        have m1 := same_new fd1 (.dK (rowK r))
        have m2 := same_new fe (.tup [.ref d1, .str z])
        have m3 := same_new fl (.lst [.ref e])
        have m4 := same_new ft' (.lst (us.map V.ref ++ [.ref e]))
        have M1 := m1.trans (m2.trans (m3.trans m4))
        have hnW : ∀ {G : Hp}, Same H7 G → ∀ x ∈ u0 :: Wb q f2 p, ∃ o, G x = some o := fun {G} e x hx => by
          rcases List.mem_cons.mp hx with rfl | hx
          · exact ⟨_, e _ _ hu7⟩
          · obtain ⟨o, ho⟩ := (LH7.new hide_le).w x hx
            exact ⟨o, e _ _ ho⟩
        have h1 : hw (u0 :: Wb q f2 p) _ d1 = some (.dK (rowK r)) := hw_new fd1 (hnW (Same.refl _)) (fun _ h => nomatch h)
        have h2 : hw (u0 :: Wb q f2 p) _ e = some (.tup [.ref d1, .str z]) := hw_new fe (hnW m1) (fun _ h => nomatch h)
        have h4 : hw (u0 :: Wb q f2 p) _ t' = some (.lst (us.map V.ref ++ [.ref e])) := hw_new ft' (hnW (m1.trans (m2.trans m3))) (fun _ h => nomatch h)
        have w2 := hw_same (W := u0 :: Wb q f2 p) m2
        have w3 := hw_same (W := u0 :: Wb q f2 p) m3
        have w4 := hw_same (W := u0 :: Wb q f2 p) m4
        have h1' := w4 _ _ (w3 _ _ (w2 _ _ h1))
        have h2' := w4 _ _ (w3 _ _ h2)
        clear h1 h2 w2 w3 w4 m1 m2 m3 m4 fd1 fe fl ft'
        generalize upd (upd (upd (upd H7 d1 (.dK (rowK r))) e (.tup [.ref d1, .str z])) l (.lst [.ref e])) t' (.lst (us.map V.ref ++ [.ref e])) = H8 at *
        sizeOf_list_dec
        rename_i U8 fU8 tp ftp
        have m5 := same_new fU8 (.lst [])
        have m6 := same_new ftp (.tup [.ref t', .ref U8])
        have h5 : hw (u0 :: Wb q f2 p) _ U8 = some (.lst []) := hw_new fU8 (hnW M1) (fun _ h => nomatch h)
        have h5' := hw_same (W := u0 :: Wb q f2 p) m6 _ _ h5
        have w5 := hw_same (W := u0 :: Wb q f2 p) (m5.trans m6)
        have hu9 := (M1.trans (m5.trans m6)) _ _ hu7
        have LH9 := LH7.new (hide_mono (p := u0) (M1.trans (m5.trans m6)))
        have w9 := hw_same (W := u0 :: Wb q f2 p) (M1.trans (m5.trans m6))
        clear M1 m5 m6 h5 fU8 ftp
        generalize upd (upd H8 U8 (.lst [])) tp (.tup [.ref t', .ref U8]) = H9 at *
        refine ⟨.inr (.inr (.inl ⟨rfl, .inl ⟨_, hu9⟩⟩)), u0, _, rfl, rfl, hu9, ?_⟩
        have P := hw_put (W := Wb q f2 p) (H := H9) (u := u0) (o := .dK [])
        have Lz : Liv K T.C_Ledger (Tbl T) (upd H9 u0 (.dK [])) q b p f2 ⟨ths, (rws ++ [(r, z)]).map (·.1), (rws ++ [(r, z)]).map (·.2), []⟩ := by
          rw [List.map_append, List.map_append]
          exact LH9.new hide_put2
        have hsn := (Snd.pre dsn).snoc (addR_some hRz)
        refine ⟨p, f2, t', U8, rws ++ [(r, z)], [], _, _, _, _, _, _, _, _, _, _, rfl, Lz, ⟨us ++ [e], by rw [List.map_append]; exact P _ _ (w5 _ _ h4), pr_app (prMp hups fun _ _ z => (z.mono w9).mono P) (.cons ⟨d1, SqT.of (P _ _ (w5 _ _ h2')), P _ _ (w5 _ _ h1')⟩ .nil)⟩, ⟨[], P _ _ h5', .nil⟩, P _ _ (w9 _ _ wd7), (th7.mono w9).mono P, ?_, ?_, ?_⟩
        · rw [List.reverse_nil, List.append_nil]
          exact hsn
        · rw [List.reverse_nil, List.append_nil]
          intro x hx
          rcases List.mem_append.mp hx with hx | hx
          · exact dok x (List.mem_append_left _ hx)
          · rw [List.mem_singleton.mp hx]
            exact ⟨addR_lot (sd := none) (fun _ h => nomatch h) hRz, hrV, hrn⟩
        · rw [List.reverse_nil, List.append_nil, List.length_append]
          show rws.length + 1 ≤ _
          omega
      · refine iteFk (decide_eq_false fun e => hne (V.str.inj e)) ?_
        rw [after_not hno] at LH7
        sizeOf_list_dec
        rename_i tp ftp
        have m5 := same_new ftp (.tup [.ref t, .ref u])
        have hu9 := m5 _ _ hu7
        have LH9 := LH7.new (hide_mono (p := u0) m5)
        have w9 := hw_same (W := u0 :: Wb q f2 p) m5
        clear m5 ftp
        generalize upd H7 tp (.tup [.ref t, .ref u]) = H9 at *
        refine ⟨.inr (.inr (.inl ⟨rfl, .inl ⟨_, hu9⟩⟩)), u0, _, rfl, rfl, hu9, ?_⟩
        have P := hw_put (W := Wb q f2 p) (H := H9) (u := u0) (o := .dK [])
        have Lz := LH9.new (hide_put2 (o := .dK []))
        exact ⟨p, f2, t, u, rws, und, _, _, _, _, _, _, _, _, _, _, rfl, Lz, (rw7.mono w9).mono P, (un7.mono w9).mono P, P _ _ (w9 _ _ wd7), (th7.mono w9).mono P, dsn, dok, Nat.le_trans dln (by omega)⟩
    · sizeOf_list_dec
      show spTwins T [.ref p, .ref t, .ref u, .ref a2] _ _ _
      refine twins_go T D2.lv D2.rw D2.un D2.th hg l1 (by omega) fun H3 lv3 e3 => ?_
      have D3 : Day T q b wd a2 zs ths (6 + j) H3 p f t u rws und := ⟨lv3, D2.rw.mono e3, D2.un.mono e3, e3 _ _ D2.wd, D2.th.mono e3, D2.sn, D2.ok, D2.ln⟩
      sizeOf_list_dec
      refine ⟨D3.lv.box, by decide, by decide, fun d H4 d0 d4 B4 e4 => ?_⟩
      have D4 := D3.draw e4 B4
      clear D3
      have hins4 := D4.lv.led.ins
      have hlt : f.fs.lookup ("twin" : Str) = none := LFt.lkN (by decide +kernel)
      sizeOf_list_dec
      refine ite2 (fun hy => ?_) (fun hn => ?_)
      · sizeOf_list_dec
        refine twin_go D4.lv.led hg l1 (by show und.length ≤ 1000; omega) fun p2 f2 H5 l5 e5 n5 => ?_
        have M5 := D4.lv.two l5 e5 n5
        have E5 : Same (Im q f p H4) (Im q f2 p2 H5) := (w2_in (q := q) (f := f) (p := p) e5 n5).trans (hw_sub fun x hx => by
          rcases List.mem_cons.mp hx with rfl | hx
          · exact List.mem_cons_self
          · exact List.mem_cons_of_mem _ (List.mem_append_right _ hx))
        sizeOf_list_dec
        exact ⟨M5.swap.liv, D4.rw.mono E5, D4.un.mono E5, E5 _ _ D4.wd, D4.th.mono E5, D4.sn, D4.ok, Nat.le_trans D4.ln (by omega)⟩
      · sizeOf_list_dec
        exact D4.up (by omega)
  · rintro σ Hx ⟨p, f, t, u, rws, und, o8, o9, o10, o11, o12, o13, o14, o15, o16, o17, rfl, D⟩
    have hdl := D.len
    have hg := D.good hths l4 (by omega)
    obtain ⟨ts, hts, htp⟩ := (D.th.mono hw_le).ex
    sizeOf_list_dec
    refine ledger_go (SqL.of hts) htp hths l1 l4 fun p3 f3 G1 l3 e1 n1 => ?_
    have M1 := D.lv.two l3 e1 n1
    have J1 := w2_in (q := q) (f := f) (p := p) e1 n1
    obtain ⟨us, hus, hups⟩ := (D.rw.mono J1).ex
    have hul := pr_len hups
    have hus1 := hw_le _ _ hus
    sizeOf_list_dec
    rename_i DS fDS
    have okR : ∀ x ∈ rws, lotB x.2 = true ∧ RowV x.1 ∧ (x.1.map fun y : Str × Str => y.1).Nodup := fun x hx => D.ok x (List.mem_append_left _ hx)
    have m1 := same_new fDS (.lst [])
    have hl3 : ∀ f : LFt, f.fs.lookup ("add" : Str) = none := fun f => LFt.lkN (by decide +kernel)
    refine lc_list (K := K) (a := t) (xs := us.map V.ref) (fun k Hy => Hold (∃ fk : LFt, Two K T.C_Ledger (Tbl T) Hy q b p f ⟨ths, rws.map (·.1), rws.map (·.2), und⟩ p3 fk ⟨ths, (rws.take k).map (·.1), (rws.take k).map (·.2), []⟩ ∧ DS ∉ q :: b :: (f.all p ++ fk.all p3) ∧
      Hy DS = some (.lst ((rws.take k).map fun x => V.str x.2)) ∧ Same (hw (W2 q p f p3 f3) G1) (hw (W2 q p f p3 fk) Hy))) ⟨f3, M1.new m1, M1.free fDS, upd_same, hw_same m1⟩ (fun k Hy _ h => by
        obtain ⟨fk, _, _, _, e⟩ := h.h
        exact SqL.of (hw_le _ _ (e _ _ hus))) ?_ ?_
    · rintro k x Hy hi ⟨fk, Mk, nDS, hDS, ek⟩
      have hkl : k < us.length := by
        have := (List.getElem?_eq_some_iff.mp hi).1
        rwa [List.length_map] at this
      have hk : k < rws.length := hul ▸ hkl
      obtain ⟨uj, hu1, rr, hu2, hu3⟩ := pr_getR hups (List.getElem?_eq_getElem hk)
      obtain rfl : V.ref uj = x := by
        rw [List.getElem?_map, hu1] at hi
        exact Option.some.inj hi
      have huj : SqT K Hy uj [.ref rr, .str rws[k].2] := Same.tup (ek.trans hw_le) hu2
      have hrr : Hy rr = some (.dK (rowK rws[k].1)) := hw_le _ _ (ek _ _ hu3)
      have hrd := Rd.of hrr
      have hins := Mk.l2.ins
      have hlk := hl3 fk
      have okk := okR _ (List.getElem_mem hk)
      sizeOf_list_dec
      rename_i d fd
      have s2 := same_new fd (.dK (rowK rws[k].1))
      have Mk2 := Mk.new s2
      refine add_ok_go T Mk2.l2 (good_take hths l4 (by omega) okR) upd_same okk.2.1 okk.2.2 okk.1 (snd_at D.sn hk) fun au H' l' F' na => ?_
      have M' := Mk2.add2 l' F' na
      have e' := (ek.trans (hw_same s2)).trans (w2_add2 (q := q) (f := f) (p := p) (f2 := fk) (p2 := p3) F' na)
      have hDS2 := s2 _ _ hDS
      have hDS' := F' _ _ hDS2 (fun h => nDS (List.mem_cons_of_mem _ (List.mem_cons_of_mem _ (List.mem_append_right _ (LFt.wr_all h)))))
      have oDS := Out.unA (Tr.cons hDS2 .nil) na (W := [DS]) (f := fk) (p := p3) fun x hx h => nDS (List.mem_cons_of_mem _ (List.mem_cons_of_mem _ (List.mem_append_right _ (List.mem_singleton.mp hx ▸ h))))
      have nDS' : DS ∉ q :: b :: (f.all p ++ ({ fk with un := au } : LFt).all p3) := fun h => by
        rcases List.mem_cons.mp h with e | h
        · exact nDS (e ▸ List.mem_cons_self)
        rcases List.mem_cons.mp h with e | h
        · exact nDS (e ▸ List.mem_cons_of_mem _ List.mem_cons_self)
        rcases List.mem_append.mp h with h | h
        · exact nDS (List.mem_cons_of_mem _ (List.mem_cons_of_mem _ (List.mem_append_left _ h)))
        · exact oDS DS List.mem_cons_self h
      have tk : rws.take (k + 1) = rws.take k ++ [rws[k]] := by
        rw [List.take_add_one, List.getElem?_eq_getElem hk]
        rfl
      have Mz := M'.put (ys := ((rws.take k).map fun x => V.str x.2) ++ [V.str rws[k].2]) hDS' nDS'
      refine ⟨_, hDS', small' (by rw [List.length_map, List.length_take]; omega), ⟨{ fk with un := au }, ?_, nDS', ?_, hw_late e' fDS⟩⟩
      · rw [tk, List.map_append, List.map_append]
        exact Mz
      · rw [tk, List.map_append]
        exact upd_same
    rintro Hy ⟨fk, Mk, nDS, hDS, ek⟩
    rw [List.length_map, hul, List.take_length] at Mk hDS
    have rwY := (D.rw.mono J1).mono ek
    have unY := (D.un.mono J1).mono ek
    have wdY := ek _ _ (J1 _ _ D.wd)
    have thY := (D.th.mono J1).mono ek
    have dsn := D.sn
    have dok := D.ok
    have dln := D.ln
    have husY := hw_le _ _ (ek _ _ hus)
    clear D M1 J1 l3 e1 n1 hts htp m1 hus1 nDS ek fDS hups hus D2
    sizeOf_list_dec
    rename_i GL fGL DG fDG
    have m1 := same_new fGL (.lst [.ref p, .ref p3])
    have Mg := Mk.new m1
    have hGL : upd Hy GL (.lst [.ref p, .ref p3]) GL = some (.lst [.ref p, .ref p3]) := upd_same
    have husg := m1 _ _ husY
    have gA : LGood ⟨ths, rws.map (·.1), rws.map (·.2), []⟩ := ⟨hg.th, hg.t4, hg.ro, hg.si, hg.ln, hg.mx⟩
    have eG := hw_same (W := W2 q p f p3 fk) m1
    have rwG := rwY.mono eG
    have unG := unY.mono eG
    have wdG := eG _ _ wdY
    have thG := thY.mono eG
    have hDSg := m1 _ _ hDS
    clear rwY unY wdY thY eG hDS husY Mk m1 fGL
    generalize upd Hy GL (.lst [.ref p, .ref p3]) = Hg at *
    have mD := same_new fDG (.lst [])
    refine lc_list (K := K) (a := GL) (xs := [.ref p, .ref p3]) (fun k Hw => Hold (Same Hg Hw ∧ ∃ gs : List Addr, Hw DG = some (.lst (gs.map V.ref)) ∧ gs.length = k ∧ ∀ g ∈ gs, GrpsAt (msOf ⟨ths, rws.map (·.1), rws.map (·.2), []⟩) rws.length (hide DG Hw) g)) ⟨mD, [], upd_same, rfl, (fun _ h => nomatch h)⟩ (fun k Hw _ h => SqL.of (h.h.1 _ _ hGL)) ?_ ?_
    · rintro k x Hw hi ⟨ew, gs, hDG, hgl, hgs⟩
      obtain ⟨pp, ff, U, rfl, Lp, gp⟩ : ∃ (pp : Addr) (ff : LFt) (U : List (Row × Str)), V.ref pp = x ∧ LedAt K T.C_Ledger Hg pp ff ⟨ths, rws.map (·.1), rws.map (·.2), U⟩ ∧ LGood ⟨ths, rws.map (·.1), rws.map (·.2), U⟩ := by
        match k, hi with
        | 0, h => exact ⟨p, f, und, Option.some.inj h, Mg.l1, hg⟩
        | 1, h => exact ⟨p3, fk, [], Option.some.inj h, Mg.l2, gA⟩
      have husw := ew _ _ husg
      have hlg : ff.fs.lookup ("group" : Str) = none := LFt.lkN (by decide +kernel)
      have hnt : (((us.map V.ref).length : Nat) : Int).toNat = rws.length := by rw [Int.toNat_natCast, List.length_map, hul]
      have hmx : rws.length ≤ 200 := by omega
      sizeOf_list_dec
      rename_i DI fDI
      have nDI : DI ≠ DG := (ne_of_none hDG fDI).symm
      refine lc_range (lo := 0) (n := (((us.map V.ref).length : Nat) : Int).toNat) (fun m Hv => Hold (Same Hw Hv ∧ ∃ (as : List Addr) (nss : List (List Nat)), Hv DI = some (.lst (as.map V.ref)) ∧ nss.length = m ∧ (∀ i (h : i < nss.length), GrpOf (msOf ⟨ths, rws.map (·.1), rws.map (·.2), []⟩) i nss[i]) ∧
        Paired (fun (a : Addr) ns => a ≠ DG ∧ a ≠ DI ∧ Hv a = some (.lst (intL ns))) as nss)) ⟨same_new fDI (.lst []), [], [], upd_same, rfl, (fun i h => absurd h (Nat.not_lt_zero _)), .nil⟩ ?_ ?_
      · rintro m Hv hm ⟨ev, as, nss, hDI, hnl, hno, hps⟩
        rw [hnt] at hm
        have hal := pr_len hps
        have Lv := (Lp.mono ew).mono ev
        have hinv := Lv.ins
        rw [Int.zero_add]
        sizeOf_list_dec
        refine lgroup_go (n := m) Lv gp (by show m < (rws.map (·.1)).length; rw [List.length_map]; exact hm) fun ns ga H' hgr fga hga e' => ?_
        have hDI' := e' _ _ hDI
        have nga : ga ≠ DI := (ne_of_none hDI fga).symm
        have ngd : ga ≠ DG := (ne_of_none (ev _ _ hDG) fga).symm
        refine ⟨_, hDI', small' (by rw [List.length_map]; omega), Same.mut (ev.trans e') fDI _, as ++ [ga], nss ++ [ns], ?_, ?_, ?_, ?_⟩
        · rw [upd_same, List.map_append]
          rfl
        · rw [List.length_append, hnl]
          rfl
        · intro i h
          by_cases hi : i < nss.length
          · rw [List.getElem_append_left hi]
            exact hno i hi
          · rw [List.length_append] at h
            have h : i < nss.length + 1 := h
            obtain rfl : i = nss.length := by omega
            rw [List.getElem_concat_length rfl]
            rw [hnl]
            exact hgr
        · exact pr_app (prMp hps fun x y z => ⟨z.1, z.2.1, by rw [upd_ne z.2.1]; exact e' _ _ z.2.2⟩) (.cons ⟨ngd, nga, by rw [upd_ne nga]; exact hga⟩ .nil)
      · rintro Hv ⟨ev, as, nss, hDI, hnl, hno, hps⟩
        rw [hnt] at hnl
        have hDGv := ev _ _ hDG
        refine ⟨_, hDGv, small' (by rw [List.length_map, hgl]; have : k < 2 := (List.getElem?_eq_some_iff.mp hi).1; omega), Same.mut (ew.trans ev) fDG _, gs ++ [DI], ?_, ?_, fun g hg => ?_⟩
        · rw [upd_same, List.map_append]
          rfl
        · rw [List.length_append, hgl]
          rfl
        · rw [hide_upd]
          rcases List.mem_append.mp hg with hg | hg
          · exact (hgs g hg).mono (hide_mono ev)
          · rw [List.mem_singleton.mp hg]
            exact ⟨as, nss, by rw [hide_ne nDI]; exact hDI, hnl, hno, prMp hps fun x y z => by rw [hide_ne z.1]; exact z.2.2⟩
    rintro Hw ⟨ew, gs, hDG, hgl, hgs⟩
    obtain ⟨g1, g2, rfl⟩ : ∃ g1 g2, gs = [g1, g2] := by
      match gs, hgl with
      | [g1, g2], _ => exact ⟨g1, g2, rfl⟩
    obtain ⟨nss, hd1, hd2⟩ := grps_same (K := K) ((hgs g1 (by simp)).mono hide_le) ((hgs g2 (by simp)).mono hide_le)
    have Mw := Mg.new ew
    have eW := hw_same (W := W2 q p f p3 fk) ew
    have rwW := rwG.mono eW
    have unW := unG.mono eW
    have wdW := eW _ _ wdG
    have thW := thG.mono eW
    have hDSw := ew _ _ hDSg
    have husw := ew _ _ husg
    obtain ⟨uu, huu, huups⟩ := (unW.mono hw_le).ex
    have huul := pr_len huups
    sizeOf_list_dec
    refine lis_go (u := (uu.map V.ref).length) Mw.l1 hg rfl rfl (by rw [List.length_map, huul]) (rwW.mono hw_le) fun H8 e8 => ?_
    sizeOf_list_dec
    rename_i D3 fD3
    have e8w := hw_same (W := W2 q p f p3 fk) e8
    have rw8 := rwW.mono e8w
    obtain ⟨us8, hus8, hups8⟩ := rw8.ex
    have hul8 := pr_len hups8
    have s9 := same_new fD3 (.lst [])
    refine lc_list (K := K) (a := t) (xs := us8.map V.ref) (fun k Hy => Hold (Same H8 Hy ∧ Hy D3 = some (.lst ((rws.take k).map fun x => V.str x.2)))) ⟨s9, upd_same⟩ (fun k Hy _ h => SqL.of (h.h.1 _ _ (hw_le _ _ hus8))) ?_ ?_
    · rintro k x Hy hi ⟨ey, hD3⟩
      have hkl : k < us8.length := by
        have := (List.getElem?_eq_some_iff.mp hi).1
        rwa [List.length_map] at this
      have hk : k < rws.length := hul8 ▸ hkl
      obtain ⟨uj, hu1, rr, hu2, hu3⟩ := pr_getR hups8 (List.getElem?_eq_getElem hk)
      obtain rfl : V.ref uj = x := by
        rw [List.getElem?_map, hu1] at hi
        exact Option.some.inj hi
      have huj : SqT K Hy uj [.ref rr, .str rws[k].2] := Same.tup (hw_le.trans ey) hu2
      have tk : rws.take (k + 1) = rws.take k ++ [rws[k]] := by
        rw [List.take_add_one, List.getElem?_eq_getElem hk]
        rfl
      sizeOf_list_dec
      refine ⟨small' (by rw [List.length_map, List.length_take]; omega), Same.mut ey fD3 _, ?_⟩
      rw [tk, List.map_append]
      exact upd_same
    rintro Hz ⟨ez, hD3⟩
    rw [List.length_map, hul8, List.take_length] at hD3
    have eZ := e8.trans ez
    have hDSz := eZ _ _ hDSw
    have hDGz := eZ _ _ hDG
    have hma : (rws.map fun x => V.str x.2) = (rws.map (·.2)).map V.str := by rw [List.map_map]; rfl
    rw [hma] at hDSz hD3
    have oks : ∀ z ∈ rws.map (·.2), okS z := fun z hz => okS_lot (hg.si z hz)
    have zs1 : (!PyData.eqv (siD (rws.map (·.2))) (siD (rws.map (·.2)))) = false := by rw [eqv_si, decide_eq_true rfl]; rfl
    have zs2 : (!PyData.eqv (nnD nss) (nnD nss)) = false := by rw [eqv_nn]; rfl
    have at0 : atI ([g1, g2].map V.ref) 0 = some (.ref g1) := rfl
    have at1 : atI ([g1, g2].map V.ref) 1 = some (.ref g2) := rfl
    refine ⟨_, _, dp_si (SqL.of hDSz), dp_si (SqL.of hD3), shaped_si oks, shaped_si oks, ?_⟩
    rw [zs1]
    sizeOf_list_dec
    refine ⟨shaped_nn, shaped_nn, ?_⟩
    rw [zs2]
    sizeOf_list_dec
    have eF := (hw_same (W := W2 q p f p3 fk) eZ).trans w2_out
    exact ⟨p, f, t, u, rws, und, _, _, _, _, _, _, _, _, _, _, rfl, (Mw.new eZ).liv, rwW.mono eF, unW.mono eF, eF _ _ wdW, thW.mono eF, dsn, dok, dln⟩
end
end Bl

namespace Bl
open PySem L2
theorem top_mk {K : PySem.W.Frag} {h : Heap} {mg : Str → Option Value} {fa : Addr} (X : K.In h) (G : h.Ns mainGlobals mg) (hfa : mg "law" = some (.ref fa))
    {C_Bonds : Addr}
    {C_Ledger : Addr}
    {tk_Ledger_MOST : Tok}
    {tk_Ledger_MOST_THINGS : Tok}
    {a0 : Addr} {od0 an0 : Option Addr} {sl0 : Array (Option Value)} {oc0 kV0 dc0 pm0 cd0 ct0 : Value}
    {a1 : Addr} {od1 an1 : Option Addr} {sl1 : Array (Option Value)} {oc1 kV1 dc1 pm1 cd1 ct1 : Value}
    {a2 : Addr} {od2 an2 : Option Addr} {sl2 : Array (Option Value)} {oc2 kV2 dc2 pm2 cd2 ct2 : Value}
    {a3 : Addr} {od3 an3 : Option Addr} {sl3 : Array (Option Value)} {oc3 kV3 dc3 pm3 cd3 ct3 : Value}
    {a4 : Addr} {od4 an4 : Option Addr} {sl4 : Array (Option Value)} {oc4 kV4 dc4 pm4 cd4 ct4 : Value}
    {a5 : Addr} {od5 an5 : Option Addr} {sl5 : Array (Option Value)} {oc5 kV5 dc5 pm5 cd5 ct5 : Value}
    {a6 : Addr} {od6 an6 : Option Addr} {sl6 : Array (Option Value)} {oc6 kV6 dc6 pm6 cd6 ct6 : Value}
    {a7 : Addr} {od7 an7 : Option Addr} {sl7 : Array (Option Value)} {oc7 kV7 dc7 pm7 cd7 ct7 : Value}
    {a8 : Addr} {od8 an8 : Option Addr} {sl8 : Array (Option Value)} {oc8 kV8 dc8 pm8 cd8 ct8 : Value}
    {a9 : Addr} {od9 an9 : Option Addr} {sl9 : Array (Option Value)} {oc9 kV9 dc9 pm9 cd9 ct9 : Value}
    {a10 : Addr} {od10 an10 : Option Addr} {sl10 : Array (Option Value)} {oc10 kV10 dc10 pm10 cd10 ct10 : Value}
    {a11 : Addr} {od11 an11 : Option Addr} {sl11 : Array (Option Value)} {oc11 kV11 dc11 pm11 cd11 ct11 : Value}
    {a12 : Addr} {od12 an12 : Option Addr} {sl12 : Array (Option Value)} {oc12 kV12 dc12 pm12 cd12 ct12 : Value}
    {a13 : Addr} {od13 an13 : Option Addr} {sl13 : Array (Option Value)} {oc13 kV13 dc13 pm13 cd13 ct13 : Value}
    {a14 : Addr} {od14 an14 : Option Addr} {sl14 : Array (Option Value)} {oc14 kV14 dc14 pm14 cd14 ct14 : Value}
    {a15 : Addr} {od15 an15 : Option Addr} {sl15 : Array (Option Value)} {oc15 kV15 dc15 pm15 cd15 ct15 : Value}
    {a16 : Addr} {od16 an16 : Option Addr} {sl16 : Array (Option Value)} {oc16 kV16 dc16 pm16 cd16 ct16 : Value}
    {a17 : Addr} {od17 an17 : Option Addr} {sl17 : Array (Option Value)} {oc17 kV17 dc17 pm17 cd17 ct17 : Value}
    {a18 : Addr} {od18 an18 : Option Addr} {sl18 : Array (Option Value)} {oc18 kV18 dc18 pm18 cd18 ct18 : Value}
    {a19 : Addr} {od19 an19 : Option Addr} {sl19 : Array (Option Value)} {oc19 kV19 dc19 pm19 cd19 ct19 : Value}
    {a20 : Addr} {od20 an20 : Option Addr} {sl20 : Array (Option Value)} {oc20 kV20 dc20 pm20 cd20 ct20 : Value}
    {a21 : Addr} {od21 an21 : Option Addr} {sl21 : Array (Option Value)} {oc21 kV21 dc21 pm21 cd21 ct21 : Value}
    {a22 : Addr} {od22 an22 : Option Addr} {sl22 : Array (Option Value)} {oc22 kV22 dc22 pm22 cd22 ct22 : Value}
    {a23 : Addr} {od23 an23 : Option Addr} {sl23 : Array (Option Value)} {oc23 kV23 dc23 pm23 cd23 ct23 : Value}
    {a24 : Addr} {od24 an24 : Option Addr} {sl24 : Array (Option Value)} {oc24 kV24 dc24 pm24 cd24 ct24 : Value}
    {a25 : Addr} {od25 an25 : Option Addr} {sl25 : Array (Option Value)} {oc25 kV25 dc25 pm25 cd25 ct25 : Value}
    {a26 : Addr} {od26 an26 : Option Addr} {sl26 : Array (Option Value)} {oc26 kV26 dc26 pm26 cd26 ct26 : Value}
    {a27 : Addr} {od27 an27 : Option Addr} {sl27 : Array (Option Value)} {oc27 kV27 dc27 pm27 cd27 ct27 : Value}
    {a28 : Addr} {od28 an28 : Option Addr} {sl28 : Array (Option Value)} {oc28 kV28 dc28 pm28 cd28 ct28 : Value}
    {a29 : Addr} {od29 an29 : Option Addr} {sl29 : Array (Option Value)} {oc29 kV29 dc29 pm29 cd29 ct29 : Value}
    {a30 : Addr} {od30 an30 : Option Addr} {sl30 : Array (Option Value)} {oc30 kV30 dc30 pm30 cd30 ct30 : Value}
    {a31 : Addr} {od31 an31 : Option Addr} {sl31 : Array (Option Value)} {oc31 kV31 dc31 pm31 cd31 ct31 : Value}
    {a32 : Addr} {od32 an32 : Option Addr} {sl32 : Array (Option Value)} {oc32 kV32 dc32 pm32 cd32 ct32 : Value}
    {a33 : Addr} {od33 an33 : Option Addr} {sl33 : Array (Option Value)} {oc33 kV33 dc33 pm33 cd33 ct33 : Value}
    {a34 : Addr} {od34 an34 : Option Addr} {sl34 : Array (Option Value)} {oc34 kV34 dc34 pm34 cd34 ct34 : Value}
    {a35 : Addr} {od35 an35 : Option Addr} {sl35 : Array (Option Value)} {oc35 kV35 dc35 pm35 cd35 ct35 : Value}
    {a36 : Addr} {od36 an36 : Option Addr} {sl36 : Array (Option Value)} {oc36 kV36 dc36 pm36 cd36 ct36 : Value}
    {a37 : Addr} {od37 an37 : Option Addr} {sl37 : Array (Option Value)} {oc37 kV37 dc37 pm37 cd37 ct37 : Value}
    {a38 : Addr} {od38 an38 : Option Addr} {sl38 : Array (Option Value)} {oc38 kV38 dc38 pm38 cd38 ct38 : Value}
    {a39 : Addr} {od39 an39 : Option Addr} {sl39 : Array (Option Value)} {oc39 kV39 dc39 pm39 cd39 ct39 : Value}
    {a40 : Addr} {od40 an40 : Option Addr} {sl40 : Array (Option Value)} {oc40 kV40 dc40 pm40 cd40 ct40 : Value}
    {a41 : Addr} {od41 an41 : Option Addr} {sl41 : Array (Option Value)} {oc41 kV41 dc41 pm41 cd41 ct41 : Value}
    {a42 : Addr} {od42 an42 : Option Addr} {sl42 : Array (Option Value)} {oc42 kV42 dc42 pm42 cd42 ct42 : Value}
    {a43 : Addr} {od43 an43 : Option Addr} {sl43 : Array (Option Value)} {oc43 kV43 dc43 pm43 cd43 ct43 : Value}
    {a44 : Addr} {od44 an44 : Option Addr} {sl44 : Array (Option Value)} {oc44 kV44 dc44 pm44 cd44 ct44 : Value}
    {a45 : Addr} {od45 an45 : Option Addr} {sl45 : Array (Option Value)} {oc45 kV45 dc45 pm45 cd45 ct45 : Value}
    {a46 : Addr} {od46 an46 : Option Addr} {sl46 : Array (Option Value)} {oc46 kV46 dc46 pm46 cd46 ct46 : Value}
    {a47 : Addr} {od47 an47 : Option Addr} {sl47 : Array (Option Value)} {oc47 kV47 dc47 pm47 cd47 ct47 : Value}
    {C_LotsError : Addr}
    {C_Missing : Addr}
    {C_InvalidThing : Addr}
    {f_InvalidThing : Addr} {od_InvalidThing an_InvalidThing : Option Addr} {sl_InvalidThing : Array (Option Value)} {oc_InvalidThing kV_InvalidThing dc_InvalidThing pm_InvalidThing cd_InvalidThing ct_InvalidThing : Value}
    {C_InvalidRow : Addr}
    {f_InvalidRow : Addr} {od_InvalidRow an_InvalidRow : Option Addr} {sl_InvalidRow : Array (Option Value)} {oc_InvalidRow kV_InvalidRow dc_InvalidRow pm_InvalidRow cd_InvalidRow ct_InvalidRow : Value}
    {C_InvalidWord : Addr}
    {f_InvalidWord : Addr} {od_InvalidWord an_InvalidWord : Option Addr} {sl_InvalidWord : Array (Option Value)} {oc_InvalidWord kV_InvalidWord dc_InvalidWord pm_InvalidWord cd_InvalidWord ct_InvalidWord : Value}
    {C_SideTaken : Addr}
    {f_SideTaken : Addr} {od_SideTaken an_SideTaken : Option Addr} {sl_SideTaken : Array (Option Value)} {oc_SideTaken kV_SideTaken dc_SideTaken pm_SideTaken cd_SideTaken ct_SideTaken : Value}
    {C_Torn : Addr}
    {f_Torn : Addr} {od_Torn an_Torn : Option Addr} {sl_Torn : Array (Option Value)} {oc_Torn kV_Torn dc_Torn pm_Torn cd_Torn ct_Torn : Value}
    {C_TooMany : Addr}
    {f_TooMany : Addr} {od_TooMany an_TooMany : Option Addr} {sl_TooMany : Array (Option Value)} {oc_TooMany kV_TooMany dc_TooMany pm_TooMany cd_TooMany ct_TooMany : Value}
    {C_Full : Addr}
    {f_Full : Addr} {od_Full an_Full : Option Addr} {sl_Full : Array (Option Value)} {oc_Full kV_Full dc_Full pm_Full cd_Full ct_Full : Value}
    {C_UnknownRow : Addr}
    {f_UnknownRow : Addr} {od_UnknownRow an_UnknownRow : Option Addr} {sl_UnknownRow : Array (Option Value)} {oc_UnknownRow kV_UnknownRow dc_UnknownRow pm_UnknownRow cd_UnknownRow ct_UnknownRow : Value}
    {C_NothingLeft : Addr}
    {f_NothingLeft : Addr} {od_NothingLeft an_NothingLeft : Option Addr} {sl_NothingLeft : Array (Option Value)} {oc_NothingLeft kV_NothingLeft dc_NothingLeft pm_NothingLeft cd_NothingLeft ct_NothingLeft : Value}
    {c_law P_law : Addr} {ec_law : Value} {dc_law : Option Addr} {vc_law : Array Value} {sc0_law : Array (Option Value)}
    {c_lived P_lived : Addr} {ec_lived : Value} {dc_lived : Option Addr} {vc_lived : Array Value} {sc0_lived : Array (Option Value)}
    {c_ledger_back P_ledger_back : Addr} {ec_ledger_back : Value} {dc_ledger_back : Option Addr} {vc_ledger_back : Array Value} {sc0_ledger_back : Array (Option Value)}
    {KD : Addr}
    {t_LETTERS : Tok}
    {t_LONGEST_NAME : Tok}
    {p_LOTS : Addr} {dd_LOTS : Option Addr} {n_LOTS : Nat} {sl_LOTS : Array (Option Value)} {tl0 tl1 : Tok}
    {t_MOST_OF_THING : Tok}
    (OA_Bonds : PySem.W.nsIn K mainGlobals "Bonds" = some (some (.ref C_Bonds)))
    (Oga_Bonds : PySem.W.plainGet K C_Bonds Str.empty = true)
    (Ohd_Bonds : PySem.W.hasDictIn K C_Bonds = true)
    (Opo_Bonds : PySem.W.plainOver K C_Bonds = true)
    (Osa_Bonds : PySem.W.findIn K (.ref C_Bonds) "__setattr__" = some (some (.builtin "object.__setattr__")))
    (Omk_Bonds : PySem.W.makesIn K C_Bonds = true)
    (Okp_Bonds : PySem.W.keepIn K (.ref C_Bonds) = true)
    (On_Bonds__marked : PySem.W.findIn K (.ref C_Bonds) "_marked" = some none)
    (On_Bonds__holders : PySem.W.findIn K (.ref C_Bonds) "_holders" = some none)
    (OA_Ledger : PySem.W.nsIn K mainGlobals "Ledger" = some (some (.ref C_Ledger)))
    (Oga_Ledger : PySem.W.plainGet K C_Ledger Str.empty = true)
    (Ohd_Ledger : PySem.W.hasDictIn K C_Ledger = true)
    (Opo_Ledger : PySem.W.plainOver K C_Ledger = true)
    (Osa_Ledger : PySem.W.findIn K (.ref C_Ledger) "__setattr__" = some (some (.builtin "object.__setattr__")))
    (Omk_Ledger : PySem.W.makesIn K C_Ledger = true)
    (Okp_Ledger : PySem.W.keepIn K (.ref C_Ledger) = true)
    (On_Ledger__things : PySem.W.findIn K (.ref C_Ledger) "_things" = some none)
    (On_Ledger__rows : PySem.W.findIn K (.ref C_Ledger) "_rows" = some none)
    (On_Ledger__sides : PySem.W.findIn K (.ref C_Ledger) "_sides" = some none)
    (On_Ledger__undone : PySem.W.findIn K (.ref C_Ledger) "_undone" = some none)
    (Oi1_Ledger : PySem.W.findIn K (.ref C_Ledger) "__class__" = some (some (.builtin "object.__class__"))) (Oi2_Ledger : PySem.W.specialIn K (.builtin "object.__class__") "__get__" = some (some (.builtin "getset_descriptor.__get__"))) (Oi3_Ledger : PySem.W.takesIn K (.builtin "object.__class__") = some true) (Oi4_Ledger : PySem.W.mroIn K C_Ledger (.type "object") = some true) (Oi5_Ledger : PySem.W.kitOne K (.ref C_Ledger) (.ref C_Ledger) = some true)
    (Oi6_Ledger : ownB K C_Ledger = true)
    (Or1_Ledger : PySem.W.readsIn K C_Ledger (.type "type") = true) (Or2_Ledger : PySem.W.specialIn K (.ref C_Ledger) "__getattribute__" = some (some (.builtin "type.__getattribute__")))
    (Oc_Ledger_MOST : PySem.W.findCls K (.ref C_Ledger) (.type "type") "MOST" = some (.val (.int 200 tk_Ledger_MOST)))
    (Oc_Ledger_MOST_THINGS : PySem.W.findCls K (.ref C_Ledger) (.type "type") "MOST_THINGS" = some (.val (.int 4 tk_Ledger_MOST_THINGS)))
    (A0 : PySem.W.nsIn K mainGlobals "is_name" = some (some (.ref a0))) (L0 : K.lookup a0 = some ⟨oc0, od0, .func (PySem.W.fnOf "is_name" "is_name" (defArgs s_is_name) (defBody s_is_name) (defScope s_is_name) .none kV0 dc0 pm0 an0 cd0 ct0), sl0⟩) (C0 : PySem.W.codeIn K cd0 "is_name" = true) (K0 : PySem.W.keepIn K (.ref a0) = true)
    (A1 : PySem.W.nsIn K mainGlobals "is_number" = some (some (.ref a1))) (L1 : K.lookup a1 = some ⟨oc1, od1, .func (PySem.W.fnOf "is_number" "is_number" (defArgs s_is_number) (defBody s_is_number) (defScope s_is_number) .none kV1 dc1 pm1 an1 cd1 ct1), sl1⟩) (C1 : PySem.W.codeIn K cd1 "is_number" = true) (K1 : PySem.W.keepIn K (.ref a1) = true)
    (A2 : PySem.W.nsIn K mainGlobals "_is_thing" = some (some (.ref a2))) (L2 : K.lookup a2 = some ⟨oc2, od2, .func (PySem.W.fnOf "_is_thing" "_is_thing" (defArgs s_is_thing) (defBody s_is_thing) (defScope s_is_thing) .none kV2 dc2 pm2 an2 cd2 ct2), sl2⟩) (C2 : PySem.W.codeIn K cd2 "_is_thing" = true) (K2 : PySem.W.keepIn K (.ref a2) = true)
    (A3 : PySem.W.nsIn K mainGlobals "_is_row" = some (some (.ref a3))) (L3 : K.lookup a3 = some ⟨oc3, od3, .func (PySem.W.fnOf "_is_row" "_is_row" (defArgs s_is_row) (defBody s_is_row) (defScope s_is_row) .none kV3 dc3 pm3 an3 cd3 ct3), sl3⟩) (C3 : PySem.W.codeIn K cd3 "_is_row" = true) (K3 : PySem.W.keepIn K (.ref a3) = true)
    (A4 : PySem.W.nsIn K mainGlobals "_has_one" = some (some (.ref a4))) (L4 : K.lookup a4 = some ⟨oc4, od4, .func (PySem.W.fnOf "_has_one" "_has_one" (defArgs s_has_one) (defBody s_has_one) (defScope s_has_one) .none kV4 dc4 pm4 an4 cd4 ct4), sl4⟩) (C4 : PySem.W.codeIn K cd4 "_has_one" = true) (K4 : PySem.W.keepIn K (.ref a4) = true)
    (A5 : PySem.W.nsIn K mainGlobals "_law_box" = some (some (.ref a5))) (L5 : K.lookup a5 = some ⟨oc5, od5, .func (PySem.W.fnOf "_law_box" "_law_box" (defArgs s_box) (defBody s_box) (defScope s_box) .none kV5 dc5 pm5 an5 cd5 ct5), sl5⟩) (C5 : PySem.W.codeIn K cd5 "_law_box" = true) (K5 : PySem.W.keepIn K (.ref a5) = true)
    (A6 : PySem.W.nsIn K mainGlobals "_law_pull" = some (some (.ref a6))) (L6 : K.lookup a6 = some ⟨oc6, od6, .func (PySem.W.fnOf "_law_pull" "_law_pull" (defArgs s_pull) (defBody s_pull) (defScope s_pull) .none kV6 dc6 pm6 an6 cd6 ct6), sl6⟩) (C6 : PySem.W.codeIn K cd6 "_law_pull" = true) (K6 : PySem.W.keepIn K (.ref a6) = true)
    (A7 : PySem.W.nsIn K mainGlobals "_law_of" = some (some (.ref a7))) (L7 : K.lookup a7 = some ⟨oc7, od7, .func (PySem.W.fnOf "_law_of" "_law_of" (defArgs s_of) (defBody s_of) (defScope s_of) .none kV7 dc7 pm7 an7 cd7 ct7), sl7⟩) (C7 : PySem.W.codeIn K cd7 "_law_of" = true) (K7 : PySem.W.keepIn K (.ref a7) = true)
    (A8 : PySem.W.nsIn K mainGlobals "_law_names" = some (some (.ref a8))) (L8 : K.lookup a8 = some ⟨oc8, od8, .func (PySem.W.fnOf "_law_names" "_law_names" (defArgs s_names) (defBody s_names) (defScope s_names) .none kV8 dc8 pm8 an8 cd8 ct8), sl8⟩) (C8 : PySem.W.codeIn K cd8 "_law_names" = true) (K8 : PySem.W.keepIn K (.ref a8) = true)
    (A9 : PySem.W.nsIn K mainGlobals "_law_same" = some (some (.ref a9))) (L9 : K.lookup a9 = some ⟨oc9, od9, .func (PySem.W.fnOf "_law_same" "_law_same" (defArgs s_same) (defBody s_same) (defScope s_same) .none kV9 dc9 pm9 an9 cd9 ct9), sl9⟩) (C9 : PySem.W.codeIn K cd9 "_law_same" = true) (K9 : PySem.W.keepIn K (.ref a9) = true)
    (A10 : PySem.W.nsIn K mainGlobals "_law_field" = some (some (.ref a10))) (L10 : K.lookup a10 = some ⟨oc10, od10, .func (PySem.W.fnOf "_law_field" "_law_field" (defArgs s_field) (defBody s_field) (defScope s_field) .none kV10 dc10 pm10 an10 cd10 ct10), sl10⟩) (C10 : PySem.W.codeIn K cd10 "_law_field" = true) (K10 : PySem.W.keepIn K (.ref a10) = true)
    (A11 : PySem.W.nsIn K mainGlobals "_law_got" = some (some (.ref a11))) (L11 : K.lookup a11 = some ⟨oc11, od11, .func (PySem.W.fnOf "_law_got" "_law_got" (defArgs s_got) (defBody s_got) (defScope s_got) .none kV11 dc11 pm11 an11 cd11 ct11), sl11⟩) (C11 : PySem.W.codeIn K cd11 "_law_got" = true) (K11 : PySem.W.keepIn K (.ref a11) = true)
    (A12 : PySem.W.nsIn K mainGlobals "_law_mixed" = some (some (.ref a12))) (L12 : K.lookup a12 = some ⟨oc12, od12, .func (PySem.W.fnOf "_law_mixed" "_law_mixed" (defArgs s_mixed) (defBody s_mixed) (defScope s_mixed) .none kV12 dc12 pm12 an12 cd12 ct12), sl12⟩) (C12 : PySem.W.codeIn K cd12 "_law_mixed" = true) (K12 : PySem.W.keepIn K (.ref a12) = true)
    (A13 : PySem.W.nsIn K mainGlobals "_law_fields" = some (some (.ref a13))) (L13 : K.lookup a13 = some ⟨oc13, od13, .func (PySem.W.fnOf "_law_fields" "_law_fields" (defArgs s_fields) (defBody s_fields) (defScope s_fields) .none kV13 dc13 pm13 an13 cd13 ct13), sl13⟩) (C13 : PySem.W.codeIn K cd13 "_law_fields" = true) (K13 : PySem.W.keepIn K (.ref a13) = true)
    (A14 : PySem.W.nsIn K mainGlobals "_law_entry" = some (some (.ref a14))) (L14 : K.lookup a14 = some ⟨oc14, od14, .func (PySem.W.fnOf "_law_entry" "_law_entry" (defArgs s_entry) (defBody s_entry) (defScope s_entry) .none kV14 dc14 pm14 an14 cd14 ct14), sl14⟩) (C14 : PySem.W.codeIn K cd14 "_law_entry" = true) (K14 : PySem.W.keepIn K (.ref a14) = true)
    (A15 : PySem.W.nsIn K mainGlobals "_law_meet" = some (some (.ref a15))) (L15 : K.lookup a15 = some ⟨oc15, od15, .func (PySem.W.fnOf "_law_meet" "_law_meet" (defArgs s_meet) (defBody s_meet) (defScope s_meet) .none kV15 dc15 pm15 an15 cd15 ct15), sl15⟩) (C15 : PySem.W.codeIn K cd15 "_law_meet" = true) (K15 : PySem.W.keepIn K (.ref a15) = true)
    (A16 : PySem.W.nsIn K mainGlobals "_law_offer" = some (some (.ref a16))) (L16 : K.lookup a16 = some ⟨oc16, od16, .func (PySem.W.fnOf "_law_offer" "_law_offer" (defArgs s_offer) (defBody s_offer) (defScope s_offer) .none kV16 dc16 pm16 an16 cd16 ct16), sl16⟩) (C16 : PySem.W.codeIn K cd16 "_law_offer" = true) (K16 : PySem.W.keepIn K (.ref a16) = true)
    (A17 : PySem.W.nsIn K mainGlobals "_law_added" = some (some (.ref a17))) (L17 : K.lookup a17 = some ⟨oc17, od17, .func (PySem.W.fnOf "_law_added" "_law_added" (defArgs s_added) (defBody s_added) (defScope s_added) .none kV17 dc17 pm17 an17 cd17 ct17), sl17⟩) (C17 : PySem.W.codeIn K cd17 "_law_added" = true) (K17 : PySem.W.keepIn K (.ref a17) = true)
    (A18 : PySem.W.nsIn K mainGlobals "_law_lived" = some (some (.ref a18))) (L18 : K.lookup a18 = some ⟨oc18, od18, .func (PySem.W.fnOf "_law_lived" "_law_lived" (defArgs s_lived) (defBody s_lived) (defScope s_lived) .none kV18 dc18 pm18 an18 cd18 ct18), sl18⟩) (C18 : PySem.W.codeIn K cd18 "_law_lived" = true) (K18 : PySem.W.keepIn K (.ref a18) = true)
    (A19 : PySem.W.nsIn K mainGlobals "_law_ledger" = some (some (.ref a19))) (L19 : K.lookup a19 = some ⟨oc19, od19, .func (PySem.W.fnOf "_law_ledger" "_law_ledger" (defArgs s_ledger) (defBody s_ledger) (defScope s_ledger) .none kV19 dc19 pm19 an19 cd19 ct19), sl19⟩) (C19 : PySem.W.codeIn K cd19 "_law_ledger" = true) (K19 : PySem.W.keepIn K (.ref a19) = true)
    (A20 : PySem.W.nsIn K mainGlobals "_law_ledger_is" = some (some (.ref a20))) (L20 : K.lookup a20 = some ⟨oc20, od20, .func (PySem.W.fnOf "_law_ledger_is" "_law_ledger_is" (defArgs s_ledger_is) (defBody s_ledger_is) (defScope s_ledger_is) .none kV20 dc20 pm20 an20 cd20 ct20), sl20⟩) (C20 : PySem.W.codeIn K cd20 "_law_ledger_is" = true) (K20 : PySem.W.keepIn K (.ref a20) = true)
    (A21 : PySem.W.nsIn K mainGlobals "_law_ledger_back" = some (some (.ref a21))) (L21 : K.lookup a21 = some ⟨oc21, od21, .func (PySem.W.fnOf "_law_ledger_back" "_law_ledger_back" (defArgs s_ledger_back) (defBody s_ledger_back) (defScope s_ledger_back) .none kV21 dc21 pm21 an21 cd21 ct21), sl21⟩) (C21 : PySem.W.codeIn K cd21 "_law_ledger_back" = true) (K21 : PySem.W.keepIn K (.ref a21) = true)
    (A22 : PySem.W.nsIn K mainGlobals "_law_twins_so" = some (some (.ref a22))) (L22 : K.lookup a22 = some ⟨oc22, od22, .func (PySem.W.fnOf "_law_twins_so" "_law_twins_so" (defArgs s_twins_so) (defBody s_twins_so) (defScope s_twins_so) .none kV22 dc22 pm22 an22 cd22 ct22), sl22⟩) (C22 : PySem.W.codeIn K cd22 "_law_twins_so" = true) (K22 : PySem.W.keepIn K (.ref a22) = true)
    (A23 : PySem.W.nsIn K mainGlobals "law" = some (some (.ref a23))) (L23 : K.lookup a23 = some ⟨oc23, od23, .func (PySem.W.fnOf "law" "law" (defArgs s_law) (defBody s_law) (defScope s_law) .none kV23 dc23 pm23 an23 cd23 ct23), sl23⟩) (C23 : PySem.W.codeIn K cd23 "law" = true) (K23 : PySem.W.keepIn K (.ref a23) = true)
    (A24 : PySem.W.findIn K (.ref C_Bonds) "__init__" = some (some (.ref a24))) (I24 : PySem.W.isFn K (.ref a24) = true) (L24 : K.lookup a24 = some ⟨oc24, od24, .func (PySem.W.fnOf "__init__" "Bonds.__init__" (defArgs s_Bonds___init__) (defBody s_Bonds___init__) (defScope s_Bonds___init__) .none kV24 dc24 pm24 an24 cd24 ct24), sl24⟩) (C24 : PySem.W.codeIn K cd24 "Bonds.__init__" = true) (K24 : PySem.W.keepIn K (.ref a24) = true)
    (A25 : PySem.W.findIn K (.ref C_Bonds) "_distances" = some (some (.ref a25))) (I25 : PySem.W.isFn K (.ref a25) = true) (L25 : K.lookup a25 = some ⟨oc25, od25, .func (PySem.W.fnOf "_distances" "Bonds._distances" (defArgs s_Bonds__distances) (defBody s_Bonds__distances) (defScope s_Bonds__distances) .none kV25 dc25 pm25 an25 cd25 ct25), sl25⟩) (C25 : PySem.W.codeIn K cd25 "Bonds._distances" = true) (K25 : PySem.W.keepIn K (.ref a25) = true)
    (A26 : PySem.W.findIn K (.ref C_Bonds) "group" = some (some (.ref a26))) (I26 : PySem.W.isFn K (.ref a26) = true) (L26 : K.lookup a26 = some ⟨oc26, od26, .func (PySem.W.fnOf "group" "Bonds.group" (defArgs s_Bonds_group) (defBody s_Bonds_group) (defScope s_Bonds_group) .none kV26 dc26 pm26 an26 cd26 ct26), sl26⟩) (C26 : PySem.W.codeIn K cd26 "Bonds.group" = true) (K26 : PySem.W.keepIn K (.ref a26) = true)
    (A27 : PySem.W.findIn K (.ref C_Ledger) "__init__" = some (some (.ref a27))) (I27 : PySem.W.isFn K (.ref a27) = true) (L27 : K.lookup a27 = some ⟨oc27, od27, .func (PySem.W.fnOf "__init__" "Ledger.__init__" (defArgs s_Ledger___init__) (defBody s_Ledger___init__) (defScope s_Ledger___init__) .none kV27 dc27 pm27 an27 cd27 ct27), sl27⟩) (C27 : PySem.W.codeIn K cd27 "Ledger.__init__" = true) (K27 : PySem.W.keepIn K (.ref a27) = true)
    (A28 : PySem.W.findIn K (.ref C_Ledger) "offer" = some (some (.ref a28))) (I28 : PySem.W.isFn K (.ref a28) = true) (L28 : K.lookup a28 = some ⟨oc28, od28, .func (PySem.W.fnOf "offer" "Ledger.offer" (defArgs s_Ledger_offer) (defBody s_Ledger_offer) (defScope s_Ledger_offer) .none kV28 dc28 pm28 an28 cd28 ct28), sl28⟩) (C28 : PySem.W.codeIn K cd28 "Ledger.offer" = true) (K28 : PySem.W.keepIn K (.ref a28) = true)
    (A29 : PySem.W.findIn K (.ref C_Ledger) "add" = some (some (.ref a29))) (I29 : PySem.W.isFn K (.ref a29) = true) (L29 : K.lookup a29 = some ⟨oc29, od29, .func (PySem.W.fnOf "add" "Ledger.add" (defArgs s_Ledger_add) (defBody s_Ledger_add) (defScope s_Ledger_add) .none kV29 dc29 pm29 an29 cd29 ct29), sl29⟩) (C29 : PySem.W.codeIn K cd29 "Ledger.add" = true) (K29 : PySem.W.keepIn K (.ref a29) = true)
    (A30 : PySem.W.findIn K (.ref C_Ledger) "_emptier" = some (some (.ref a30))) (I30 : PySem.W.isFn K (.ref a30) = true) (L30 : K.lookup a30 = some ⟨oc30, od30, .func (PySem.W.fnOf "_emptier" "Ledger._emptier" (defArgs s_Ledger__emptier) (defBody s_Ledger__emptier) (defScope s_Ledger__emptier) .none kV30 dc30 pm30 an30 cd30 ct30), sl30⟩) (C30 : PySem.W.codeIn K cd30 "Ledger._emptier" = true) (K30 : PySem.W.keepIn K (.ref a30) = true)
    (A31 : PySem.W.findIn K (.ref C_Ledger) "_marks_of" = some (some (.ref a31))) (I31 : PySem.W.isFn K (.ref a31) = true) (L31 : K.lookup a31 = some ⟨oc31, od31, .func (PySem.W.fnOf "_marks_of" "Ledger._marks_of" (defArgs s_Ledger__marks_of) (defBody s_Ledger__marks_of) (defScope s_Ledger__marks_of) .none kV31 dc31 pm31 an31 cd31 ct31), sl31⟩) (C31 : PySem.W.codeIn K cd31 "Ledger._marks_of" = true) (K31 : PySem.W.keepIn K (.ref a31) = true)
    (A32 : PySem.W.findIn K (.ref C_Ledger) "things" = some (some (.ref a32))) (I32 : PySem.W.isFn K (.ref a32) = true) (L32 : K.lookup a32 = some ⟨oc32, od32, .func (PySem.W.fnOf "things" "Ledger.things" (defArgs s_Ledger_things) (defBody s_Ledger_things) (defScope s_Ledger_things) .none kV32 dc32 pm32 an32 cd32 ct32), sl32⟩) (C32 : PySem.W.codeIn K cd32 "Ledger.things" = true) (K32 : PySem.W.keepIn K (.ref a32) = true)
    (A33 : PySem.W.findIn K (.ref C_Ledger) "row" = some (some (.ref a33))) (I33 : PySem.W.isFn K (.ref a33) = true) (L33 : K.lookup a33 = some ⟨oc33, od33, .func (PySem.W.fnOf "row" "Ledger.row" (defArgs s_Ledger_row) (defBody s_Ledger_row) (defScope s_Ledger_row) .none kV33 dc33 pm33 an33 cd33 ct33), sl33⟩) (C33 : PySem.W.codeIn K cd33 "Ledger.row" = true) (K33 : PySem.W.keepIn K (.ref a33) = true)
    (A34 : PySem.W.findIn K (.ref C_Ledger) "side" = some (some (.ref a34))) (I34 : PySem.W.isFn K (.ref a34) = true) (L34 : K.lookup a34 = some ⟨oc34, od34, .func (PySem.W.fnOf "side" "Ledger.side" (defArgs s_Ledger_side) (defBody s_Ledger_side) (defScope s_Ledger_side) .none kV34 dc34 pm34 an34 cd34 ct34), sl34⟩) (C34 : PySem.W.codeIn K cd34 "Ledger.side" = true) (K34 : PySem.W.keepIn K (.ref a34) = true)
    (A35 : PySem.W.findIn K (.ref C_Ledger) "_check_number" = some (some (.ref a35))) (I35 : PySem.W.isFn K (.ref a35) = true) (L35 : K.lookup a35 = some ⟨oc35, od35, .func (PySem.W.fnOf "_check_number" "Ledger._check_number" (defArgs s_Ledger__check_number) (defBody s_Ledger__check_number) (defScope s_Ledger__check_number) .none kV35 dc35 pm35 an35 cd35 ct35), sl35⟩) (C35 : PySem.W.codeIn K cd35 "Ledger._check_number" = true) (K35 : PySem.W.keepIn K (.ref a35) = true)
    (A36 : PySem.W.findIn K (.ref C_Ledger) "group" = some (some (.ref a36))) (I36 : PySem.W.isFn K (.ref a36) = true) (L36 : K.lookup a36 = some ⟨oc36, od36, .func (PySem.W.fnOf "group" "Ledger.group" (defArgs s_Ledger_group) (defBody s_Ledger_group) (defScope s_Ledger_group) .none kV36 dc36 pm36 an36 cd36 ct36), sl36⟩) (C36 : PySem.W.codeIn K cd36 "Ledger.group" = true) (K36 : PySem.W.keepIn K (.ref a36) = true)
    (A37 : PySem.W.findIn K (.ref C_Ledger) "_bonds" = some (some (.ref a37))) (I37 : PySem.W.isFn K (.ref a37) = true) (L37 : K.lookup a37 = some ⟨oc37, od37, .func (PySem.W.fnOf "_bonds" "Ledger._bonds" (defArgs s_Ledger__bonds) (defBody s_Ledger__bonds) (defScope s_Ledger__bonds) .none kV37 dc37 pm37 an37 cd37 ct37), sl37⟩) (C37 : PySem.W.codeIn K cd37 "Ledger._bonds" = true) (K37 : PySem.W.keepIn K (.ref a37) = true)
    (A38 : PySem.W.findIn K (.ref C_Ledger) "tally" = some (some (.ref a38))) (I38 : PySem.W.isFn K (.ref a38) = true) (L38 : K.lookup a38 = some ⟨oc38, od38, .func (PySem.W.fnOf "tally" "Ledger.tally" (defArgs s_Ledger_tally) (defBody s_Ledger_tally) (defScope s_Ledger_tally) .none kV38 dc38 pm38 an38 cd38 ct38), sl38⟩) (C38 : PySem.W.codeIn K cd38 "Ledger.tally" = true) (K38 : PySem.W.keepIn K (.ref a38) = true)
    (A39 : PySem.W.findIn K (.ref C_Ledger) "walk" = some (some (.ref a39))) (I39 : PySem.W.isFn K (.ref a39) = true) (L39 : K.lookup a39 = some ⟨oc39, od39, .func (PySem.W.fnOf "walk" "Ledger.walk" (defArgs s_Ledger_walk) (defBody s_Ledger_walk) (defScope s_Ledger_walk) .none kV39 dc39 pm39 an39 cd39 ct39), sl39⟩) (C39 : PySem.W.codeIn K cd39 "Ledger.walk" = true) (K39 : PySem.W.keepIn K (.ref a39) = true)
    (A40 : PySem.W.findIn K (.ref C_Ledger) "undo" = some (some (.ref a40))) (I40 : PySem.W.isFn K (.ref a40) = true) (L40 : K.lookup a40 = some ⟨oc40, od40, .func (PySem.W.fnOf "undo" "Ledger.undo" (defArgs s_Ledger_undo) (defBody s_Ledger_undo) (defScope s_Ledger_undo) .none kV40 dc40 pm40 an40 cd40 ct40), sl40⟩) (C40 : PySem.W.codeIn K cd40 "Ledger.undo" = true) (K40 : PySem.W.keepIn K (.ref a40) = true)
    (A41 : PySem.W.findIn K (.ref C_Ledger) "redo" = some (some (.ref a41))) (I41 : PySem.W.isFn K (.ref a41) = true) (L41 : K.lookup a41 = some ⟨oc41, od41, .func (PySem.W.fnOf "redo" "Ledger.redo" (defArgs s_Ledger_redo) (defBody s_Ledger_redo) (defScope s_Ledger_redo) .none kV41 dc41 pm41 an41 cd41 ct41), sl41⟩) (C41 : PySem.W.codeIn K cd41 "Ledger.redo" = true) (K41 : PySem.W.keepIn K (.ref a41) = true)
    (A42 : PySem.W.findIn K (.ref C_Ledger) "history" = some (some (.ref a42))) (I42 : PySem.W.isFn K (.ref a42) = true) (L42 : K.lookup a42 = some ⟨oc42, od42, .func (PySem.W.fnOf "history" "Ledger.history" (defArgs s_Ledger_history) (defBody s_Ledger_history) (defScope s_Ledger_history) .none kV42 dc42 pm42 an42 cd42 ct42), sl42⟩) (C42 : PySem.W.codeIn K cd42 "Ledger.history" = true) (K42 : PySem.W.keepIn K (.ref a42) = true)
    (A43 : PySem.W.findIn K (.ref C_Ledger) "twin" = some (some (.ref a43))) (I43 : PySem.W.isFn K (.ref a43) = true) (L43 : K.lookup a43 = some ⟨oc43, od43, .func (PySem.W.fnOf "twin" "Ledger.twin" (defArgs s_Ledger_twin) (defBody s_Ledger_twin) (defScope s_Ledger_twin) .none kV43 dc43 pm43 an43 cd43 ct43), sl43⟩) (C43 : PySem.W.codeIn K cd43 "Ledger.twin" = true) (K43 : PySem.W.keepIn K (.ref a43) = true)
    (A44 : PySem.W.findIn K (.ref C_Ledger) "__getitem__" = some (some (.ref a44))) (I44 : PySem.W.isFn K (.ref a44) = true) (L44 : K.lookup a44 = some ⟨oc44, od44, .func (PySem.W.fnOf "__getitem__" "Ledger.__getitem__" (defArgs s_Ledger___getitem__) (defBody s_Ledger___getitem__) (defScope s_Ledger___getitem__) .none kV44 dc44 pm44 an44 cd44 ct44), sl44⟩) (C44 : PySem.W.codeIn K cd44 "Ledger.__getitem__" = true) (K44 : PySem.W.keepIn K (.ref a44) = true)
    (A45 : PySem.W.findIn K (.ref C_Ledger) "__eq__" = some (some (.ref a45))) (I45 : PySem.W.isFn K (.ref a45) = true) (L45 : K.lookup a45 = some ⟨oc45, od45, .func (PySem.W.fnOf "__eq__" "Ledger.__eq__" (defArgs s_Ledger___eq__) (defBody s_Ledger___eq__) (defScope s_Ledger___eq__) .none kV45 dc45 pm45 an45 cd45 ct45), sl45⟩) (C45 : PySem.W.codeIn K cd45 "Ledger.__eq__" = true) (K45 : PySem.W.keepIn K (.ref a45) = true)
    (A46 : PySem.W.findIn K (.ref C_Ledger) "__len__" = some (some (.ref a46))) (I46 : PySem.W.isFn K (.ref a46) = true) (L46 : K.lookup a46 = some ⟨oc46, od46, .func (PySem.W.fnOf "__len__" "Ledger.__len__" (defArgs s_Ledger___len__) (defBody s_Ledger___len__) (defScope s_Ledger___len__) .none kV46 dc46 pm46 an46 cd46 ct46), sl46⟩) (C46 : PySem.W.codeIn K cd46 "Ledger.__len__" = true) (K46 : PySem.W.keepIn K (.ref a46) = true)
    (A47 : PySem.W.findIn K (.ref C_Ledger) "__repr__" = some (some (.ref a47))) (I47 : PySem.W.isFn K (.ref a47) = true) (L47 : K.lookup a47 = some ⟨oc47, od47, .func (PySem.W.fnOf "__repr__" "Ledger.__repr__" (defArgs s_Ledger___repr__) (defBody s_Ledger___repr__) (defScope s_Ledger___repr__) .none kV47 dc47 pm47 an47 cd47 ct47), sl47⟩) (C47 : PySem.W.codeIn K cd47 "Ledger.__repr__" = true) (K47 : PySem.W.keepIn K (.ref a47) = true)
    (AC_LotsError : PySem.W.nsIn K mainGlobals "LotsError" = some (some (.ref C_LotsError)))
    (AC_Missing : PySem.W.nsIn K mainGlobals "Missing" = some (some (.ref C_Missing)))
    (AC_InvalidThing : PySem.W.nsIn K mainGlobals "InvalidThing" = some (some (.ref C_InvalidThing)))
    (XB_InvalidThing : xcB K veM "ValueError.__new__" C_InvalidThing = true) (IC_InvalidThing : PySem.W.findIn K (.ref C_InvalidThing) "__init__" = some (some (.ref f_InvalidThing))) (TI_InvalidThing : PySem.W.typeIn K (.ref f_InvalidThing) = some (.type "function")) (LI_InvalidThing : K.lookup f_InvalidThing = some ⟨oc_InvalidThing, od_InvalidThing, .func (PySem.W.fnOf "__init__" "InvalidThing.__init__" (defArgs si_InvalidThing) (defBody si_InvalidThing) (defScope si_InvalidThing) .none kV_InvalidThing dc_InvalidThing pm_InvalidThing an_InvalidThing cd_InvalidThing ct_InvalidThing), sl_InvalidThing⟩) (CI_InvalidThing : PySem.W.codeIn K cd_InvalidThing "InvalidThing.__init__" = true) (KI_InvalidThing : PySem.W.keepIn K (.ref f_InvalidThing) = true)
    (AC_InvalidRow : PySem.W.nsIn K mainGlobals "InvalidRow" = some (some (.ref C_InvalidRow)))
    (XB_InvalidRow : xcB K veM "ValueError.__new__" C_InvalidRow = true) (IC_InvalidRow : PySem.W.findIn K (.ref C_InvalidRow) "__init__" = some (some (.ref f_InvalidRow))) (TI_InvalidRow : PySem.W.typeIn K (.ref f_InvalidRow) = some (.type "function")) (LI_InvalidRow : K.lookup f_InvalidRow = some ⟨oc_InvalidRow, od_InvalidRow, .func (PySem.W.fnOf "__init__" "InvalidRow.__init__" (defArgs si_InvalidRow) (defBody si_InvalidRow) (defScope si_InvalidRow) .none kV_InvalidRow dc_InvalidRow pm_InvalidRow an_InvalidRow cd_InvalidRow ct_InvalidRow), sl_InvalidRow⟩) (CI_InvalidRow : PySem.W.codeIn K cd_InvalidRow "InvalidRow.__init__" = true) (KI_InvalidRow : PySem.W.keepIn K (.ref f_InvalidRow) = true)
    (AC_InvalidWord : PySem.W.nsIn K mainGlobals "InvalidWord" = some (some (.ref C_InvalidWord)))
    (XB_InvalidWord : xcB K veM "ValueError.__new__" C_InvalidWord = true) (IC_InvalidWord : PySem.W.findIn K (.ref C_InvalidWord) "__init__" = some (some (.ref f_InvalidWord))) (TI_InvalidWord : PySem.W.typeIn K (.ref f_InvalidWord) = some (.type "function")) (LI_InvalidWord : K.lookup f_InvalidWord = some ⟨oc_InvalidWord, od_InvalidWord, .func (PySem.W.fnOf "__init__" "InvalidWord.__init__" (defArgs si_InvalidWord) (defBody si_InvalidWord) (defScope si_InvalidWord) .none kV_InvalidWord dc_InvalidWord pm_InvalidWord an_InvalidWord cd_InvalidWord ct_InvalidWord), sl_InvalidWord⟩) (CI_InvalidWord : PySem.W.codeIn K cd_InvalidWord "InvalidWord.__init__" = true) (KI_InvalidWord : PySem.W.keepIn K (.ref f_InvalidWord) = true)
    (AC_SideTaken : PySem.W.nsIn K mainGlobals "SideTaken" = some (some (.ref C_SideTaken)))
    (XB_SideTaken : xcB K veM "ValueError.__new__" C_SideTaken = true) (IC_SideTaken : PySem.W.findIn K (.ref C_SideTaken) "__init__" = some (some (.ref f_SideTaken))) (TI_SideTaken : PySem.W.typeIn K (.ref f_SideTaken) = some (.type "function")) (LI_SideTaken : K.lookup f_SideTaken = some ⟨oc_SideTaken, od_SideTaken, .func (PySem.W.fnOf "__init__" "SideTaken.__init__" (defArgs si_SideTaken) (defBody si_SideTaken) (defScope si_SideTaken) .none kV_SideTaken dc_SideTaken pm_SideTaken an_SideTaken cd_SideTaken ct_SideTaken), sl_SideTaken⟩) (CI_SideTaken : PySem.W.codeIn K cd_SideTaken "SideTaken.__init__" = true) (KI_SideTaken : PySem.W.keepIn K (.ref f_SideTaken) = true)
    (AC_Torn : PySem.W.nsIn K mainGlobals "Torn" = some (some (.ref C_Torn)))
    (XB_Torn : xcB K veM "ValueError.__new__" C_Torn = true) (IC_Torn : PySem.W.findIn K (.ref C_Torn) "__init__" = some (some (.ref f_Torn))) (TI_Torn : PySem.W.typeIn K (.ref f_Torn) = some (.type "function")) (LI_Torn : K.lookup f_Torn = some ⟨oc_Torn, od_Torn, .func (PySem.W.fnOf "__init__" "Torn.__init__" (defArgs si_Torn) (defBody si_Torn) (defScope si_Torn) .none kV_Torn dc_Torn pm_Torn an_Torn cd_Torn ct_Torn), sl_Torn⟩) (CI_Torn : PySem.W.codeIn K cd_Torn "Torn.__init__" = true) (KI_Torn : PySem.W.keepIn K (.ref f_Torn) = true)
    (AC_TooMany : PySem.W.nsIn K mainGlobals "TooMany" = some (some (.ref C_TooMany)))
    (XB_TooMany : xcB K veM "ValueError.__new__" C_TooMany = true) (IC_TooMany : PySem.W.findIn K (.ref C_TooMany) "__init__" = some (some (.ref f_TooMany))) (TI_TooMany : PySem.W.typeIn K (.ref f_TooMany) = some (.type "function")) (LI_TooMany : K.lookup f_TooMany = some ⟨oc_TooMany, od_TooMany, .func (PySem.W.fnOf "__init__" "TooMany.__init__" (defArgs si_TooMany) (defBody si_TooMany) (defScope si_TooMany) .none kV_TooMany dc_TooMany pm_TooMany an_TooMany cd_TooMany ct_TooMany), sl_TooMany⟩) (CI_TooMany : PySem.W.codeIn K cd_TooMany "TooMany.__init__" = true) (KI_TooMany : PySem.W.keepIn K (.ref f_TooMany) = true)
    (AC_Full : PySem.W.nsIn K mainGlobals "Full" = some (some (.ref C_Full)))
    (XB_Full : xcB K veM "ValueError.__new__" C_Full = true) (IC_Full : PySem.W.findIn K (.ref C_Full) "__init__" = some (some (.ref f_Full))) (TI_Full : PySem.W.typeIn K (.ref f_Full) = some (.type "function")) (LI_Full : K.lookup f_Full = some ⟨oc_Full, od_Full, .func (PySem.W.fnOf "__init__" "Full.__init__" (defArgs si_Full) (defBody si_Full) (defScope si_Full) .none kV_Full dc_Full pm_Full an_Full cd_Full ct_Full), sl_Full⟩) (CI_Full : PySem.W.codeIn K cd_Full "Full.__init__" = true) (KI_Full : PySem.W.keepIn K (.ref f_Full) = true)
    (AC_UnknownRow : PySem.W.nsIn K mainGlobals "UnknownRow" = some (some (.ref C_UnknownRow)))
    (XB_UnknownRow : xcB K leM "LookupError.__new__" C_UnknownRow = true) (IC_UnknownRow : PySem.W.findIn K (.ref C_UnknownRow) "__init__" = some (some (.ref f_UnknownRow))) (TI_UnknownRow : PySem.W.typeIn K (.ref f_UnknownRow) = some (.type "function")) (LI_UnknownRow : K.lookup f_UnknownRow = some ⟨oc_UnknownRow, od_UnknownRow, .func (PySem.W.fnOf "__init__" "UnknownRow.__init__" (defArgs si_UnknownRow) (defBody si_UnknownRow) (defScope si_UnknownRow) .none kV_UnknownRow dc_UnknownRow pm_UnknownRow an_UnknownRow cd_UnknownRow ct_UnknownRow), sl_UnknownRow⟩) (CI_UnknownRow : PySem.W.codeIn K cd_UnknownRow "UnknownRow.__init__" = true) (KI_UnknownRow : PySem.W.keepIn K (.ref f_UnknownRow) = true)
    (AC_NothingLeft : PySem.W.nsIn K mainGlobals "NothingLeft" = some (some (.ref C_NothingLeft)))
    (XB_NothingLeft : xcB K ieM "IndexError.__new__" C_NothingLeft = true) (IC_NothingLeft : PySem.W.findIn K (.ref C_NothingLeft) "__init__" = some (some (.ref f_NothingLeft))) (TI_NothingLeft : PySem.W.typeIn K (.ref f_NothingLeft) = some (.type "function")) (LI_NothingLeft : K.lookup f_NothingLeft = some ⟨oc_NothingLeft, od_NothingLeft, .func (PySem.W.fnOf "__init__" "NothingLeft.__init__" (defArgs si_NothingLeft) (defBody si_NothingLeft) (defScope si_NothingLeft) .none kV_NothingLeft dc_NothingLeft pm_NothingLeft an_NothingLeft cd_NothingLeft ct_NothingLeft), sl_NothingLeft⟩) (CI_NothingLeft : PySem.W.codeIn K cd_NothingLeft "NothingLeft.__init__" = true) (KI_NothingLeft : PySem.W.keepIn K (.ref f_NothingLeft) = true)
    (KClaw : cd23 = .ref c_law) (LClaw : K.lookup c_law = some ⟨ec_law, dc_law, .fields vc_law, sc0_law⟩) (VClaw : vc_law[11]? = some (.ref P_law)) (NClaw : K.lookup P_law = none) (HClaw : PySem.W.codeHdIn K c_law P_law = true)
    (KClived : cd18 = .ref c_lived) (LClived : K.lookup c_lived = some ⟨ec_lived, dc_lived, .fields vc_lived, sc0_lived⟩) (VClived : vc_lived[11]? = some (.ref P_lived)) (NClived : K.lookup P_lived = none) (HClived : PySem.W.codeHdIn K c_lived P_lived = true)
    (KCledger_back : cd21 = .ref c_ledger_back) (LCledger_back : K.lookup c_ledger_back = some ⟨ec_ledger_back, dc_ledger_back, .fields vc_ledger_back, sc0_ledger_back⟩) (VCledger_back : vc_ledger_back[11]? = some (.ref P_ledger_back)) (NCledger_back : K.lookup P_ledger_back = none) (HCledger_back : PySem.W.codeHdIn K c_ledger_back P_ledger_back = true)
    (PNE_law_lived : P_law ≠ P_lived)
    (PNE_law_ledger_back : P_law ≠ P_ledger_back)
    (PNE_lived_ledger_back : P_lived ≠ P_ledger_back)
    (KE : kV29 = .ref KD) (KN : PySem.W.nsIn K KD "side" = some (some .none))
    (NE1 : PySem.W.findIn K (.ref C_Ledger) "__ne__" = some (some (.builtin "object.__ne__"))) (NE2 : PySem.W.mroIn K C_Ledger (.type "object") = some true)
    (XQ_InvalidThing : xqB K C_InvalidThing C_LotsError C_Missing C_NothingLeft ["given"] = true)
    (XQ_InvalidRow : xqB K C_InvalidRow C_LotsError C_Missing C_NothingLeft ["table", "at"] = true)
    (XQ_InvalidWord : xqB K C_InvalidWord C_LotsError C_Missing C_NothingLeft ["given"] = true)
    (XQ_SideTaken : xqB K C_SideTaken C_LotsError C_Missing C_NothingLeft ["taken"] = true)
    (XQ_Torn : xqB K C_Torn C_LotsError C_Missing C_NothingLeft ["one", "other"] = true)
    (XQ_TooMany : xqB K C_TooMany C_LotsError C_Missing C_NothingLeft ["most"] = true)
    (XQ_Full : xqB K C_Full C_LotsError C_Missing C_NothingLeft ["most"] = true)
    (XQ_UnknownRow : xqB K C_UnknownRow C_LotsError C_Missing C_NothingLeft ["number"] = true)
    (XQ_NothingLeft : xqB K C_NothingLeft C_LotsError C_Missing C_NothingLeft [] = true)
    (Z0 : PySem.W.nsIn K mainGlobals "abs" = some none)
    (Z1 : PySem.W.nsIn K mainGlobals "all" = some none)
    (Z2 : PySem.W.nsIn K mainGlobals "any" = some none)
    (Z3 : PySem.W.nsIn K mainGlobals "bool" = some none)
    (Z4 : PySem.W.nsIn K mainGlobals "dict" = some none)
    (Z5 : PySem.W.nsIn K mainGlobals "enumerate" = some none)
    (Z6 : PySem.W.nsIn K mainGlobals "int" = some none)
    (Z7 : PySem.W.nsIn K mainGlobals "isinstance" = some none)
    (Z8 : PySem.W.nsIn K mainGlobals "len" = some none)
    (Z9 : PySem.W.nsIn K mainGlobals "list" = some none)
    (Z10 : PySem.W.nsIn K mainGlobals "range" = some none)
    (Z11 : PySem.W.nsIn K mainGlobals "repr" = some none)
    (Z12 : PySem.W.nsIn K mainGlobals "set" = some none)
    (Z13 : PySem.W.nsIn K mainGlobals "sorted" = some none)
    (Z14 : PySem.W.nsIn K mainGlobals "str" = some none)
    (Z15 : PySem.W.nsIn K mainGlobals "tuple" = some none)
    (Z16 : PySem.W.nsIn K mainGlobals "zip" = some none)
    (Y0 : PySem.W.nsIn K mainGlobals "LETTERS" = some (some (.str "abcdefghijklmnopqrstuvwxyz" t_LETTERS)))
    (Y1 : PySem.W.nsIn K mainGlobals "LONGEST_NAME" = some (some (.int 6 t_LONGEST_NAME)))
    (Y2 : PySem.W.nsIn K mainGlobals "LOTS" = some (some (.ref p_LOTS))) (W_LOTS : K.lookup p_LOTS = some ⟨.type "tuple", dd_LOTS, .seq #[.str "learn" tl0, .str "judge" tl1] n_LOTS, sl_LOTS⟩)
    (Y3 : PySem.W.nsIn K mainGlobals "MOST_OF_THING" = some (some (.int 3 t_MOST_OF_THING))) :
    ∃ T : Top K mg, T.a_law = fa ∧ ∀ (s : Shared) (v : Value), BindsTo s T.d_law ⟨[v], []⟩ [("_law_script", v)] := by
  have e : a23 = fa := (Value.ref.inj (Option.some.inj (hfa.symm.trans (PySem.W.mg_of X G A23)))).symm
  subst e
  exact ⟨{
    C_Bonds := C_Bonds,
    mc_Bonds := PySem.W.mg_of X G OA_Bonds,
    cl_Bonds := ⟨Oga_Bonds, Ohd_Bonds, Opo_Bonds, Osa_Bonds⟩, mk_Bonds := Omk_Bonds, kp_Bonds := Okp_Bonds,
    n_Bonds__marked := On_Bonds__marked,
    n_Bonds__holders := On_Bonds__holders,
    C_Ledger := C_Ledger,
    mc_Ledger := PySem.W.mg_of X G OA_Ledger,
    cl_Ledger := ⟨Oga_Ledger, Ohd_Ledger, Opo_Ledger, Osa_Ledger⟩, mk_Ledger := Omk_Ledger, kp_Ledger := Okp_Ledger,
    n_Ledger__things := On_Ledger__things,
    n_Ledger__rows := On_Ledger__rows,
    n_Ledger__sides := On_Ledger__sides,
    n_Ledger__undone := On_Ledger__undone,
    is_Ledger := ⟨⟨Oga_Ledger, Ohd_Ledger, Opo_Ledger, Osa_Ledger⟩, Oi1_Ledger, Oi2_Ledger, Oi3_Ledger, Oi4_Ledger, Oi5_Ledger⟩, ob_Ledger := Oi6_Ledger,
    cr_Ledger := ⟨Or1_Ledger, Or2_Ledger⟩,
    tk_Ledger_MOST := tk_Ledger_MOST, cv_Ledger_MOST := ⟨Oc_Ledger_MOST, ⟨_, rfl⟩⟩,
    tk_Ledger_MOST_THINGS := tk_Ledger_MOST_THINGS, cv_Ledger_MOST_THINGS := ⟨Oc_Ledger_MOST_THINGS, ⟨_, rfl⟩⟩,
    a_is_name := a0, d_is_name := PySem.W.fnOf "is_name" "is_name" (defArgs s_is_name) (defBody s_is_name) (defScope s_is_name) .none kV0 dc0 pm0 an0 cd0 ct0, F_is_name := fun_mk (st := s_is_name) L0 C0 K0, m_is_name := PySem.W.mg_of X G A0, b_is_name := (fun_mk (st := s_is_name) L0 C0 K0).binds (ps := ["value"]) fun _ _ _ _ _ _ us hl => match us, hl with | [_], _ => rfl,
    a_is_number := a1, d_is_number := PySem.W.fnOf "is_number" "is_number" (defArgs s_is_number) (defBody s_is_number) (defScope s_is_number) .none kV1 dc1 pm1 an1 cd1 ct1, F_is_number := fun_mk (st := s_is_number) L1 C1 K1, m_is_number := PySem.W.mg_of X G A1, b_is_number := (fun_mk (st := s_is_number) L1 C1 K1).binds (ps := ["value", "least", "most"]) fun _ _ _ _ _ _ us hl => match us, hl with | [_, _, _], _ => rfl,
    a_is_thing := a2, d_is_thing := PySem.W.fnOf "_is_thing" "_is_thing" (defArgs s_is_thing) (defBody s_is_thing) (defScope s_is_thing) .none kV2 dc2 pm2 an2 cd2 ct2, F_is_thing := fun_mk (st := s_is_thing) L2 C2 K2, m_is_thing := PySem.W.mg_of X G A2, b_is_thing := (fun_mk (st := s_is_thing) L2 C2 K2).binds (ps := ["value"]) fun _ _ _ _ _ _ us hl => match us, hl with | [_], _ => rfl,
    a_is_row := a3, d_is_row := PySem.W.fnOf "_is_row" "_is_row" (defArgs s_is_row) (defBody s_is_row) (defScope s_is_row) .none kV3 dc3 pm3 an3 cd3 ct3, F_is_row := fun_mk (st := s_is_row) L3 C3 K3, m_is_row := PySem.W.mg_of X G A3, b_is_row := (fun_mk (st := s_is_row) L3 C3 K3).binds (ps := ["value"]) fun _ _ _ _ _ _ us hl => match us, hl with | [_], _ => rfl,
    a_has_one := a4, d_has_one := PySem.W.fnOf "_has_one" "_has_one" (defArgs s_has_one) (defBody s_has_one) (defScope s_has_one) .none kV4 dc4 pm4 an4 cd4 ct4, F_has_one := fun_mk (st := s_has_one) L4 C4 K4, m_has_one := PySem.W.mg_of X G A4, b_has_one := (fun_mk (st := s_has_one) L4 C4 K4).binds (ps := ["marks", "others"]) fun _ _ _ _ _ _ us hl => match us, hl with | [_, _], _ => rfl,
    a_box := a5, d_box := PySem.W.fnOf "_law_box" "_law_box" (defArgs s_box) (defBody s_box) (defScope s_box) .none kV5 dc5 pm5 an5 cd5 ct5, F_box := fun_mk (st := s_box) L5 C5 K5, m_box := PySem.W.mg_of X G A5, b_box := (fun_mk (st := s_box) L5 C5 K5).binds (ps := ["_law_script"]) fun _ _ _ _ _ _ us hl => match us, hl with | [_], _ => rfl,
    a_pull := a6, d_pull := PySem.W.fnOf "_law_pull" "_law_pull" (defArgs s_pull) (defBody s_pull) (defScope s_pull) .none kV6 dc6 pm6 an6 cd6 ct6, F_pull := fun_mk (st := s_pull) L6 C6 K6, m_pull := PySem.W.mg_of X G A6, b_pull := (fun_mk (st := s_pull) L6 C6 K6).binds (ps := ["_law_box_here", "_law_many"]) fun _ _ _ _ _ _ us hl => match us, hl with | [_, _], _ => rfl,
    a_of := a7, d_of := PySem.W.fnOf "_law_of" "_law_of" (defArgs s_of) (defBody s_of) (defScope s_of) .none kV7 dc7 pm7 an7 cd7 ct7, F_of := fun_mk (st := s_of) L7 C7 K7, m_of := PySem.W.mg_of X G A7, b_of := (fun_mk (st := s_of) L7 C7 K7).binds (ps := ["_law_box_here", "_law_some"]) fun _ _ _ _ _ _ us hl => match us, hl with | [_, _], _ => rfl,
    a_names := a8, d_names := PySem.W.fnOf "_law_names" "_law_names" (defArgs s_names) (defBody s_names) (defScope s_names) .none kV8 dc8 pm8 an8 cd8 ct8, F_names := fun_mk (st := s_names) L8 C8 K8, m_names := PySem.W.mg_of X G A8, b_names := (fun_mk (st := s_names) L8 C8 K8).binds (ps := ["_law_box_here", "_law_many"]) fun _ _ _ _ _ _ us hl => match us, hl with | [_, _], _ => rfl,
    a_same := a9, d_same := PySem.W.fnOf "_law_same" "_law_same" (defArgs s_same) (defBody s_same) (defScope s_same) .none kV9 dc9 pm9 an9 cd9 ct9, F_same := fun_mk (st := s_same) L9 C9 K9, m_same := PySem.W.mg_of X G A9, b_same := (fun_mk (st := s_same) L9 C9 K9).binds (ps := ["_law_found", "_law_due"]) fun _ _ _ _ _ _ us hl => match us, hl with | [_, _], _ => rfl,
    a_field := a10, d_field := PySem.W.fnOf "_law_field" "_law_field" (defArgs s_field) (defBody s_field) (defScope s_field) .none kV10 dc10 pm10 an10 cd10 ct10, F_field := fun_mk (st := s_field) L10 C10 K10, m_field := PySem.W.mg_of X G A10, b_field := (fun_mk (st := s_field) L10 C10 K10).binds (ps := ["_law_e"]) fun _ _ _ _ _ _ us hl => match us, hl with | [_], _ => rfl,
    a_got := a11, d_got := PySem.W.fnOf "_law_got" "_law_got" (defArgs s_got) (defBody s_got) (defScope s_got) .none kV11 dc11 pm11 an11 cd11 ct11, F_got := fun_mk (st := s_got) L11 C11 K11, m_got := PySem.W.mg_of X G A11, b_got := (fun_mk (st := s_got) L11 C11 K11).binds (ps := ["_law_ask"]) fun _ _ _ _ _ _ us hl => match us, hl with | [_], _ => rfl,
    a_mixed := a12, d_mixed := PySem.W.fnOf "_law_mixed" "_law_mixed" (defArgs s_mixed) (defBody s_mixed) (defScope s_mixed) .none kV12 dc12 pm12 an12 cd12 ct12, F_mixed := fun_mk (st := s_mixed) L12 C12 K12, m_mixed := PySem.W.mg_of X G A12, b_mixed := (fun_mk (st := s_mixed) L12 C12 K12).binds (ps := ["_law_box_here", "_law_some"]) fun _ _ _ _ _ _ us hl => match us, hl with | [_, _], _ => rfl,
    a_fields := a13, d_fields := PySem.W.fnOf "_law_fields" "_law_fields" (defArgs s_fields) (defBody s_fields) (defScope s_fields) .none kV13 dc13 pm13 an13 cd13 ct13, F_fields := fun_mk (st := s_fields) L13 C13 K13, m_fields := PySem.W.mg_of X G A13, b_fields := (fun_mk (st := s_fields) L13 C13 K13).binds (ps := ["_law_box_here", "_law_words"]) fun _ _ _ _ _ _ us hl => match us, hl with | [_, _], _ => rfl,
    a_entry := a14, d_entry := PySem.W.fnOf "_law_entry" "_law_entry" (defArgs s_entry) (defBody s_entry) (defScope s_entry) .none kV14 dc14 pm14 an14 cd14 ct14, F_entry := fun_mk (st := s_entry) L14 C14 K14, m_entry := PySem.W.mg_of X G A14, b_entry := (fun_mk (st := s_entry) L14 C14 K14).binds (ps := ["_law_box_here", "_law_words", "_law_pool"]) fun _ _ _ _ _ _ us hl => match us, hl with | [_, _, _], _ => rfl,
    a_meet := a15, d_meet := PySem.W.fnOf "_law_meet" "_law_meet" (defArgs s_meet) (defBody s_meet) (defScope s_meet) .none kV15 dc15 pm15 an15 cd15 ct15, F_meet := fun_mk (st := s_meet) L15 C15 K15, m_meet := PySem.W.mg_of X G A15, b_meet := (fun_mk (st := s_meet) L15 C15 K15).binds (ps := ["_law_things", "_law_one", "_law_other"]) fun _ _ _ _ _ _ us hl => match us, hl with | [_, _, _], _ => rfl,
    a_offer := a16, d_offer := PySem.W.fnOf "_law_offer" "_law_offer" (defArgs s_offer) (defBody s_offer) (defScope s_offer) .none kV16 dc16 pm16 an16 cd16 ct16, F_offer := fun_mk (st := s_offer) L16 C16 K16, m_offer := PySem.W.mg_of X G A16, b_offer := (fun_mk (st := s_offer) L16 C16 K16).binds (ps := ["_law_things", "_law_rows", "_law_row"]) fun _ _ _ _ _ _ us hl => match us, hl with | [_, _, _], _ => rfl,
    a_added := a17, d_added := PySem.W.fnOf "_law_added" "_law_added" (defArgs s_added) (defBody s_added) (defScope s_added) .none kV17 dc17 pm17 an17 cd17 ct17, F_added := fun_mk (st := s_added) L17 C17 K17, m_added := PySem.W.mg_of X G A17, b_added := (fun_mk (st := s_added) L17 C17 K17).binds (ps := ["_law_things", "_law_rows", "_law_row", "_law_flank"]) fun _ _ _ _ _ _ us hl => match us, hl with | [_, _, _, _], _ => rfl,
    a_lived := a18, d_lived := PySem.W.fnOf "_law_lived" "_law_lived" (defArgs s_lived) (defBody s_lived) (defScope s_lived) .none kV18 dc18 pm18 an18 cd18 ct18, F_lived := fun_mk (st := s_lived) L18 C18 K18, m_lived := PySem.W.mg_of X G A18, b_lived := (fun_mk (st := s_lived) L18 C18 K18).binds (ps := ["_law_box_here", "_law_ledger_here", "_law_things", "_law_words", "_law_many"]) fun _ _ _ _ _ _ us hl => match us, hl with | [_, _, _, _, _], _ => rfl,
    a_ledger := a19, d_ledger := PySem.W.fnOf "_law_ledger" "_law_ledger" (defArgs s_ledger) (defBody s_ledger) (defScope s_ledger) .none kV19 dc19 pm19 an19 cd19 ct19, F_ledger := fun_mk (st := s_ledger) L19 C19 K19, m_ledger := PySem.W.mg_of X G A19, b_ledger := (fun_mk (st := s_ledger) L19 C19 K19).binds (ps := ["_law_things"]) fun _ _ _ _ _ _ us hl => match us, hl with | [_], _ => rfl,
    a_ledger_is := a20, d_ledger_is := PySem.W.fnOf "_law_ledger_is" "_law_ledger_is" (defArgs s_ledger_is) (defBody s_ledger_is) (defScope s_ledger_is) .none kV20 dc20 pm20 an20 cd20 ct20, F_ledger_is := fun_mk (st := s_ledger_is) L20 C20 K20, m_ledger_is := PySem.W.mg_of X G A20, b_ledger_is := (fun_mk (st := s_ledger_is) L20 C20 K20).binds (ps := ["_law_made", "_law_rows", "_law_undone"]) fun _ _ _ _ _ _ us hl => match us, hl with | [_, _, _], _ => rfl,
    a_ledger_back := a21, d_ledger_back := PySem.W.fnOf "_law_ledger_back" "_law_ledger_back" (defArgs s_ledger_back) (defBody s_ledger_back) (defScope s_ledger_back) .none kV21 dc21 pm21 an21 cd21 ct21, F_ledger_back := fun_mk (st := s_ledger_back) L21 C21 K21, m_ledger_back := PySem.W.mg_of X G A21, b_ledger_back := (fun_mk (st := s_ledger_back) L21 C21 K21).binds (ps := ["_law_made", "_law_rows", "_law_undone", "_law_way"]) fun _ _ _ _ _ _ us hl => match us, hl with | [_, _, _, _], _ => rfl,
    a_twins_so := a22, d_twins_so := PySem.W.fnOf "_law_twins_so" "_law_twins_so" (defArgs s_twins_so) (defBody s_twins_so) (defScope s_twins_so) .none kV22 dc22 pm22 an22 cd22 ct22, F_twins_so := fun_mk (st := s_twins_so) L22 C22 K22, m_twins_so := PySem.W.mg_of X G A22, b_twins_so := (fun_mk (st := s_twins_so) L22 C22 K22).binds (ps := ["_law_made", "_law_rows", "_law_undone", "_law_things"]) fun _ _ _ _ _ _ us hl => match us, hl with | [_, _, _, _], _ => rfl,
    a_law := a23, d_law := PySem.W.fnOf "law" "law" (defArgs s_law) (defBody s_law) (defScope s_law) .none kV23 dc23 pm23 an23 cd23 ct23, F_law := fun_mk (st := s_law) L23 C23 K23, m_law := PySem.W.mg_of X G A23, b_law := (fun_mk (st := s_law) L23 C23 K23).binds (ps := ["_law_script"]) fun _ _ _ _ _ _ us hl => match us, hl with | [_], _ => rfl,
    a_Bonds___init__ := a24, d_Bonds___init__ := PySem.W.fnOf "__init__" "Bonds.__init__" (defArgs s_Bonds___init__) (defBody s_Bonds___init__) (defScope s_Bonds___init__) .none kV24 dc24 pm24 an24 cd24 ct24, F_Bonds___init__ := fun_mk (st := s_Bonds___init__) L24 C24 K24, M_Bonds___init__ := ⟨A24, I24, K24⟩, b_Bonds___init__ := (fun_mk (st := s_Bonds___init__) L24 C24 K24).binds (ps := ["self", "marked"]) fun _ _ _ _ _ _ us hl => match us, hl with | [_, _], _ => rfl,
    a_Bonds__distances := a25, d_Bonds__distances := PySem.W.fnOf "_distances" "Bonds._distances" (defArgs s_Bonds__distances) (defBody s_Bonds__distances) (defScope s_Bonds__distances) .none kV25 dc25 pm25 an25 cd25 ct25, F_Bonds__distances := fun_mk (st := s_Bonds__distances) L25 C25 K25, M_Bonds__distances := ⟨A25, I25, K25⟩, b_Bonds__distances := (fun_mk (st := s_Bonds__distances) L25 C25 K25).binds (ps := ["self", "start"]) fun _ _ _ _ _ _ us hl => match us, hl with | [_, _], _ => rfl,
    a_Bonds_group := a26, d_Bonds_group := PySem.W.fnOf "group" "Bonds.group" (defArgs s_Bonds_group) (defBody s_Bonds_group) (defScope s_Bonds_group) .none kV26 dc26 pm26 an26 cd26 ct26, F_Bonds_group := fun_mk (st := s_Bonds_group) L26 C26 K26, M_Bonds_group := ⟨A26, I26, K26⟩, b_Bonds_group := (fun_mk (st := s_Bonds_group) L26 C26 K26).binds (ps := ["self", "start"]) fun _ _ _ _ _ _ us hl => match us, hl with | [_, _], _ => rfl,
    a_Ledger___init__ := a27, d_Ledger___init__ := PySem.W.fnOf "__init__" "Ledger.__init__" (defArgs s_Ledger___init__) (defBody s_Ledger___init__) (defScope s_Ledger___init__) .none kV27 dc27 pm27 an27 cd27 ct27, F_Ledger___init__ := fun_mk (st := s_Ledger___init__) L27 C27 K27, M_Ledger___init__ := ⟨A27, I27, K27⟩,
    a_Ledger_offer := a28, d_Ledger_offer := PySem.W.fnOf "offer" "Ledger.offer" (defArgs s_Ledger_offer) (defBody s_Ledger_offer) (defScope s_Ledger_offer) .none kV28 dc28 pm28 an28 cd28 ct28, F_Ledger_offer := fun_mk (st := s_Ledger_offer) L28 C28 K28, M_Ledger_offer := ⟨A28, I28, K28⟩, b_Ledger_offer := (fun_mk (st := s_Ledger_offer) L28 C28 K28).binds (ps := ["self", "row"]) fun _ _ _ _ _ _ us hl => match us, hl with | [_, _], _ => rfl,
    a_Ledger_add := a29, d_Ledger_add := PySem.W.fnOf "add" "Ledger.add" (defArgs s_Ledger_add) (defBody s_Ledger_add) (defScope s_Ledger_add) .none kV29 dc29 pm29 an29 cd29 ct29, F_Ledger_add := fun_mk (st := s_Ledger_add) L29 C29 K29, M_Ledger_add := ⟨A29, I29, K29⟩,
    a_Ledger__emptier := a30, d_Ledger__emptier := PySem.W.fnOf "_emptier" "Ledger._emptier" (defArgs s_Ledger__emptier) (defBody s_Ledger__emptier) (defScope s_Ledger__emptier) .none kV30 dc30 pm30 an30 cd30 ct30, F_Ledger__emptier := fun_mk (st := s_Ledger__emptier) L30 C30 K30, M_Ledger__emptier := ⟨A30, I30, K30⟩, b_Ledger__emptier := (fun_mk (st := s_Ledger__emptier) L30 C30 K30).binds (ps := ["self"]) fun _ _ _ _ _ _ us hl => match us, hl with | [_], _ => rfl,
    a_Ledger__marks_of := a31, d_Ledger__marks_of := PySem.W.fnOf "_marks_of" "Ledger._marks_of" (defArgs s_Ledger__marks_of) (defBody s_Ledger__marks_of) (defScope s_Ledger__marks_of) .none kV31 dc31 pm31 an31 cd31 ct31, F_Ledger__marks_of := fun_mk (st := s_Ledger__marks_of) L31 C31 K31, M_Ledger__marks_of := ⟨A31, I31, K31⟩, b_Ledger__marks_of := (fun_mk (st := s_Ledger__marks_of) L31 C31 K31).binds (ps := ["self", "row"]) fun _ _ _ _ _ _ us hl => match us, hl with | [_, _], _ => rfl,
    a_Ledger_things := a32, d_Ledger_things := PySem.W.fnOf "things" "Ledger.things" (defArgs s_Ledger_things) (defBody s_Ledger_things) (defScope s_Ledger_things) .none kV32 dc32 pm32 an32 cd32 ct32, F_Ledger_things := fun_mk (st := s_Ledger_things) L32 C32 K32, M_Ledger_things := ⟨A32, I32, K32⟩, b_Ledger_things := (fun_mk (st := s_Ledger_things) L32 C32 K32).binds (ps := ["self"]) fun _ _ _ _ _ _ us hl => match us, hl with | [_], _ => rfl,
    a_Ledger_row := a33, d_Ledger_row := PySem.W.fnOf "row" "Ledger.row" (defArgs s_Ledger_row) (defBody s_Ledger_row) (defScope s_Ledger_row) .none kV33 dc33 pm33 an33 cd33 ct33, F_Ledger_row := fun_mk (st := s_Ledger_row) L33 C33 K33, M_Ledger_row := ⟨A33, I33, K33⟩, b_Ledger_row := (fun_mk (st := s_Ledger_row) L33 C33 K33).binds (ps := ["self", "number"]) fun _ _ _ _ _ _ us hl => match us, hl with | [_, _], _ => rfl,
    a_Ledger_side := a34, d_Ledger_side := PySem.W.fnOf "side" "Ledger.side" (defArgs s_Ledger_side) (defBody s_Ledger_side) (defScope s_Ledger_side) .none kV34 dc34 pm34 an34 cd34 ct34, F_Ledger_side := fun_mk (st := s_Ledger_side) L34 C34 K34, M_Ledger_side := ⟨A34, I34, K34⟩, b_Ledger_side := (fun_mk (st := s_Ledger_side) L34 C34 K34).binds (ps := ["self", "number"]) fun _ _ _ _ _ _ us hl => match us, hl with | [_, _], _ => rfl,
    a_Ledger__check_number := a35, d_Ledger__check_number := PySem.W.fnOf "_check_number" "Ledger._check_number" (defArgs s_Ledger__check_number) (defBody s_Ledger__check_number) (defScope s_Ledger__check_number) .none kV35 dc35 pm35 an35 cd35 ct35, F_Ledger__check_number := fun_mk (st := s_Ledger__check_number) L35 C35 K35, M_Ledger__check_number := ⟨A35, I35, K35⟩, b_Ledger__check_number := (fun_mk (st := s_Ledger__check_number) L35 C35 K35).binds (ps := ["self", "number"]) fun _ _ _ _ _ _ us hl => match us, hl with | [_, _], _ => rfl,
    a_Ledger_group := a36, d_Ledger_group := PySem.W.fnOf "group" "Ledger.group" (defArgs s_Ledger_group) (defBody s_Ledger_group) (defScope s_Ledger_group) .none kV36 dc36 pm36 an36 cd36 ct36, F_Ledger_group := fun_mk (st := s_Ledger_group) L36 C36 K36, M_Ledger_group := ⟨A36, I36, K36⟩, b_Ledger_group := (fun_mk (st := s_Ledger_group) L36 C36 K36).binds (ps := ["self", "number"]) fun _ _ _ _ _ _ us hl => match us, hl with | [_, _], _ => rfl,
    a_Ledger__bonds := a37, d_Ledger__bonds := PySem.W.fnOf "_bonds" "Ledger._bonds" (defArgs s_Ledger__bonds) (defBody s_Ledger__bonds) (defScope s_Ledger__bonds) .none kV37 dc37 pm37 an37 cd37 ct37, F_Ledger__bonds := fun_mk (st := s_Ledger__bonds) L37 C37 K37, M_Ledger__bonds := ⟨A37, I37, K37⟩, b_Ledger__bonds := (fun_mk (st := s_Ledger__bonds) L37 C37 K37).binds (ps := ["self"]) fun _ _ _ _ _ _ us hl => match us, hl with | [_], _ => rfl,
    a_Ledger_tally := a38, d_Ledger_tally := PySem.W.fnOf "tally" "Ledger.tally" (defArgs s_Ledger_tally) (defBody s_Ledger_tally) (defScope s_Ledger_tally) .none kV38 dc38 pm38 an38 cd38 ct38, F_Ledger_tally := fun_mk (st := s_Ledger_tally) L38 C38 K38, M_Ledger_tally := ⟨A38, I38, K38⟩, b_Ledger_tally := (fun_mk (st := s_Ledger_tally) L38 C38 K38).binds (ps := ["self", "lot"]) fun _ _ _ _ _ _ us hl => match us, hl with | [_, _], _ => rfl,
    a_Ledger_walk := a39, d_Ledger_walk := PySem.W.fnOf "walk" "Ledger.walk" (defArgs s_Ledger_walk) (defBody s_Ledger_walk) (defScope s_Ledger_walk) .none kV39 dc39 pm39 an39 cd39 ct39, F_Ledger_walk := fun_mk (st := s_Ledger_walk) L39 C39 K39, M_Ledger_walk := ⟨A39, I39, K39⟩, b_Ledger_walk := (fun_mk (st := s_Ledger_walk) L39 C39 K39).binds (ps := ["self", "lot"]) fun _ _ _ _ _ _ us hl => match us, hl with | [_, _], _ => rfl,
    a_Ledger_undo := a40, d_Ledger_undo := PySem.W.fnOf "undo" "Ledger.undo" (defArgs s_Ledger_undo) (defBody s_Ledger_undo) (defScope s_Ledger_undo) .none kV40 dc40 pm40 an40 cd40 ct40, F_Ledger_undo := fun_mk (st := s_Ledger_undo) L40 C40 K40, M_Ledger_undo := ⟨A40, I40, K40⟩, b_Ledger_undo := (fun_mk (st := s_Ledger_undo) L40 C40 K40).binds (ps := ["self"]) fun _ _ _ _ _ _ us hl => match us, hl with | [_], _ => rfl,
    a_Ledger_redo := a41, d_Ledger_redo := PySem.W.fnOf "redo" "Ledger.redo" (defArgs s_Ledger_redo) (defBody s_Ledger_redo) (defScope s_Ledger_redo) .none kV41 dc41 pm41 an41 cd41 ct41, F_Ledger_redo := fun_mk (st := s_Ledger_redo) L41 C41 K41, M_Ledger_redo := ⟨A41, I41, K41⟩, b_Ledger_redo := (fun_mk (st := s_Ledger_redo) L41 C41 K41).binds (ps := ["self"]) fun _ _ _ _ _ _ us hl => match us, hl with | [_], _ => rfl,
    a_Ledger_history := a42, d_Ledger_history := PySem.W.fnOf "history" "Ledger.history" (defArgs s_Ledger_history) (defBody s_Ledger_history) (defScope s_Ledger_history) .none kV42 dc42 pm42 an42 cd42 ct42, F_Ledger_history := fun_mk (st := s_Ledger_history) L42 C42 K42, M_Ledger_history := ⟨A42, I42, K42⟩, b_Ledger_history := (fun_mk (st := s_Ledger_history) L42 C42 K42).binds (ps := ["self"]) fun _ _ _ _ _ _ us hl => match us, hl with | [_], _ => rfl,
    a_Ledger_twin := a43, d_Ledger_twin := PySem.W.fnOf "twin" "Ledger.twin" (defArgs s_Ledger_twin) (defBody s_Ledger_twin) (defScope s_Ledger_twin) .none kV43 dc43 pm43 an43 cd43 ct43, F_Ledger_twin := fun_mk (st := s_Ledger_twin) L43 C43 K43, M_Ledger_twin := ⟨A43, I43, K43⟩, b_Ledger_twin := (fun_mk (st := s_Ledger_twin) L43 C43 K43).binds (ps := ["self"]) fun _ _ _ _ _ _ us hl => match us, hl with | [_], _ => rfl,
    a_Ledger___getitem__ := a44, d_Ledger___getitem__ := PySem.W.fnOf "__getitem__" "Ledger.__getitem__" (defArgs s_Ledger___getitem__) (defBody s_Ledger___getitem__) (defScope s_Ledger___getitem__) .none kV44 dc44 pm44 an44 cd44 ct44, F_Ledger___getitem__ := fun_mk (st := s_Ledger___getitem__) L44 C44 K44, M_Ledger___getitem__ := ⟨A44, I44, K44⟩, b_Ledger___getitem__ := (fun_mk (st := s_Ledger___getitem__) L44 C44 K44).binds (ps := ["self", "number"]) fun _ _ _ _ _ _ us hl => match us, hl with | [_, _], _ => rfl,
    a_Ledger___eq__ := a45, d_Ledger___eq__ := PySem.W.fnOf "__eq__" "Ledger.__eq__" (defArgs s_Ledger___eq__) (defBody s_Ledger___eq__) (defScope s_Ledger___eq__) .none kV45 dc45 pm45 an45 cd45 ct45, F_Ledger___eq__ := fun_mk (st := s_Ledger___eq__) L45 C45 K45, M_Ledger___eq__ := ⟨A45, I45, K45⟩, b_Ledger___eq__ := (fun_mk (st := s_Ledger___eq__) L45 C45 K45).binds (ps := ["self", "other"]) fun _ _ _ _ _ _ us hl => match us, hl with | [_, _], _ => rfl,
    a_Ledger___len__ := a46, d_Ledger___len__ := PySem.W.fnOf "__len__" "Ledger.__len__" (defArgs s_Ledger___len__) (defBody s_Ledger___len__) (defScope s_Ledger___len__) .none kV46 dc46 pm46 an46 cd46 ct46, F_Ledger___len__ := fun_mk (st := s_Ledger___len__) L46 C46 K46, M_Ledger___len__ := ⟨A46, I46, K46⟩, b_Ledger___len__ := (fun_mk (st := s_Ledger___len__) L46 C46 K46).binds (ps := ["self"]) fun _ _ _ _ _ _ us hl => match us, hl with | [_], _ => rfl,
    a_Ledger___repr__ := a47, d_Ledger___repr__ := PySem.W.fnOf "__repr__" "Ledger.__repr__" (defArgs s_Ledger___repr__) (defBody s_Ledger___repr__) (defScope s_Ledger___repr__) .none kV47 dc47 pm47 an47 cd47 ct47, F_Ledger___repr__ := fun_mk (st := s_Ledger___repr__) L47 C47 K47, M_Ledger___repr__ := ⟨A47, I47, K47⟩, b_Ledger___repr__ := (fun_mk (st := s_Ledger___repr__) L47 C47 K47).binds (ps := ["self"]) fun _ _ _ _ _ _ us hl => match us, hl with | [_], _ => rfl,
    C_LotsError := C_LotsError, mc_LotsError := PySem.W.mg_of X G AC_LotsError,
    C_Missing := C_Missing, mc_Missing := PySem.W.mg_of X G AC_Missing,
    C_InvalidThing := C_InvalidThing, mc_InvalidThing := PySem.W.mg_of X G AC_InvalidThing,
    x_InvalidThing := xc_ve XB_InvalidThing, f_InvalidThing := f_InvalidThing, di_InvalidThing := PySem.W.fnOf "__init__" "InvalidThing.__init__" (defArgs si_InvalidThing) (defBody si_InvalidThing) (defScope si_InvalidThing) .none kV_InvalidThing dc_InvalidThing pm_InvalidThing an_InvalidThing cd_InvalidThing ct_InvalidThing, iC_InvalidThing := IC_InvalidThing, tI_InvalidThing := TI_InvalidThing, Fi_InvalidThing := fun_mk (st := si_InvalidThing) LI_InvalidThing CI_InvalidThing KI_InvalidThing, bi_InvalidThing := (fun_mk (st := si_InvalidThing) LI_InvalidThing CI_InvalidThing KI_InvalidThing).binds (ps := ["self", "given"]) fun _ _ _ _ _ _ us hl => match us, hl with | [_, _], _ => rfl,
    C_InvalidRow := C_InvalidRow, mc_InvalidRow := PySem.W.mg_of X G AC_InvalidRow,
    x_InvalidRow := xc_ve XB_InvalidRow, f_InvalidRow := f_InvalidRow, di_InvalidRow := PySem.W.fnOf "__init__" "InvalidRow.__init__" (defArgs si_InvalidRow) (defBody si_InvalidRow) (defScope si_InvalidRow) .none kV_InvalidRow dc_InvalidRow pm_InvalidRow an_InvalidRow cd_InvalidRow ct_InvalidRow, iC_InvalidRow := IC_InvalidRow, tI_InvalidRow := TI_InvalidRow, Fi_InvalidRow := fun_mk (st := si_InvalidRow) LI_InvalidRow CI_InvalidRow KI_InvalidRow, bi_InvalidRow := (fun_mk (st := si_InvalidRow) LI_InvalidRow CI_InvalidRow KI_InvalidRow).binds (ps := ["self", "table", "at"]) fun _ _ _ _ _ _ us hl => match us, hl with | [_, _, _], _ => rfl,
    C_InvalidWord := C_InvalidWord, mc_InvalidWord := PySem.W.mg_of X G AC_InvalidWord,
    x_InvalidWord := xc_ve XB_InvalidWord, f_InvalidWord := f_InvalidWord, di_InvalidWord := PySem.W.fnOf "__init__" "InvalidWord.__init__" (defArgs si_InvalidWord) (defBody si_InvalidWord) (defScope si_InvalidWord) .none kV_InvalidWord dc_InvalidWord pm_InvalidWord an_InvalidWord cd_InvalidWord ct_InvalidWord, iC_InvalidWord := IC_InvalidWord, tI_InvalidWord := TI_InvalidWord, Fi_InvalidWord := fun_mk (st := si_InvalidWord) LI_InvalidWord CI_InvalidWord KI_InvalidWord, bi_InvalidWord := (fun_mk (st := si_InvalidWord) LI_InvalidWord CI_InvalidWord KI_InvalidWord).binds (ps := ["self", "given"]) fun _ _ _ _ _ _ us hl => match us, hl with | [_, _], _ => rfl,
    C_SideTaken := C_SideTaken, mc_SideTaken := PySem.W.mg_of X G AC_SideTaken,
    x_SideTaken := xc_ve XB_SideTaken, f_SideTaken := f_SideTaken, di_SideTaken := PySem.W.fnOf "__init__" "SideTaken.__init__" (defArgs si_SideTaken) (defBody si_SideTaken) (defScope si_SideTaken) .none kV_SideTaken dc_SideTaken pm_SideTaken an_SideTaken cd_SideTaken ct_SideTaken, iC_SideTaken := IC_SideTaken, tI_SideTaken := TI_SideTaken, Fi_SideTaken := fun_mk (st := si_SideTaken) LI_SideTaken CI_SideTaken KI_SideTaken, bi_SideTaken := (fun_mk (st := si_SideTaken) LI_SideTaken CI_SideTaken KI_SideTaken).binds (ps := ["self", "taken"]) fun _ _ _ _ _ _ us hl => match us, hl with | [_, _], _ => rfl,
    C_Torn := C_Torn, mc_Torn := PySem.W.mg_of X G AC_Torn,
    x_Torn := xc_ve XB_Torn, f_Torn := f_Torn, di_Torn := PySem.W.fnOf "__init__" "Torn.__init__" (defArgs si_Torn) (defBody si_Torn) (defScope si_Torn) .none kV_Torn dc_Torn pm_Torn an_Torn cd_Torn ct_Torn, iC_Torn := IC_Torn, tI_Torn := TI_Torn, Fi_Torn := fun_mk (st := si_Torn) LI_Torn CI_Torn KI_Torn, bi_Torn := (fun_mk (st := si_Torn) LI_Torn CI_Torn KI_Torn).binds (ps := ["self", "one", "other"]) fun _ _ _ _ _ _ us hl => match us, hl with | [_, _, _], _ => rfl,
    C_TooMany := C_TooMany, mc_TooMany := PySem.W.mg_of X G AC_TooMany,
    x_TooMany := xc_ve XB_TooMany, f_TooMany := f_TooMany, di_TooMany := PySem.W.fnOf "__init__" "TooMany.__init__" (defArgs si_TooMany) (defBody si_TooMany) (defScope si_TooMany) .none kV_TooMany dc_TooMany pm_TooMany an_TooMany cd_TooMany ct_TooMany, iC_TooMany := IC_TooMany, tI_TooMany := TI_TooMany, Fi_TooMany := fun_mk (st := si_TooMany) LI_TooMany CI_TooMany KI_TooMany, bi_TooMany := (fun_mk (st := si_TooMany) LI_TooMany CI_TooMany KI_TooMany).binds (ps := ["self", "most"]) fun _ _ _ _ _ _ us hl => match us, hl with | [_, _], _ => rfl,
    C_Full := C_Full, mc_Full := PySem.W.mg_of X G AC_Full,
    x_Full := xc_ve XB_Full, f_Full := f_Full, di_Full := PySem.W.fnOf "__init__" "Full.__init__" (defArgs si_Full) (defBody si_Full) (defScope si_Full) .none kV_Full dc_Full pm_Full an_Full cd_Full ct_Full, iC_Full := IC_Full, tI_Full := TI_Full, Fi_Full := fun_mk (st := si_Full) LI_Full CI_Full KI_Full, bi_Full := (fun_mk (st := si_Full) LI_Full CI_Full KI_Full).binds (ps := ["self", "most"]) fun _ _ _ _ _ _ us hl => match us, hl with | [_, _], _ => rfl,
    C_UnknownRow := C_UnknownRow, mc_UnknownRow := PySem.W.mg_of X G AC_UnknownRow,
    x_UnknownRow := xc_le XB_UnknownRow, f_UnknownRow := f_UnknownRow, di_UnknownRow := PySem.W.fnOf "__init__" "UnknownRow.__init__" (defArgs si_UnknownRow) (defBody si_UnknownRow) (defScope si_UnknownRow) .none kV_UnknownRow dc_UnknownRow pm_UnknownRow an_UnknownRow cd_UnknownRow ct_UnknownRow, iC_UnknownRow := IC_UnknownRow, tI_UnknownRow := TI_UnknownRow, Fi_UnknownRow := fun_mk (st := si_UnknownRow) LI_UnknownRow CI_UnknownRow KI_UnknownRow, bi_UnknownRow := (fun_mk (st := si_UnknownRow) LI_UnknownRow CI_UnknownRow KI_UnknownRow).binds (ps := ["self", "number"]) fun _ _ _ _ _ _ us hl => match us, hl with | [_, _], _ => rfl,
    C_NothingLeft := C_NothingLeft, mc_NothingLeft := PySem.W.mg_of X G AC_NothingLeft,
    x_NothingLeft := xc_ie XB_NothingLeft, f_NothingLeft := f_NothingLeft, di_NothingLeft := PySem.W.fnOf "__init__" "NothingLeft.__init__" (defArgs si_NothingLeft) (defBody si_NothingLeft) (defScope si_NothingLeft) .none kV_NothingLeft dc_NothingLeft pm_NothingLeft an_NothingLeft cd_NothingLeft ct_NothingLeft, iC_NothingLeft := IC_NothingLeft, tI_NothingLeft := TI_NothingLeft, Fi_NothingLeft := fun_mk (st := si_NothingLeft) LI_NothingLeft CI_NothingLeft KI_NothingLeft, bi_NothingLeft := (fun_mk (st := si_NothingLeft) LI_NothingLeft CI_NothingLeft KI_NothingLeft).binds (ps := ["self"]) fun _ _ _ _ _ _ us hl => match us, hl with | [_], _ => rfl,
    c_law := c_law, P_law := P_law, k_law := KClaw, Lc_law := ⟨_, _, _, _, LClaw, VClaw⟩, Nc_law := NClaw, Hc_law := HClaw,
    c_lived := c_lived, P_lived := P_lived, k_lived := KClived, Lc_lived := ⟨_, _, _, _, LClived, VClived⟩, Nc_lived := NClived, Hc_lived := HClived,
    c_ledger_back := c_ledger_back, P_ledger_back := P_ledger_back, k_ledger_back := KCledger_back, Lc_ledger_back := ⟨_, _, _, _, LCledger_back, VCledger_back⟩, Nc_ledger_back := NCledger_back, Hc_ledger_back := HCledger_back,
    Pne_law_lived := PNE_law_lived,
    Pne_law_ledger_back := PNE_law_ledger_back,
    Pne_lived_ledger_back := PNE_lived_ledger_back,
    fd_add := ⟨⟨_, _, _, _, _, _, _, _, _, _, rfl, L29, C29, .inl ⟨rfl, rfl⟩, .inr ⟨KD, KE, fun q hq => by rw [List.mem_singleton.mp hq]; exact ⟨_, KN, rfl⟩⟩⟩, K29⟩,
    ne1_Ledger := NE1, ne2_Ledger := NE2,
    xq_InvalidThing := XQ_InvalidThing,
    xq_InvalidRow := XQ_InvalidRow,
    xq_InvalidWord := XQ_InvalidWord,
    xq_SideTaken := XQ_SideTaken,
    xq_Torn := XQ_Torn,
    xq_TooMany := XQ_TooMany,
    xq_Full := XQ_Full,
    xq_UnknownRow := XQ_UnknownRow,
    xq_NothingLeft := XQ_NothingLeft,
    z_abs := PySem.W.mg_none_of X G Z0,
    z_all := PySem.W.mg_none_of X G Z1,
    z_any := PySem.W.mg_none_of X G Z2,
    z_bool := PySem.W.mg_none_of X G Z3,
    z_dict := PySem.W.mg_none_of X G Z4,
    z_enumerate := PySem.W.mg_none_of X G Z5,
    z_int := PySem.W.mg_none_of X G Z6,
    z_isinstance := PySem.W.mg_none_of X G Z7,
    z_len := PySem.W.mg_none_of X G Z8,
    z_list := PySem.W.mg_none_of X G Z9,
    z_range := PySem.W.mg_none_of X G Z10,
    z_repr := PySem.W.mg_none_of X G Z11,
    z_set := PySem.W.mg_none_of X G Z12,
    z_sorted := PySem.W.mg_none_of X G Z13,
    z_str := PySem.W.mg_none_of X G Z14,
    z_tuple := PySem.W.mg_none_of X G Z15,
    z_zip := PySem.W.mg_none_of X G Z16,
    t_LETTERS := t_LETTERS, c_LETTERS := PySem.W.mg_of X G Y0, r_LETTERS := ⟨_, rfl⟩,
    t_LONGEST_NAME := t_LONGEST_NAME, c_LONGEST_NAME := PySem.W.mg_of X G Y1, r_LONGEST_NAME := ⟨_, rfl⟩,
    p_LOTS := p_LOTS, c_LOTS := PySem.W.mg_of X G Y2, r_LOTS := rfl, q_LOTS := fun H => .inr ⟨_, _, _, W_LOTS, rfl, rfl, (by show 2 ≤ sizeLine; decide), .cons ⟨_, rfl⟩ (.cons ⟨_, rfl⟩ .nil)⟩,
    t_MOST_OF_THING := t_MOST_OF_THING, c_MOST_OF_THING := PySem.W.mg_of X G Y3, r_MOST_OF_THING := ⟨_, rfl⟩ }, rfl, fun s v => .of_eq rfl⟩
/-- the end of a law of which two defs make lambdas -/
theorem all_mk {l : PySem.W.OpenLaw} {w : World} {K : PySem.W.Frag} {mg : Str → Option Value} {fa : Addr} {h : Heap} (KX : K.In h) (own : LamX.OwnTab K fa h) (own2 : ∀ fb : Addr, mg "_law_lived" = some (.ref fb) → LamX.OwnTab K fb h) (own3 : ∀ fb : Addr, mg "_law_ledger_back" = some (.ref fb) → LamX.OwnTab K fb h)
    (hT : ∃ T : Top K mg, T.a_law = fa ∧ ∀ (s : Shared) (v : Value), BindsTo s T.d_law ⟨[v], []⟩ [("_law_script", v)]) : LamX.LawAtS l w K CX0 30 63 "_law_script" mg fa h := by
  obtain ⟨T, rfl, hb⟩ := hT
  obtain ⟨e, dd, vs, sl, h1, h2⟩ := T.Lc_law
  obtain ⟨oc, od, kV, doc, pm, an, cdv, ct, osl, e1, lk, hcd⟩ := T.F_law.ex
  obtain ⟨e2, dd2, vs2, sl2, g1, g2⟩ := T.Lc_lived
  obtain ⟨oc2, od2, kV2, doc2, pm2, an2, cdv2, ct2, osl2, e3, lk2, hcd2⟩ := T.F_lived.ex
  obtain ⟨e4, dd4, vs4, sl4, j1, j2⟩ := T.Lc_ledger_back
  obtain ⟨oc4, od4, kV4, doc4, pm4, an4, cdv4, ct4, osl4, e5, lk4, hcd4⟩ := T.F_ledger_back.ex
  refine ⟨T.d_law, [(T.c_law, T.P_law), (T.c_lived, T.P_lived), (T.c_ledger_back, T.P_ledger_back)], spLaw T, fun p hp => ?_, fun p hp => ?_, fun p hp => ?_, hb, fun H a ns hl _ ht hS => ?_, fun base hK hN hTB => ok_law T (hTB (T.c_law, T.P_law) List.mem_cons_self) (hTB (T.c_lived, T.P_lived) (List.mem_cons_of_mem _ List.mem_cons_self)) (hTB (T.c_ledger_back, T.P_ledger_back) (List.mem_cons_of_mem _ (List.mem_cons_of_mem _ List.mem_cons_self)))⟩
  · rcases List.mem_cons.mp hp with rfl | hp
    · exact own _ _ _ _ _ _ _ _ lk rfl T.k_law h1 h2
    rcases List.mem_cons.mp hp with rfl | hp
    · exact own2 _ T.m_lived _ _ _ _ _ _ _ _ lk2 rfl T.k_lived g1 g2
    · obtain rfl := List.mem_singleton.mp hp
      exact own3 _ T.m_ledger_back _ _ _ _ _ _ _ _ lk4 rfl T.k_ledger_back j1 j2
  · rcases List.mem_cons.mp hp with rfl | hp
    · exact T.Nc_law
    rcases List.mem_cons.mp hp with rfl | hp
    · exact T.Nc_lived
    · obtain rfl := List.mem_singleton.mp hp
      exact T.Nc_ledger_back
  · rcases List.mem_cons.mp hp with rfl | hp
    · exact PySem.W.codeHd_of_K KX T.Hc_law
    rcases List.mem_cons.mp hp with rfl | hp
    · exact PySem.W.codeHd_of_K KX T.Hc_lived
    · obtain rfl := List.mem_singleton.mp hp
      exact PySem.W.codeHd_of_K KX T.Hc_ledger_back
  · unfold spLaw
    exact ⟨a, ns, rfl, hS, hl, ht (T.c_law, T.P_law) List.mem_cons_self, ht (T.c_lived, T.P_lived) (List.mem_cons_of_mem _ List.mem_cons_self), ht (T.c_ledger_back, T.P_ledger_back) (List.mem_cons_of_mem _ (List.mem_cons_of_mem _ List.mem_cons_self)), fun _ => rfl⟩
theorem walk {l : PySem.W.OpenLaw} {q : Program} {loose : List Str} {XP : (Str → Option Value) → Heap → Prop} {YP : World → Heap → Prop} {d : DefRec} {K : Params → PySem.W.Frag} (hn : l.most = some 63) (hdf : d.params.defaults = [])
    (hrec : ((PyProof.Rows.recsOf q).any fun e => e.name == d.name) = true) (hrec2 : ((PyProof.Rows.recsOf q).any fun e => e.name == ("_law_lived" : Str)) = true) (hrec3 : ((PyProof.Rows.recsOf q).any fun e => e.name == ("_law_ledger_back" : Str)) = true) (hY : ∀ (w : World) (h : Heap), YP w h → (K w.params).In h)
    (F : ∀ (w : World) (mg : Str → Option Value) (fa : Addr) (h : Heap), YP w h → (K w.params).In h → h.Ns mainGlobals mg → mg d.name = some (.ref fa) → LamX.OwnTab (K w.params) fa h → (∀ fb : Addr, mg "_law_lived" = some (.ref fb) → LamX.OwnTab (K w.params) fb h) → (∀ fb : Addr, mg "_law_ledger_back" = some (.ref fb) → LamX.OwnTab (K w.params) fb h) →
      LamX.LawAtS l w (K w.params) CX0 30 63 "_law_script" mg fa h) :
    PySem.W.WalkO q loose XP YP l.row.toRowW d [] (fun f vs => PySem.call f vs) :=
  walk_ofOwnAll (n := 63) (k := 30) (x := "_law_script") (CX := fun _ => CX0) hn (by decide) hdf ⟨rfl, by decide, by decide⟩ hY (fun w mg fa h Y KX G hmg own => F w mg fa h Y KX G hmg (own _ _ hrec hmg) (fun fb hb => own _ _ hrec2 hb) fun fb hb => own _ _ hrec3 hb) fun _ _ _ _ _ z => z
end Bl
open PySem PySem.W PyProof.Rows
set_option maxRecDepth 100000 in
set_option maxHeartbeats 0 in
theorem PySem.Challenge.cw_bothlots_k51_ledger_undo_and_twins_holds : PySem.Challenge.rw_bothlots_k51_ledger_undo_and_twins.Holds := by
  w_on; o_law; k_head; (case hw => w_witness2)
  k_fill
  first
    | refine Bl.walk (l := PySem.Challenge.rw_bothlots_k51_ledger_undo_and_twins) rfl rfl ?R ?R2 ?R3 (fun w h Y => PySem.W.km_in_of Y) ?F
    | refine Bl.walk (l := PySem.Challenge.rw_bothlots_k51_ledger_undo_and_twins) rfl rfl ?R ?R2 ?R3 (fun w h Y => PySem.W.kIn_of Y) ?F
  case R => decide +kernel
  case R2 => decide +kernel
  case R3 => decide +kernel
  case F =>
    intro w mg fa h Y KX G hmg own own2 own3
    refine Bl.all_mk KX own own2 own3 ?H
    refine' Bl.top_mk KX G hmg ?OA_Bonds ?Oga_Bonds ?Ohd_Bonds ?Opo_Bonds ?Osa_Bonds ?Omk_Bonds ?Okp_Bonds ?On_Bonds__marked ?On_Bonds__holders ?OA_Ledger ?Oga_Ledger ?Ohd_Ledger ?Opo_Ledger ?Osa_Ledger ?Omk_Ledger ?Okp_Ledger ?On_Ledger__things ?On_Ledger__rows ?On_Ledger__sides ?On_Ledger__undone ?Oi1_Ledger ?Oi2_Ledger ?Oi3_Ledger ?Oi4_Ledger ?Oi5_Ledger ?Oi6_Ledger ?Or1_Ledger ?Or2_Ledger ?Oc_Ledger_MOST ?Oc_Ledger_MOST_THINGS ?A0 ?L0 ?C0 ?K0 ?A1 ?L1 ?C1 ?K1 ?A2 ?L2 ?C2 ?K2 ?A3 ?L3 ?C3 ?K3 ?A4 ?L4 ?C4 ?K4 ?A5 ?L5 ?C5 ?K5 ?A6 ?L6 ?C6 ?K6 ?A7 ?L7 ?C7 ?K7 ?A8 ?L8 ?C8 ?K8 ?A9 ?L9 ?C9 ?K9 ?A10 ?L10 ?C10 ?K10 ?A11 ?L11 ?C11 ?K11 ?A12 ?L12 ?C12 ?K12 ?A13 ?L13 ?C13 ?K13 ?A14 ?L14 ?C14 ?K14 ?A15 ?L15 ?C15 ?K15 ?A16 ?L16 ?C16 ?K16 ?A17 ?L17 ?C17 ?K17 ?A18 ?L18 ?C18 ?K18 ?A19 ?L19 ?C19 ?K19 ?A20 ?L20 ?C20 ?K20 ?A21 ?L21 ?C21 ?K21 ?A22 ?L22 ?C22 ?K22 ?A23 ?L23 ?C23 ?K23 ?A24 ?I24 ?L24 ?C24 ?K24 ?A25 ?I25 ?L25 ?C25 ?K25 ?A26 ?I26 ?L26 ?C26 ?K26 ?A27 ?I27 ?L27 ?C27 ?K27 ?A28 ?I28 ?L28 ?C28 ?K28 ?A29 ?I29 ?L29 ?C29 ?K29 ?A30 ?I30 ?L30 ?C30 ?K30 ?A31 ?I31 ?L31 ?C31 ?K31 ?A32 ?I32 ?L32 ?C32 ?K32 ?A33 ?I33 ?L33 ?C33 ?K33 ?A34 ?I34 ?L34 ?C34 ?K34 ?A35 ?I35 ?L35 ?C35 ?K35 ?A36 ?I36 ?L36 ?C36 ?K36 ?A37 ?I37 ?L37 ?C37 ?K37 ?A38 ?I38 ?L38 ?C38 ?K38 ?A39 ?I39 ?L39 ?C39 ?K39 ?A40 ?I40 ?L40 ?C40 ?K40 ?A41 ?I41 ?L41 ?C41 ?K41 ?A42 ?I42 ?L42 ?C42 ?K42 ?A43 ?I43 ?L43 ?C43 ?K43 ?A44 ?I44 ?L44 ?C44 ?K44 ?A45 ?I45 ?L45 ?C45 ?K45 ?A46 ?I46 ?L46 ?C46 ?K46 ?A47 ?I47 ?L47 ?C47 ?K47 ?AC_LotsError ?AC_Missing ?AC_InvalidThing ?XB_InvalidThing ?IC_InvalidThing ?TI_InvalidThing ?LI_InvalidThing ?CI_InvalidThing ?KI_InvalidThing ?AC_InvalidRow ?XB_InvalidRow ?IC_InvalidRow ?TI_InvalidRow ?LI_InvalidRow ?CI_InvalidRow ?KI_InvalidRow ?AC_InvalidWord ?XB_InvalidWord ?IC_InvalidWord ?TI_InvalidWord ?LI_InvalidWord ?CI_InvalidWord ?KI_InvalidWord ?AC_SideTaken ?XB_SideTaken ?IC_SideTaken ?TI_SideTaken ?LI_SideTaken ?CI_SideTaken ?KI_SideTaken ?AC_Torn ?XB_Torn ?IC_Torn ?TI_Torn ?LI_Torn ?CI_Torn ?KI_Torn ?AC_TooMany ?XB_TooMany ?IC_TooMany ?TI_TooMany ?LI_TooMany ?CI_TooMany ?KI_TooMany ?AC_Full ?XB_Full ?IC_Full ?TI_Full ?LI_Full ?CI_Full ?KI_Full ?AC_UnknownRow ?XB_UnknownRow ?IC_UnknownRow ?TI_UnknownRow ?LI_UnknownRow ?CI_UnknownRow ?KI_UnknownRow ?AC_NothingLeft ?XB_NothingLeft ?IC_NothingLeft ?TI_NothingLeft ?LI_NothingLeft ?CI_NothingLeft ?KI_NothingLeft ?KClaw ?LClaw ?VClaw ?NClaw ?HClaw ?KClived ?LClived ?VClived ?NClived ?HClived ?KCledger_back ?LCledger_back ?VCledger_back ?NCledger_back ?HCledger_back ?PNE_law_lived ?PNE_law_ledger_back ?PNE_lived_ledger_back ?KE ?KN ?NE1 ?NE2 ?XQ_InvalidThing ?XQ_InvalidRow ?XQ_InvalidWord ?XQ_SideTaken ?XQ_Torn ?XQ_TooMany ?XQ_Full ?XQ_UnknownRow ?XQ_NothingLeft ?Z0 ?Z1 ?Z2 ?Z3 ?Z4 ?Z5 ?Z6 ?Z7 ?Z8 ?Z9 ?Z10 ?Z11 ?Z12 ?Z13 ?Z14 ?Z15 ?Z16 ?Y0 ?Y1 ?Y2 ?W_LOTS ?Y3
    (case OA_Bonds => k_is)
    (case Oga_Bonds => k_is)
    (case Ohd_Bonds => k_is)
    (case Opo_Bonds => k_is)
    (case Osa_Bonds => k_is)
    (case Omk_Bonds => k_is)
    (case Okp_Bonds => k_is)
    (case On_Bonds__marked => k_is)
    (case On_Bonds__holders => k_is)
    (case OA_Ledger => k_is)
    (case Oga_Ledger => k_is)
    (case Ohd_Ledger => k_is)
    (case Opo_Ledger => k_is)
    (case Osa_Ledger => k_is)
    (case Omk_Ledger => k_is)
    (case Okp_Ledger => k_is)
    (case On_Ledger__things => k_is)
    (case On_Ledger__rows => k_is)
    (case On_Ledger__sides => k_is)
    (case On_Ledger__undone => k_is)
    (case Oi1_Ledger => k_is)
    (case Oi2_Ledger => k_is)
    (case Oi3_Ledger => k_is)
    (case Oi4_Ledger => k_is)
    (case Oi5_Ledger => kernel_rfl)
    (case Oi6_Ledger => kernel_rfl)
    (case Or1_Ledger => k_is)
    (case Or2_Ledger => k_is)
    (case Oc_Ledger_MOST => k_is)
    (case Oc_Ledger_MOST_THINGS => k_is)
    (case A0 => k_is)
    (case L0 => k_is)
    (case C0 => k_is)
    (case K0 => k_is)
    (case A1 => k_is)
    (case L1 => k_is)
    (case C1 => k_is)
    (case K1 => k_is)
    (case A2 => k_is)
    (case L2 => k_is)
    (case C2 => k_is)
    (case K2 => k_is)
    (case A3 => k_is)
    (case L3 => k_is)
    (case C3 => k_is)
    (case K3 => k_is)
    (case A4 => k_is)
    (case L4 => k_is)
    (case C4 => k_is)
    (case K4 => k_is)
    (case A5 => k_is)
    (case L5 => k_is)
    (case C5 => k_is)
    (case K5 => k_is)
    (case A6 => k_is)
    (case L6 => k_is)
    (case C6 => k_is)
    (case K6 => k_is)
    (case A7 => k_is)
    (case L7 => k_is)
    (case C7 => k_is)
    (case K7 => k_is)
    (case A8 => k_is)
    (case L8 => k_is)
    (case C8 => k_is)
    (case K8 => k_is)
    (case A9 => k_is)
    (case L9 => k_is)
    (case C9 => k_is)
    (case K9 => k_is)
    (case A10 => k_is)
    (case L10 => k_is)
    (case C10 => k_is)
    (case K10 => k_is)
    (case A11 => k_is)
    (case L11 => k_is)
    (case C11 => k_is)
    (case K11 => k_is)
    (case A12 => k_is)
    (case L12 => k_is)
    (case C12 => k_is)
    (case K12 => k_is)
    (case A13 => k_is)
    (case L13 => k_is)
    (case C13 => k_is)
    (case K13 => k_is)
    (case A14 => k_is)
    (case L14 => k_is)
    (case C14 => k_is)
    (case K14 => k_is)
    (case A15 => k_is)
    (case L15 => k_is)
    (case C15 => k_is)
    (case K15 => k_is)
    (case A16 => k_is)
    (case L16 => k_is)
    (case C16 => k_is)
    (case K16 => k_is)
    (case A17 => k_is)
    (case L17 => k_is)
    (case C17 => k_is)
    (case K17 => k_is)
    (case A18 => k_is)
    (case L18 => k_is)
    (case C18 => k_is)
    (case K18 => k_is)
    (case A19 => k_is)
    (case L19 => k_is)
    (case C19 => k_is)
    (case K19 => k_is)
    (case A20 => k_is)
    (case L20 => k_is)
    (case C20 => k_is)
    (case K20 => k_is)
    (case A21 => k_is)
    (case L21 => k_is)
    (case C21 => k_is)
    (case K21 => k_is)
    (case A22 => k_is)
    (case L22 => k_is)
    (case C22 => k_is)
    (case K22 => k_is)
    (case A23 => k_is)
    (case L23 => k_is)
    (case C23 => k_is)
    (case K23 => k_is)
    (case A24 => k_is)
    (case I24 => k_is)
    (case L24 => k_is)
    (case C24 => k_is)
    (case K24 => k_is)
    (case A25 => k_is)
    (case I25 => k_is)
    (case L25 => k_is)
    (case C25 => k_is)
    (case K25 => k_is)
    (case A26 => k_is)
    (case I26 => k_is)
    (case L26 => k_is)
    (case C26 => k_is)
    (case K26 => k_is)
    (case A27 => k_is)
    (case I27 => k_is)
    (case L27 => k_is)
    (case C27 => k_is)
    (case K27 => k_is)
    (case A28 => k_is)
    (case I28 => k_is)
    (case L28 => k_is)
    (case C28 => k_is)
    (case K28 => k_is)
    (case A29 => k_is)
    (case I29 => k_is)
    (case L29 => k_is)
    (case C29 => k_is)
    (case K29 => k_is)
    (case A30 => k_is)
    (case I30 => k_is)
    (case L30 => k_is)
    (case C30 => k_is)
    (case K30 => k_is)
    (case A31 => k_is)
    (case I31 => k_is)
    (case L31 => k_is)
    (case C31 => k_is)
    (case K31 => k_is)
    (case A32 => k_is)
    (case I32 => k_is)
    (case L32 => k_is)
    (case C32 => k_is)
    (case K32 => k_is)
    (case A33 => k_is)
    (case I33 => k_is)
    (case L33 => k_is)
    (case C33 => k_is)
    (case K33 => k_is)
    (case A34 => k_is)
    (case I34 => k_is)
    (case L34 => k_is)
    (case C34 => k_is)
    (case K34 => k_is)
    (case A35 => k_is)
    (case I35 => k_is)
    (case L35 => k_is)
    (case C35 => k_is)
    (case K35 => k_is)
    (case A36 => k_is)
    (case I36 => k_is)
    (case L36 => k_is)
    (case C36 => k_is)
    (case K36 => k_is)
    (case A37 => k_is)
    (case I37 => k_is)
    (case L37 => k_is)
    (case C37 => k_is)
    (case K37 => k_is)
    (case A38 => k_is)
    (case I38 => k_is)
    (case L38 => k_is)
    (case C38 => k_is)
    (case K38 => k_is)
    (case A39 => k_is)
    (case I39 => k_is)
    (case L39 => k_is)
    (case C39 => k_is)
    (case K39 => k_is)
    (case A40 => k_is)
    (case I40 => k_is)
    (case L40 => k_is)
    (case C40 => k_is)
    (case K40 => k_is)
    (case A41 => k_is)
    (case I41 => k_is)
    (case L41 => k_is)
    (case C41 => k_is)
    (case K41 => k_is)
    (case A42 => k_is)
    (case I42 => k_is)
    (case L42 => k_is)
    (case C42 => k_is)
    (case K42 => k_is)
    (case A43 => k_is)
    (case I43 => k_is)
    (case L43 => k_is)
    (case C43 => k_is)
    (case K43 => k_is)
    (case A44 => k_is)
    (case I44 => k_is)
    (case L44 => k_is)
    (case C44 => k_is)
    (case K44 => k_is)
    (case A45 => k_is)
    (case I45 => k_is)
    (case L45 => k_is)
    (case C45 => k_is)
    (case K45 => k_is)
    (case A46 => k_is)
    (case I46 => k_is)
    (case L46 => k_is)
    (case C46 => k_is)
    (case K46 => k_is)
    (case A47 => k_is)
    (case I47 => k_is)
    (case L47 => k_is)
    (case C47 => k_is)
    (case K47 => k_is)
    (case AC_LotsError => k_is)
    (case AC_Missing => k_is)
    (case AC_InvalidThing => k_is)
    (case XB_InvalidThing => kernel_rfl)
    (case IC_InvalidThing => k_is)
    (case TI_InvalidThing => k_is)
    (case LI_InvalidThing => k_is)
    (case CI_InvalidThing => k_is)
    (case KI_InvalidThing => k_is)
    (case AC_InvalidRow => k_is)
    (case XB_InvalidRow => kernel_rfl)
    (case IC_InvalidRow => k_is)
    (case TI_InvalidRow => k_is)
    (case LI_InvalidRow => k_is)
    (case CI_InvalidRow => k_is)
    (case KI_InvalidRow => k_is)
    (case AC_InvalidWord => k_is)
    (case XB_InvalidWord => kernel_rfl)
    (case IC_InvalidWord => k_is)
    (case TI_InvalidWord => k_is)
    (case LI_InvalidWord => k_is)
    (case CI_InvalidWord => k_is)
    (case KI_InvalidWord => k_is)
    (case AC_SideTaken => k_is)
    (case XB_SideTaken => kernel_rfl)
    (case IC_SideTaken => k_is)
    (case TI_SideTaken => k_is)
    (case LI_SideTaken => k_is)
    (case CI_SideTaken => k_is)
    (case KI_SideTaken => k_is)
    (case AC_Torn => k_is)
    (case XB_Torn => kernel_rfl)
    (case IC_Torn => k_is)
    (case TI_Torn => k_is)
    (case LI_Torn => k_is)
    (case CI_Torn => k_is)
    (case KI_Torn => k_is)
    (case AC_TooMany => k_is)
    (case XB_TooMany => kernel_rfl)
    (case IC_TooMany => k_is)
    (case TI_TooMany => k_is)
    (case LI_TooMany => k_is)
    (case CI_TooMany => k_is)
    (case KI_TooMany => k_is)
    (case AC_Full => k_is)
    (case XB_Full => kernel_rfl)
    (case IC_Full => k_is)
    (case TI_Full => k_is)
    (case LI_Full => k_is)
    (case CI_Full => k_is)
    (case KI_Full => k_is)
    (case AC_UnknownRow => k_is)
    (case XB_UnknownRow => kernel_rfl)
    (case IC_UnknownRow => k_is)
    (case TI_UnknownRow => k_is)
    (case LI_UnknownRow => k_is)
    (case CI_UnknownRow => k_is)
    (case KI_UnknownRow => k_is)
    (case AC_NothingLeft => k_is)
    (case XB_NothingLeft => kernel_rfl)
    (case IC_NothingLeft => k_is)
    (case TI_NothingLeft => k_is)
    (case LI_NothingLeft => k_is)
    (case CI_NothingLeft => k_is)
    (case KI_NothingLeft => k_is)
    (case KClaw => rfl)
    (case LClaw => k_is)
    (case VClaw => rfl)
    (case NClaw => kernel_rfl)
    (case HClaw => kernel_rfl)
    (case KClived => rfl)
    (case LClived => k_is)
    (case VClived => rfl)
    (case NClived => kernel_rfl)
    (case HClived => kernel_rfl)
    (case KCledger_back => rfl)
    (case LCledger_back => k_is)
    (case VCledger_back => rfl)
    (case NCledger_back => kernel_rfl)
    (case HCledger_back => kernel_rfl)
    (case PNE_law_lived => decide)
    (case PNE_law_ledger_back => decide)
    (case PNE_lived_ledger_back => decide)
    (case KE => rfl)
    (case KN => k_is)
    (case NE1 => k_is)
    (case NE2 => k_is)
    (case XQ_InvalidThing => kernel_rfl)
    (case XQ_InvalidRow => kernel_rfl)
    (case XQ_InvalidWord => kernel_rfl)
    (case XQ_SideTaken => kernel_rfl)
    (case XQ_Torn => kernel_rfl)
    (case XQ_TooMany => kernel_rfl)
    (case XQ_Full => kernel_rfl)
    (case XQ_UnknownRow => kernel_rfl)
    (case XQ_NothingLeft => kernel_rfl)
    (case Z0 => k_is)
    (case Z1 => k_is)
    (case Z2 => k_is)
    (case Z3 => k_is)
    (case Z4 => k_is)
    (case Z5 => k_is)
    (case Z6 => k_is)
    (case Z7 => k_is)
    (case Z8 => k_is)
    (case Z9 => k_is)
    (case Z10 => k_is)
    (case Z11 => k_is)
    (case Z12 => k_is)
    (case Z13 => k_is)
    (case Z14 => k_is)
    (case Z15 => k_is)
    (case Z16 => k_is)
    (case Y0 => k_is)
    (case Y1 => k_is)
    (case Y2 => k_is)
    (case W_LOTS => k_is)
    (case Y3 => k_is)

