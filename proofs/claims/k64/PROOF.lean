import PyProof.Rows.All
import Wide.All
import OpenK.AllK
import Wide.FinOn
import HandS.ForMost
import HandS.Codes
import HandS.IsInst
import HandS.TupAny
import HandS.Style
import HandS.Walk
import HandS.Zip
import HandS.EndBits
import HandS.ForExc
import HandS.ExcInit
import KE.KExcInit
import KE.KExcIs
import PySem.Challenge.RW_bothlots_k64_errors_and_classes
set_option Elab.async false
set_option maxRecDepth 100000
set_option maxHeartbeats 4000000
/-! the box of draws, kept apart from all else; data by its shape -/
namespace Bl
open PySem L2
theorem same_new {H : Hp} {p : Addr} (h : H p = none) (o : HO) : Same H (upd H p o) := fun b u q => by
  rw [upd_ne (ne_of_none q h)]
  exact q
theorem Same.tup {K : PySem.W.Frag} {H H' : Hp} {a : Addr} {xs : List V} (e : Same H H') (h : SqT K H a xs) : SqT K H' a xs := by
  rcases h with (h | ⟨o, h⟩) | h
  · exact .inl (.inl (e _ _ h))
  · exact .inl (.inr ⟨o, e _ _ h⟩)
  · exact .inr h
/-- the heap without what stands at p -/
def hide (p : Addr) (H : Hp) : Hp := fun b => if b = p then none else H b
theorem hide_ne {p b : Addr} {H : Hp} (h : b ≠ p) : hide p H b = H b := if_neg h
theorem hide_at {p : Addr} {H : Hp} : hide p H p = none := if_pos rfl
theorem hide_le {p : Addr} {H : Hp} : Same (hide p H) H := fun b o h => by
  by_cases e : b = p
  · subst e
    rw [hide_at] at h
    cases h
  · rw [hide_ne e] at h
    exact h
theorem hide_upd {p : Addr} {H : Hp} {o : HO} : hide p (upd H p o) = hide p H := by
  funext b
  by_cases e : b = p
  · rw [e, hide_at, hide_at]
  · rw [hide_ne e, hide_ne e, upd_ne e]
theorem hide_new {p q : Addr} {H : Hp} {o : HO} (h : q ≠ p) : hide p (upd H q o) = upd (hide p H) q o := by
  funext b
  by_cases e : b = p
  · rw [e, hide_at, upd_ne (Ne.symm h), hide_at]
  · rw [hide_ne e]
    by_cases f : b = q
    · rw [f, upd_same, upd_same]
    · rw [upd_ne f, upd_ne f, hide_ne e]
theorem hide_free {p q : Addr} {H : Hp} (h : H q = none) : hide p H q = none := by
  by_cases e : q = p
  · rw [e, hide_at]
  · rw [hide_ne e]
    exact h
theorem hide_mono {p : Addr} {H H' : Hp} (e : Same H H') : Same (hide p H) (hide p H') := fun b o h => by
  by_cases f : b = p
  · subst f
    rw [hide_at] at h
    cases h
  · rw [hide_ne f] at h ⊢
    exact e b o h
/-- all that was tracked, but what stands at p, is as it was -/
abbrev But (p : Addr) (H H' : Hp) : Prop := Same (hide p H) (hide p H')
theorem But.put {p : Addr} {H H1 : Hp} {o : HO} (a : But p H H1) : But p H (upd H1 p o) := by
  unfold But
  rw [hide_upd]
  exact a
theorem But.of {p : Addr} {H H1 : Hp} (a : Same H H1) : But p H H1 := hide_mono a
theorem But.new {p q : Addr} {H H1 : Hp} (a : But p H H1) (h : H1 q = none) (o : HO) : But p H (upd H1 q o) := Same.trans a (hide_mono (same_new h o))
/-- the law's box of draws -/
def boxL (l : Addr) (i w m c : Int) : List V := [.ref l, .int i, .int w, .int m, .int c]
structure BoxAt (H : Hp) (p l : Addr) : Prop where
  ex : ∃ (ns : List Int) (i w m c : Int), H p = some (.lst (boxL l i w m c)) ∧ hide p H l = some (.lst (ns.map V.int)) ∧ 0 ≤ i ∧ 0 ≤ m ∧ m < 2147483629
theorem BoxAt.mono {H H' : Hp} {p l : Addr} (b : BoxAt H p l) (e : Same H H') : BoxAt H' p l := by
  obtain ⟨ns, i, w, m, c, hp, hl, r⟩ := b
  exact ⟨ns, i, w, m, c, e _ _ hp, hide_mono e _ _ hl, r⟩
theorem BoxAt.new {H : Hp} {p q l : Addr} (b : BoxAt H p l) (h : H q = none) (o : HO) : BoxAt (upd H q o) p l := b.mono (same_new h o)
theorem BoxAt.ne {H : Hp} {p q l : Addr} (b : BoxAt H p l) (h : H q = none) : q ≠ p := by
  obtain ⟨ns, i, w, m, c, hp, _⟩ := b
  exact (ne_of_none hp h).symm
theorem BoxAt.nl {H : Hp} {p q l : Addr} (b : BoxAt H p l) (h : H q = none) : q ≠ l := by
  obtain ⟨ns, i, w, m, c, hp, hl, _⟩ := b
  exact (ne_of_none (hide_le _ _ hl) h).symm
/-- an object that is neither the box nor its cells may change -/
theorem BoxAt.mut {H : Hp} {p q l : Addr} (b : BoxAt H p l) (h : q ≠ p) (h2 : q ≠ l) (o : HO) : BoxAt (upd H q o) p l := by
  obtain ⟨ns, i, w, m, c, hp, hl, r⟩ := b
  exact ⟨ns, i, w, m, c, by rw [upd_ne h.symm]; exact hp, by rw [hide_new h, upd_ne h2.symm]; exact hl, r⟩
/-- an object that was not there may change -/
theorem But.mut {p q : Addr} {H H1 : Hp} (a : But p H H1) (h : H q = none) (o : HO) : But p H (upd H1 q o) := fun b u e => by
  have n1 : b ≠ p := by
    rintro rfl
    rw [hide_at] at e
    cases e
  have e1 := a b u e
  rw [hide_ne n1] at e e1 ⊢
  rw [upd_ne (ne_of_none e h)]
  exact e1
theorem Same.mut {q : Addr} {H H1 : Hp} (a : Same H H1) (h : H q = none) (o : HO) : Same H (upd H1 q o) := fun b u e => by
  rw [upd_ne (ne_of_none e h)]
  exact a b u e
/-- a new object is no box -/
theorem hid_same {p q : Addr} {H : Hp} {o : HO} (h : q ≠ p) : hide p (upd H q o) q = some o := by
  rw [hide_ne h, upd_same]

/-! what the draws promise -/
def spPull (K : PySem.W.Frag) : Sp := fun vs H Q _ => ∃ (p l : Addr) (n : Int), vs = [.ref p, .int n] ∧ BoxAt H p l ∧ 0 < n ∧ n < 1073741824 ∧
  ∀ (d : Int) (H' : Hp), 0 ≤ d → d < n → BoxAt H' p l → But p H H' → Q (.int d) H'
def spBox (K : PySem.W.Frag) : Sp := fun vs H Q _ => ∃ (a : Addr) (ns : List Int), vs = [.ref a] ∧ SqL K H a (ns.map V.int) ∧ ns.length ≤ 63 ∧
  ∀ (p l : Addr) (H' : Hp), H p = none → BoxAt H' p l → Same H H' → Q (.ref p) H'
/-- an item of a list, of a tuple, of a text -/
def spOf (K : PySem.W.Frag) : Sp := fun vs H Q _ => ∃ (p l : Addr) (v : V), vs = [.ref p, v] ∧ BoxAt H p l ∧
  ((∃ a xs, v = .ref a ∧ (SqL K (hide p H) a xs ∨ SqT K (hide p H) a xs) ∧ 0 < xs.length ∧ xs.length < 1000000 ∧ ∀ (i : Nat) (x : V) (H' : Hp), xs[i]? = some x → BoxAt H' p l → But p H H' → Q x H') ∨
    ∃ z : Str, v = .str z ∧ 0 < z.length ∧ z.length < 1000000 ∧ ∀ (c : Nat) (H' : Hp), c ∈ z.cps.toList → BoxAt H' p l → But p H H' → Q (.str ⟨#[c]⟩) H')

/-! small things -/
theorem atI_int {ns : List Int} {i : Int} (h0 : 0 ≤ i) (h : i < ns.length) : ∃ v : Int, atI (ns.map V.int) i = some (.int v) := by
  obtain ⟨n, rfl⟩ := Int.eq_ofNat_of_zero_le h0
  have hk : n < ns.length := by omega
  exact ⟨ns[n], atI_nat (by rw [List.getElem?_map, List.getElem?_eq_getElem hk] <;> rfl)⟩
theorem atI_some {xs : List V} {i : Int} (h0 : 0 ≤ i) (h : i < xs.length) : ∃ (n : Nat) (v : V), xs[n]? = some v ∧ atI xs i = some v := by
  obtain ⟨n, rfl⟩ := Int.eq_ofNat_of_zero_le h0
  have hk : n < xs.length := by omega
  exact ⟨n, xs[n], List.getElem?_eq_getElem hk, atI_nat (List.getElem?_eq_getElem hk)⟩
theorem mod_lt' {a b : Int} (h : 0 < b) : 0 ≤ a % b ∧ a % b < b := ⟨Int.emod_nonneg a (by omega), Int.emod_lt_of_pos a h⟩
theorem small {n : Nat} (h : n ≤ 1000000) : n ≤ sizeLine := Nat.le_trans h (by decide)
theorem small' {n : Nat} (h : n < 1000000) : n < sizeLine := Nat.lt_of_lt_of_le h (by decide)
theorem cutV_63 {ns : List Int} (h : ns.length ≤ 63) : cutV (ns.map V.int) none (some 63) = ns.map V.int := by
  unfold cutV
  rw [HT.sIx_none, show ((some 63 : Option Int)) = some ((63 : Nat) : Int) from rfl, HT.sIx_nat, List.length_map, List.drop_zero, List.take_of_length_le (by rw [List.length_map]; omega)]

/-! data -/
mutual
theorem Dp.mono {K : PySem.W.Frag} {H H' : Hp} (e : Same H H') : ∀ (d : PyData) (v : V), Dp K H v d → Dp K H' v d
  | .none, _, h => by cases h; exact .non
  | .bool _, _, h => by cases h; exact .bl _
  | .int _, _, h => by cases h; exact .int _
  | .str _, _, h => by cases h; exact .str _
  | .list ds, _, h => by
    cases h with
    | lst hs ha => exact .lst (e.seq hs) (DpAll.mono e ds _ ha)
  | .tuple ds, _, h => by
    cases h with
    | tup hs ha => exact .tup (Same.tup e hs) (DpAll.mono e ds _ ha)
  | .dict _, _, h => by cases h
theorem DpAll.mono {K : PySem.W.Frag} {H H' : Hp} (e : Same H H') : ∀ (ds : List PyData) (vs : List V), DpAll K H vs ds → DpAll K H' vs ds
  | [], _, h => by cases h; exact .nil
  | d :: ds, _, h => by
    cases h with
    | cons h1 h2 => exact .cons (Dp.mono e d _ h1) (DpAll.mono e ds _ h2)
end
theorem DpAll.len {K : PySem.W.Frag} {H : Hp} : ∀ {ds : List PyData} {vs : List V}, DpAll K H vs ds → vs.length = ds.length
  | [], _, h => by cases h; rfl
  | _ :: _, _, h => by
    cases h with
    | cons _ h2 => rw [List.length_cons, List.length_cons, DpAll.len h2]
theorem DpAll.get {K : PySem.W.Frag} {H : Hp} : ∀ {ds : List PyData} {vs : List V} {i : Nat} {v : V}, DpAll K H vs ds → vs[i]? = some v → ∃ d, ds[i]? = some d ∧ Dp K H v d
  | [], _, _, _, h, e => by cases h; simp at e
  | d :: ds, _, 0, v, h, e => by
    cases h with
    | cons h1 h2 =>
      simp at e
      subst e
      exact ⟨d, rfl, h1⟩
  | d :: ds, _, i + 1, v, h, e => by
    cases h with
    | cons h1 h2 => exact DpAll.get (i := i) h2 (by simpa using e)
theorem DpAll.app {K : PySem.W.Frag} {H : Hp} : ∀ {ds es : List PyData} {vs us : List V}, DpAll K H vs ds → DpAll K H us es → DpAll K H (vs ++ us) (ds ++ es)
  | [], _, _, _, h, k => by cases h; exact k
  | _ :: _, _, _, _, h, k => by
    cases h with
    | cons h1 h2 => exact .cons h1 (DpAll.app h2 k)
theorem tyL {K : PySem.W.Frag} {H : Hp} {a : Addr} {xs : List V} (h : SqL K H a xs) : TyX K H (.ref a) (.type "list") := by
  rcases h with (h | ⟨o, h⟩) | ⟨o, _, _, h, hc, _⟩
  · exact .base (.lst h)
  · exact .base (.frz h)
  · exact .kList h hc
theorem tyT {K : PySem.W.Frag} {H : Hp} {a : Addr} {xs : List V} (h : SqT K H a xs) : TyX K H (.ref a) (.type "tuple") := by
  rcases h with (h | ⟨o, h⟩) | ⟨o, _, _, h, hc, _⟩
  · exact .base (.tup h)
  · exact .fTuple h
  · exact .kTuple h hc
/-- the built-in type's name -/
def tyN : PyData → String
  | .none => "NoneType"
  | .bool _ => "bool"
  | .int _ => "int"
  | .str _ => "str"
  | .list _ => "list"
  | .tuple _ => "tuple"
  | .dict _ => "dict"
theorem Dp.ty {K : PySem.W.Frag} {H : Hp} : ∀ {d : PyData} {v : V}, Dp K H v d → TyX K H v (.type (tyN d))
  | .none, _, h => by cases h; exact .base .non
  | .bool _, _, h => by cases h; exact .base (.bl _)
  | .int _, _, h => by cases h; exact .base (.int _)
  | .str _, _, h => by cases h; exact .base (.str _)
  | .list ds, _, h => by
    cases h with
    | lst hs _ => exact tyL hs
  | .tuple ds, _, h => by
    cases h with
    | tup hs _ => exact tyT hs
  | .dict _, _, h => by cases h
def isD (T : String) (d : PyData) : Bool := (kitB (tyN d) T).getD false
theorem kit_d {K : PySem.W.Frag} {T : String} {d : PyData} (h : ∀ d : PyData, (kitB (tyN d) T).isSome = true) : PySem.W.kitOne K (.type (tyN d)) (.type T) = some (isD T d) := by
  refine kit_ty ?_
  have := h d
  unfold isD
  cases e : kitB (tyN d) T with
  | none => rw [e] at this; cases this
  | some b => rfl
theorem some_str (d : PyData) : (kitB (tyN d) "str").isSome = true := by cases d <;> (dsimp only [tyN]; decide +kernel)
theorem some_int (d : PyData) : (kitB (tyN d) "int").isSome = true := by cases d <;> (dsimp only [tyN]; decide +kernel)
theorem some_bool (d : PyData) : (kitB (tyN d) "bool").isSome = true := by cases d <;> (dsimp only [tyN]; decide +kernel)
theorem some_list (d : PyData) : (kitB (tyN d) "list").isSome = true := by cases d <;> (dsimp only [tyN]; decide +kernel)
theorem some_tuple (d : PyData) : (kitB (tyN d) "tuple").isSome = true := by cases d <;> (dsimp only [tyN]; decide +kernel)
theorem isStr_eq (d : PyData) : isD "str" d = (match d with | .str _ => true | _ => false) := by cases d <;> (dsimp only [isD, tyN]; decide +kernel)
theorem isInt_eq (d : PyData) : isD "int" d = (match d with | .int _ => true | .bool _ => true | _ => false) := by cases d <;> (dsimp only [isD, tyN]; decide +kernel)
theorem isBool_eq (d : PyData) : isD "bool" d = (match d with | .bool _ => true | _ => false) := by cases d <;> (dsimp only [isD, tyN]; decide +kernel)
theorem isList_eq (d : PyData) : isD "list" d = (match d with | .list _ => true | _ => false) := by cases d <;> (dsimp only [isD, tyN]; decide +kernel)
theorem isTuple_eq (d : PyData) : isD "tuple" d = (match d with | .tuple _ => true | _ => false) := by cases d <;> (dsimp only [isD, tyN]; decide +kernel)
/-- nested less than n deep, without dicts -/
def Fits : Nat → PyData → Prop
  | 0, _ => False
  | _ + 1, .none => True
  | _ + 1, .bool _ => True
  | _ + 1, .int _ => True
  | _ + 1, .str _ => True
  | n + 1, .list ds => ds.length < 1000000 ∧ ∀ d ∈ ds, Fits n d
  | n + 1, .tuple ds => ds.length < 1000000 ∧ ∀ d ∈ ds, Fits n d
  | _ + 1, .dict _ => False
/-- names -/
def alpha : List Nat := [97, 98, 99, 100, 101, 102, 103, 104, 105, 106, 107, 108, 109, 110, 111, 112, 113, 114, 115, 116, 117, 118, 119, 120, 121, 122]
def nameB (z : Str) : Bool := decide (1 ≤ z.length) && decide (z.length ≤ 6) && z.cps.toList.all (fun c => decide (c ∈ alpha))
def nameD : PyData → Bool
  | .str z => nameB z
  | _ => false
theorem alpha_eq : ("abcdefghijklmnopqrstuvwxyz" : Str).cps.toList = alpha := by decide +kernel
/-- what two same data are told -/
def spSame (K : PySem.W.Frag) (n : Nat) : Sp := fun vs H Q _ => ∃ (x y : V) (d : PyData), vs = [x, y] ∧ Dp K H x d ∧ Dp K H y d ∧ Fits n d ∧ ∀ H', Same H H' → Q (.bl true) H'
def spIsName (K : PySem.W.Frag) : Sp := fun vs H Q _ => ∃ (v : V) (d : PyData), vs = [v] ∧ Dp K H v d ∧ (∀ z, d = .str z → z.length ≤ 100000) ∧ ∀ H', Same H H' → Q (.bl (nameD d)) H'
def numD (lo hi : Int) : PyData → Bool
  | .int i => decide (lo ≤ i) && decide (i ≤ hi)
  | _ => false
def spIsNumber (K : PySem.W.Frag) : Sp := fun vs H Q _ => ∃ (v : V) (d : PyData) (lo hi : Int), vs = [v, .int lo, .int hi] ∧ Dp K H v d ∧ ∀ H', Same H H' → Q (.bl (numD lo hi d)) H'
/-- the odd values of the laws -/
def odds : List PyData := [.none, .bool true, .bool false, .str "", .str "A", .str "a1", .str "sevenst", .int (-1), .int 7, .tuple [.int 1, .str "a"], .list [.int 1], .tuple [], .int (10 ^ 14)]
def spOdd (K : PySem.W.Frag) : Sp := fun vs H Q _ => ∃ (p l q : Addr) (ys : List V) (ds : List PyData), vs = [.ref p, .ref q] ∧ BoxAt H p l ∧ H q = some (.lst ys) ∧ q ≠ p ∧ DpAll K (hide p H) ys ds ∧ ds.length ≤ 100 ∧
  ∀ (v : V) (d : PyData) (H' : Hp), d ∈ odds ++ ds → Dp K (hide p H') v d → BoxAt H' p l → But p H H' → Q v H'
end Bl

/-! own exceptions as values, over any of the three built-in bases -/
namespace Bl
open PySem L2 PySem.Spec PyProof.Rows
/-- what a store asks of a class's line -/
structure MroOk (mro : List Value) : Prop where
  ne : mro.isEmpty = false
  ob : mro.contains (.type "object") = true
  pass : ∀ self : Value, PySem.refuseLoop self "__setattr__" mro = pure ()
theorem MroOk.own {c : Addr} {l : List Value} (h : MroOk l) : MroOk (.ref c :: l) := ⟨rfl, by rw [List.contains_cons, h.ob, Bool.or_true], fun self => by
  rw [PySem.refuseLoop_ref]
  exact h.pass self⟩
def veM : List Value := [.type "ValueError", .type "Exception", .type "BaseException", .type "object"]
def leM : List Value := [.type "LookupError", .type "Exception", .type "BaseException", .type "object"]
def ieM : List Value := [.type "IndexError", .type "LookupError", .type "Exception", .type "BaseException", .type "object"]
theorem MroOk.ve : MroOk veM := ⟨rfl, by decide +kernel, fun self => PySem.F.store_ValueError.passes self⟩
theorem MroOk.le : MroOk leM := ⟨rfl, by decide +kernel, fun self => PySem.F.store_LookupError.passes self⟩
theorem MroOk.ie : MroOk ieM := ⟨rfl, by decide +kernel, fun self => PySem.F.store_IndexError.passes self⟩
/-- what the written part says of such a class -/
structure XC (K : PySem.W.Frag) (C : Addr) : Prop where
  cls : ∃ (B newId initId : String) (bmB : List Value) (nm q : Str) (N : Addr) (bs bm : List Value) (sn : List Str) (sub : List Value) (ab : Bool) (col : Option Bool) (dd : Option Addr) (k0 k1 k2 k3 k5 : Option Value),
    ExcBaseFacts B newId initId bmB ∧ (∀ T : String, bm.contains (.type T) = bmB.contains (.type T)) ∧ MroOk (.ref C :: bm) ∧ K.lookup C = some (excClassObj nm q C N bs bm true sn sub ab col dd k0 k1 k2 k3 k5 newId)
  sa : PySem.W.findIn K (.ref C) "__setattr__" = some (some (.builtin "object.__setattr__"))
  ga : PySem.W.findIn K (.ref C) "__getattribute__" = some (some (.builtin "BaseException.__getattribute__"))
  gg : PySem.W.findIn K (.ref C) "__getattr__" = some none
  ca : PySem.W.findIn K (.ref C) "__class__" = some (some (.builtin "object.__class__"))
  kC : PySem.W.keepIn K (.ref C) = true
  exC : PySem.W.subIn K (.ref C) (.type "BaseException") = some true
  mo : PySem.W.mroIn K C (.type "object") = some true
/-- what it says of all -/
structure XG (K : PySem.W.Frag) : Prop where
  cn : PySem.W.specialIn K (.builtin "object.__class__") "__get__" = some (some (.builtin "getset_descriptor.__get__"))
  ct : PySem.W.takesIn K (.builtin "object.__class__") = some true
section
variable {prog : Program} {w : World} {A : Around} {R : Result → Shared → Prop} {hp : Heap} {g : Array GenState} {d : Drawn} {t : Nat} {os : OsState} {K : PySem.W.Frag} {name : Str} {tk : Tok} {v : Value} {x C dx : Addr} {fv : Array Value} {cd : ClassData}
open Builtin Builtin.ObjectAttr PySem.Calls
/-- the way to the store itself -/
theorem xo_way {od : Option Obj} {ox : Obj} (X : K.In hp) (I : PySem.W.InstAt hp x ox C od) (hcd : PySem.W.clsIn K C = some cd) (hm : MroOk cd.mro) (ha : PySem.W.findIn K (.ref C) name = some none)
    (hs : wpAny (model prog w) A.in1 (storeInOwnDict (.ref x) (.ref C) (.str name tk) name v false) (fun fin s' => match fin with
      | .done f => R (.ok f) s'
      | .again c' => c'.quiet = true ∧ codeAny (model prog w) A c' R s') (fun e s' => R (.error e) s') ⟨hp, g, d, t, os⟩) :
    codeAny (model prog w) A (.call (.builtin "object.__setattr__") ⟨[.ref x, .str name tk, v], []⟩) R ⟨hp, g, d, t, os⟩ := by
  have SF := F.store_object
  have inst : PySem.W.Looks (model prog w) hp (isInstance (.ref x) (.type "object")) true :=
    I.type.andThen (PySem.W.looks_mroIn X (by
      unfold PySem.W.mroIn
      rw [hcd, Option.bind_some, if_neg (by rw [hm.ne]; decide), hm.ob]))
  refine codeAny_call_builtin SF.slot.plain SF.entry ?_
  refine @PySem.W.check_slot (model prog w) _ _ ⟨hp, g, d, t, os⟩ "object.__setattr__" "object" "__setattr__" (.ref x)
    [.str name tk, v] [] _ SF.kind SF.split inst (SF.args (.ref x) (.str name tk) v) ?_
  have line : PySem.W.Looks (model prog w) hp (mroOf (.ref C)) cd.mro :=
    (PySem.W.looks_clsIn X hcd).andThen .now
  have taker : PySem.W.Looks (model prog w) hp (storeTaker? none) none := PySem.W.Looks.now
  rw [PySem.W.osa_eq, PySem.refuse_eq]
  refine wpAny_bind (wpAny_bind ?_)
  refine I.type.at (wpAny_bind (line.at ?_))
  rw [hm.pass]
  refine wpAny_pure (wpAny_bind (I.type.at (wpAny_bind ?_)))
  exact (PySem.W.looks_findIn X ha).at (wpAny_bind (taker.at hs))
/-- the first field: the object's dict is laid -/
theorem xo_new (X : K.In hp) (hx : hp.get? x = some { cls := .ref C, data := .fields fv }) (hcd : PySem.W.clsIn K C = some cd) (hm : MroOk cd.mro)
    (hh : cd.hasDict = true) (ha : PySem.W.findIn K (.ref C) name = some none)
    (hq : ∀ h' tk' dx, (∀ b o, b ≠ x → hp.get? b = some o → h'.get? b = some o) → hp.objs.size ≤ dx → dx ≠ x →
      h'.get? x = some { cls := .ref C, dict := some dx, data := .fields fv } → h'.Ns1 dx (fun y => if y = name then some v else none) →
      R (.ok (.ret .none)) ⟨h', g, d, tk', os⟩) :
    codeAny (model prog w) A (.call (.builtin "object.__setattr__") ⟨[.ref x, .str name tk, v], []⟩) R ⟨hp, g, d, t, os⟩ := by
  have away : x ≠ hp.objs.size := Nat.ne_of_lt (Heap.lt_size hx)
  refine xo_way (od := none) X ⟨hx, rfl, rfl, trivial⟩ hcd hm ha ?_
  have look : PySem.W.Looks (model prog w) hp (classData C) cd := PySem.W.looks_clsIn X hcd
  obtain ⟨nm, bs, mro, ns, qn, hd, sn, sb, ab, col, del⟩ := cd
  dsimp only at hh
  subst hh
  unfold storeInOwnDict ownDictForStores
  repeat (first
    | with_reducible refine HandSPX.store_in_new ?_ ?_
    | with_reducible refine wpAny_loadPart_at hx ?_
    | with_reducible refine look.at ?_
    | wp_step)
  · exact ⟨_, #[], _,
      (Heap.get?_update_ne _ _ _ _ away.symm).trans (Heap.get?_push_at rfl rfl),
      rfl, fun e he => absurd he (by simp), fun _ => rfl⟩
  · intro h' tk' hn' hs
    have there : (hp.push { cls := .type "dict", data := .dict #[] }).get? x = some { cls := .ref C, data := .fields fv } :=
      Heap.get?_push_of_some _ hx
    refine hq h' tk' hp.objs.size (fun b o hb ho => ?_) (Nat.le_refl _) away.symm ?_ hn'
    · refine (hs.2 b (Nat.ne_of_lt (Heap.lt_size ho))).trans ?_
      exact (Heap.get?_update_ne _ _ _ _ hb).trans (Heap.get?_push_of_some _ ho)
    · exact (hs.2 x away).trans (Heap.get?_update_self _ there rfl)
/-- a further field -/
theorem xo_old {m0 : Str → Option Value} {nl : List Str} (X : K.In hp) (hx : hp.get? x = some { cls := .ref C, dict := some dx, data := .fields fv })
    (hns : hp.Ns1 dx m0) (hw : Within m0 nl) (hz : nl.length ≤ 1000) (hcd : PySem.W.clsIn K C = some cd) (hm : MroOk cd.mro)
    (hh : cd.hasDict = true) (ha : PySem.W.findIn K (.ref C) name = some none)
    (hq : ∀ h' tk', (∀ b o, b ≠ dx → hp.get? b = some o → h'.get? b = some o) → h'.Ns1 dx (fun y => if y = name then some v else m0 y) →
      R (.ok (.ret .none)) ⟨h', g, d, tk', os⟩) :
    codeAny (model prog w) A (.call (.builtin "object.__setattr__") ⟨[.ref x, .str name tk, v], []⟩) R ⟨hp, g, d, t, os⟩ := by
  obtain ⟨oD, esD, epD, hoD, hdD, _⟩ := hns.count hw
  refine xo_way (od := some oD) X ⟨hx, rfl, rfl, hoD⟩ hcd hm ha ?_
  have look : PySem.W.Looks (model prog w) hp (classData C) cd := PySem.W.looks_clsIn X hcd
  obtain ⟨nm, bs, mro, ns, qn, hd, sn, sb, ab, col, del⟩ := cd
  dsimp only at hh
  subst hh
  unfold storeInOwnDict ownDictForStores
  repeat (first
    | with_reducible refine PySem.OEX.store_in_old hns hw hz ?_
    | with_reducible refine wpAny_loadPart_at hx ?_
    | with_reducible refine look.at ?_
    | wp_step)
  exact fun h' tk' hn' hs => hq h' tk' (fun b o hb ho => (hs.2 b hb).trans ho) hn'
end
/-! stores into a tracked one -/
theorem XC.clsIn {K : PySem.W.Frag} {C : Addr} (T : XC K C) : ∃ cd : ClassData, PySem.W.clsIn K C = some cd ∧ MroOk cd.mro ∧ cd.hasDict = true := by
  obtain ⟨B, newId, initId, bmB, nm, q, N, bs, bm, sn, sub, ab, col, dd, k0, k1, k2, k3, k5, F, hT, hm, hC⟩ := T.cls
  refine ⟨{ name := nm, bases := bs, mro := .ref C :: bm, ns := N, qualname := q, hasDict := true, slotNames := sn, subclasses := sub, abstract := ab, collection := col, hasDel := false }, ?_, hm, rfl⟩
  unfold PySem.W.clsIn
  rw [hC]
section
variable {X : Cx} {pins : List (Addr × Obj)} {σ : L2.St} {H : Hp} {s : Shared} {a C dx : Addr} {f : Str} {y : V} {u : Value} {fs : List (Str × V)} {Q : Unit → Shared → Prop} {E : Value → Shared → Prop} {A : Around}
theorem xst_new (T : XC X.K C) (I : Inv X pins σ H s) (e : H a = some (exo a C none)) (hno : PySem.W.findIn X.K (.ref C) f = some none) (ry : RelV y u)
    (h : ∀ dx s', H dx = none → dx ≠ a → Inv X pins σ (upd (upd H dx (exd dx [(f, y)])) a (exo a C (some dx))) s' → Q () s') : wpAny (model X.prog X.w) A (setAttr (.ref a) f u) Q E s := by
  obtain ⟨cd, hcd, hm, hh⟩ := T.clsIn
  obtain ⟨t1, ho⟩ := exo_at I.hok e
  obtain ⟨hp, g, d, t, os⟩ := s
  refine PySem.W.set_plain I.kIn (od := none) ⟨ho, rfl, rfl, trivial⟩ T.sa ?_
  refine xo_new I.kIn ho hcd hm hh hno fun h' tk' dx k big ne hx hn => ?_
  have free : H dx = none := I.hok.fresh big
  have old : ∀ {b : Addr} {ob : Obj}, hp.get? b = some ob → b ≠ dx := fun q =>
    Nat.ne_of_lt (Nat.lt_of_lt_of_le (Heap.lt_size q) big)
  have other : ∀ {b : Addr}, H b = none → b ≠ a := fun q z => by
    subst z
    rw [e] at q
    cases q
  have here : ∀ {b : Addr} {ob : HO}, H b = some ob → ob ≠ exo a C none → upd (upd H dx (exd dx [(f, y)])) a (exo a C (some dx)) b = some ob := fun q z => by
    rw [upd_ne (by rintro rfl; rw [e] at q; exact z (Option.some.inj q).symm), upd_ne (ne_of_none q free)]
    exact q
  refine h dx _ free ne (I.un (t' := tk') ⟨?_, ?_, ?_, ?_, ?_, ?_, ?_⟩ ?_)
  · exact fun b ob q n _ _ => k b ob (other n) q
  · exact fun b ob q n _ _ => ⟨ob.slots, k b ob (other n) q⟩
  · intro b ob q n _
    rw [upd_ne (other n), upd_ne (old q)]
    exact n
  · intro b ob q _
    by_cases hb : b = a
    · subst hb
      exact ⟨_, hx⟩
    · exact ⟨ob, k b ob hb q⟩
  · exact fun b xs q => here q exo_tup.symm
  · exact fun b ob v q => here q exo_frz.symm
  · exact fun b ps q => ⟨#[], by rw [here q exo_tbl.symm]; simp⟩
  · intro b ob q
    by_cases hb : b = a
    · subst hb
      rw [upd_same] at q
      cases q
      exact exo_ok hx
    · rw [upd_ne hb] at q
      by_cases hd : b = dx
      · subst hd
        rw [upd_same] at q
        cases q
        exact exd_ok hn (relO_put (fs := []) ry fun _ => True.intro)
      · rw [upd_ne hd] at q
        refine (I.hok b ob q).stay (fun c v hc z => k c v ?_ z) (fun c hc => here hc exo_own.symm) (fun c xs hc => here hc exo_tup.symm)
        rcases hc with rfl | hc
        · exact hb
        · exact at_ne e hc exo_own
theorem xst_old (T : XC X.K C) (I : Inv X pins σ H s) (e : H a = some (exo a C (some dx))) (ed : H dx = some (exd dx fs)) (hl : fs.length ≤ 900)
    (hno : PySem.W.findIn X.K (.ref C) f = some none) (ry : RelV y u)
    (h : ∀ s', Inv X pins σ (upd H dx (exd dx ((f, y) :: fs))) s' → Q () s') : wpAny (model X.prog X.w) A (setAttr (.ref a) f u) Q E s := by
  obtain ⟨cd, hcd, hm, hh⟩ := T.clsIn
  obtain ⟨t1, ho⟩ := exo_at I.hok e
  obtain ⟨mA, hns, rel⟩ := exd_at I.hok ed
  have hw := within_of rel
  obtain ⟨hp, g, d, t, os⟩ := s
  obtain ⟨oD, _, _, hoD, _, _⟩ := hns.count hw
  refine PySem.W.set_plain I.kIn (od := some oD) ⟨ho, rfl, rfl, hoD⟩ T.sa ?_
  refine xo_old I.kIn ho hns hw (by rw [List.length_map]; omega) hcd hm hh hno fun h' tk' k hn => ?_
  obtain ⟨o, es, ep, eo, er⟩ := id hn
  exact h _ (I.write (t' := tk') (x := dx) (e := dx) (by rw [ed]; exact True.intro) (.inl rfl) k ⟨o, eo⟩ (exd_ok hn (relO_put ry rel)))
end
/-! ### the rules -/
/-- self.f = e -/
def tXst (K : PySem.W.Frag) (f : Str) (to te : TE) : TS := fun D σ H => te σ H fun y H1 => to σ H1 fun x H2 => ∃ a C : Addr, x = .ref a ∧ XC K C ∧ PySem.W.findIn K (.ref C) f = some none ∧
  ((H2 a = some (exo a C none) ∧ ∀ dx, H2 dx = none → dx ≠ a → D.nx σ (upd (upd H2 dx (exd dx [(f, y)])) a (exo a C (some dx)))) ∨
    ∃ (dx : Addr) (fs : List (Str × V)), H2 a = some (exo a C (some dx)) ∧ H2 dx = some (exd dx fs) ∧ fs.length ≤ 900 ∧ D.nx σ (upd H2 dx (exd dx ((f, y) :: fs))))
/-- C(e, ..) as a value: a new object, then its own __init__ -/
def tXmk (C : Addr) (sp : Sp) (ta : TA) : TE := fun σ H Q => ta σ H fun vs H1 => vs.length ≤ 1000 ∧ ∀ a, H1 a = none → sp (.ref a :: vs) (upd H1 a (exo a C none)) (fun v H2 => v = .non ∧ Q (.ref a) H2) (fun _ _ _ => False)
/-- e.f -/
def tXat (K : PySem.W.Frag) (f : Str) (te : TE) : TE := fun σ H Q => te σ H fun x H1 => ∃ (a C dd : Addr) (fs : List (Str × V)) (v : V), x = .ref a ∧ XC K C ∧ PySem.W.findIn K (.ref C) f = some none ∧
  H1 a = some (exo a C (some dd)) ∧ H1 dd = some (exd dd fs) ∧ fs.lookup f = some v ∧ Q v H1
/-- isinstance(e, c) -/
def rXis (K : PySem.W.Frag) : List V → Hp → VK → Prop := fun xs H Q => ∃ (a C dd : Addr) (fs : List (Str × V)) (c : V) (u : Value) (b : Bool), xs = [.ref a, c] ∧ ClsV c u ∧ XC K C ∧ XG K ∧ H a = some (exo a C (some dd)) ∧ H dd = some (exd dd fs) ∧ PySem.W.kitOne K (.ref C) u = some b ∧ Q (.bl b) H
section
variable {X : Cx} {o e : Expr} {es : List Expr} {to te : TE} {ta : TA} {f x : Str} {p p' pos : Pos} {CX : CXT} {C fI : Addr} {k : Nat} {fd : FuncData} {ps : List Str} {sp : Sp}
theorem ps_xst (ho : PE X o to) (he : PE X e te) (hs : swapsWith e (some (.Attribute o f p')) pos.line X.env = pure false := by rfl) : PS X (.Assign [.Attribute o f p'] e pos) (tXst X.K f to te) := by
  refine ⟨fun pins s σ H D I h => ?_⟩
  refine plainObj_wpAny_Assign_Attribute ?_ hs
  refine thn (he.run pins s σ H _ I h) fun v s1 ⟨y, H1, I1, r1, q1⟩ => ?_
  refine thn (ho.run pins s1 σ H1 _ I1 q1) fun u s2 ⟨x, H2, I2, r2, a, C, ex, T, hno, q⟩ => ?_
  subst ex
  obtain rfl : u = Value.ref a := r2
  rcases q with ⟨ea, q⟩ | ⟨dx, fs, ea, ed, hl, q⟩
  · exact xst_new T I2 ea hno r1 fun dx s' n ne J => ⟨σ, _, J, q dx n ne⟩
  · exact xst_old T I2 ea ed hl hno r1 fun s' J => ⟨σ, _, J, q⟩
/-- where e stands with its dict -/
theorem x_inst {pins : List (Addr × Obj)} {σ : L2.St} {H : Hp} {s : Shared} {a C dd : Addr} {fs : List (Str × V)} (I : Inv X pins σ H s) (ea : H a = some (exo a C (some dd))) (ed : H dd = some (exd dd fs)) :
    ∃ (ox od : Obj) (mA : Str → Option Value), PySem.W.InstAt s.heap a ox C (some od) ∧ (∀ n, PySem.W.lookIn n od = some (mA n)) ∧ ∀ n, RelO (fs.lookup n) (mA n) := by
  obtain ⟨t1, ho⟩ := exo_at I.hok ea
  obtain ⟨mA, hns, rel⟩ := exd_at I.hok ed
  obtain ⟨od, hd, hl⟩ := lookIn_ns hns
  exact ⟨_, od, mA, ⟨ho, rfl, rfl, hd⟩, hl, rel⟩
theorem pe_xat (he : PE X e te) (hb : attributeBase e f X.env (eval e X.env) = eval e X.env := by rfl) : PE X (.Attribute e f pos) (tXat X.K f te) := by
  refine ⟨fun pins s σ H Q I h => ?_⟩
  refine attr_of hb (thn (he.run pins s σ H _ I h) fun u s1 hh => ?_)
  obtain ⟨x, H1, I1, rx, a, C, dd, fs, v, ex, T, hno, ea, ed, l, q⟩ := hh
  subst ex
  obtain rfl : u = Value.ref a := rx
  obtain ⟨ox, od, mA, J, hl, rel⟩ := x_inst I1 ea ed
  obtain ⟨cd, hcd, _, hdd⟩ := T.clsIn
  obtain ⟨u, hu, ru⟩ := RelO.some_of (v := v) (o := mA f) (by rw [← l]; exact rel f)
  refine HandSPX.exc_get I1.kIn J T.ga T.gg T.exC (PySem.W.findObj_own (attr := none) ?_ hno rfl (by rw [hl, hu])) (handed_of ru) ⟨v, H1, I1.tok _, ru, q⟩
  show (PySem.W.clsIn X.K C).any (·.hasDict) = true
  rw [hcd]
  exact hdd
theorem pe_xatC {K : PySem.W.Frag} (hK : X.K = K) (he : PE X e te) (hb : attributeBase e f X.env (eval e X.env) = eval e X.env := by rfl) : PE X (.Attribute e f pos) (tXat K f te) := by
  subst hK
  exact pe_xat he hb
theorem call_xis : CallR X (.builtin "isinstance") (rXis X.K) := by
  intro pins s σ H xs us Q I r h
  obtain ⟨a, C, dd, fs, c, u, b, rfl, k, T, G, ea, ed, e, q⟩ := h
  obtain ⟨u1, u2, rfl, r1, r2⟩ := vals2 r
  have e2 := k.eq r2
  subst e2
  obtain rfl : u1 = Value.ref a := r1
  obtain ⟨ox, od, mA, J, _, _⟩ := x_inst I ea ed
  obtain ⟨cd, hcd, _, _⟩ := T.clsIn
  exact PySem.W.kia_one (PySem.W.kitx_exc (by rw [hcd]; rfl) T.ga T.gg T.exC T.ca G.cn G.ct T.mo) I.kIn J e (fun z => nomatch z) fun tk => ⟨.bl b, H, I.tok tk, rfl, q⟩
theorem run_xmk {pins : List (Addr × Obj)} {σ : L2.St} {H : Hp} {s : Shared} {Q : VK} {us : List Value} {vs : List V} (T : XC X.K C) (iC : PySem.W.findIn X.K (.ref C) "__init__" = some (some (.ref fI))) (tI : PySem.W.typeIn X.K (.ref fI) = some (.type "function"))
    (F1 : FnOk X.prog X.w X.K X.mg X.base CX k fI fd ps sp) (hr : Room (k + 1) X.A) (hb : Binds X.K fd ps []) (hx : Passes CX X (fun _ _ _ => False)) (I : Inv X pins σ H s) (r : Vals vs us) (hz : vs.length ≤ 1000)
    (h : ∀ a, H a = none → sp (.ref a :: vs) (upd H a (exo a C none)) (fun v H2 => v = .non ∧ Q (.ref a) H2) (fun _ _ _ => False)) :
    wpAny (model X.prog X.w) X.A (call (.ref C) us) (EP X pins σ Q) X.xe s := by
  obtain ⟨B, newId, initId, bmB, nm, q, N, bs, bm, sn, sub, ab, col, dd, k0, k1, k2, k3, k5, F, hT, hm, hC⟩ := T.cls
  obtain ⟨hp, g, dr, tk, os⟩ := s
  have hsz : hp.objs.size ≤ hp.objs.size + 1 := Nat.le_succ _
  have hq := h (hp.objs.size + 1) (I.hok.fresh hsz)
  have kk : ∀ b o, hp.get? b = some o → ((hp.push (PySem.W.kdv_tup us)).push (PySem.HandSPX.excO C hp.objs.size)).get? b = some o := fun b o e => Heap.get?_push_of_some _ (Heap.get?_push_of_some _ e)
  have hget : ((hp.push (PySem.W.kdv_tup us)).push (PySem.HandSPX.excO C hp.objs.size)).get? (hp.objs.size + 1) = some (PySem.HandSPX.excO C hp.objs.size) := by heap_get
  have I2 : Inv X pins σ (upd H (hp.objs.size + 1) (exo (hp.objs.size + 1) C none)) ⟨(hp.push (PySem.W.kdv_tup us)).push (PySem.HandSPX.excO C hp.objs.size), g, dr, tk, os⟩ := by
    refine I.laid (t' := tk) ?_ ?_ ?_
    · exact kk
    · exact hsz
    · exact exo_ok hget
  have r2 : Vals (V.ref (hp.objs.size + 1) :: vs) (Value.ref (hp.objs.size + 1) :: us) := .cons rfl r
  have hl : (Value.ref (hp.objs.size + 1) :: us ++ []).length = ps.length := by
    rw [List.append_nil, ← r2.length]
    exact F1.len _ _ _ _ hq
  have hus : us.length ≤ sizeLine := by
    rw [← Paired.length r]
    exact small (by omega)
  refine wpAny_call (PySem.HandSPX.call_own F hT (I.kIn _ _ hC) (PySem.W.looks_findIn I.kIn iC) (fun self => PySem.W.bind_fn I.kIn self tI) hus ?_)
  refine codeAny_mono (F1.run _ X.stack _ _ ⟨Value.ref (hp.objs.size + 1) :: us, []⟩ (Value.ref (hp.objs.size + 1) :: us) _ _ (fun _ _ _ => False) (hr.make C us []) (I2.env0.make C us []) ?_ r2 hq) fun r s' hq' => ?_
  · have := hb _ (Value.ref (hp.objs.size + 1) :: us) I2.kIn hl
    rw [List.append_nil] at this
    exact this
  cases r with
  | error er => exact hx pins σ _ _ er s' I2 hq'
  | ok fl =>
    cases fl with
    | ret u =>
      obtain ⟨v, H2, I3, rv, ev, q3⟩ := I2.after hq'
      subst ev
      refine ⟨rv, V.ref (hp.objs.size + 1), H2, I3, rfl, q3⟩
    | next => exact False.elim hq'
    | brk => exact False.elim hq'
    | cont => exact False.elim hq'
theorem pe_xmk (T : XC X.K C) (iC : PySem.W.findIn X.K (.ref C) "__init__" = some (some (.ref fI))) (tI : PySem.W.typeIn X.K (.ref fI) = some (.type "function"))
    (F1 : FnOk X.prog X.w X.K X.mg X.base CX k fI fd ps sp) (hr : Room (k + 1) X.A) (hb : Binds X.K fd ps []) (hx : Passes CX X (fun _ _ _ => False)) (hg : Gl X x) (hm : X.mg x = some (.ref C)) (ha : PA X (e :: es) ta)
    (hdb : (x == ("__debug__" : Str)) = false := by decide) (he : starEach (e :: es) X.env = (false, eval e X.env) :: starEach es X.env := by rfl) (hpl : (backTo pos (starEach es X.env)).any (·.1) = false := by rfl) :
    PE X (.Call (.Name x p) (e :: es) [] pos) (tXmk C sp ta) := by
  refine ⟨fun pins s σ H Q I h => ?_⟩
  refine wpAny_Call_Name_kw (ld_glob I hg hm ?_ hdb)
  refine PySem.W.callWith_K (h₀ := X.base) I.ok.mod.kin T.kC (thn (ha.run pos pins s σ H _ I h) fun us s1 ⟨vs, H1, I1, r1, hz, q1⟩ => ⟨I1.kIn, ?_⟩) he hpl
  exact run_xmk T iC tI F1 hr hb hx I1 r1 hz q1
theorem pe_xmk0 (T : XC X.K C) (iC : PySem.W.findIn X.K (.ref C) "__init__" = some (some (.ref fI))) (tI : PySem.W.typeIn X.K (.ref fI) = some (.type "function"))
    (F1 : FnOk X.prog X.w X.K X.mg X.base CX k fI fd ps sp) (hr : Room (k + 1) X.A) (hb : Binds X.K fd ps []) (hx : Passes CX X (fun _ _ _ => False)) (hg : Gl X x) (hm : X.mg x = some (.ref C))
    (hdb : (x == ("__debug__" : Str)) = false := by decide) :
    PE X (.Call (.Name x p) [] [] pos) (tXmk C sp tNil) := by
  refine ⟨fun pins s σ H Q I h => ?_⟩
  refine wpAny_Call_Name_kw (ld_glob I hg hm ?_ hdb)
  exact PySem.W.callWith_K0 I.kIn T.kC (run_xmk (us := []) (vs := []) T iC tI F1 hr hb hx I .nil h.1 h.2)
end
/-! ### one Bool for a class's facts -/
def xcB (K : PySem.W.Frag) (bmB : List Value) (newId : String) (C : Addr) : Bool :=
  PySem.W.excInitIn K C bmB newId && (PySem.W.hasDictIn K C && (decide (PySem.W.findIn K (.ref C) "__setattr__" = some (some (.builtin "object.__setattr__"))) && (decide (PySem.W.findIn K (.ref C) "__getattribute__" = some (some (.builtin "BaseException.__getattribute__"))) &&
    (decide (PySem.W.findIn K (.ref C) "__getattr__" = some none) && (decide (PySem.W.findIn K (.ref C) "__class__" = some (some (.builtin "object.__class__"))) && PySem.W.keepIn K (.ref C))))))
theorem xc_of {K : PySem.W.Frag} {C : Addr} {B newId initId : String} {bmB : List Value} (F : ExcBaseFacts B newId initId bmB) (hob : bmB.contains (.type "object") = true) (hbx : bmB.contains (.type "BaseException") = true)
    (hp : ∀ self : Value, PySem.refuseLoop self "__setattr__" bmB = pure ()) (h : xcB K bmB newId C = true) : XC K C := by
  unfold xcB at h
  simp only [Bool.and_eq_true, decide_eq_true_eq] at h
  obtain ⟨h1, h2, h3, h4, h5, h6, h7⟩ := h
  unfold PySem.W.excInitIn at h1
  split at h1
  case h_2 => cases h1
  rename_i dd cd sl ho
  split at h1
  case h_2 => cases h1
  rename_i C' bm k0 k1 k2 k3 n k5 hm hs
  simp only [Bool.and_eq_true, beq_iff_eq, Bool.not_eq_true'] at h1
  obtain ⟨⟨⟨e1, e2⟩, hdel⟩, ht⟩ := h1
  subst e1 e2
  obtain ⟨nm, bs, mro, ns, qn, hd, sn, sub, ab, col, del⟩ := cd
  dsimp only at hm hdel
  subst hm hdel
  obtain rfl : hd = true := by
    have z : (PySem.W.clsIn K C').any (·.hasDict) = true := h2
    unfold PySem.W.clsIn at z
    rw [ho] at z
    exact z
  obtain rfl : sl = #[k0, k1, k2, k3, some (.builtin n), k5] := by
    obtain ⟨l⟩ := sl
    simp only at hs
    rw [hs]
  have hc : ∀ T : String, bm.contains (.type T) = bmB.contains (.type T) := fun T => PySem.W.excTail_contains T _ ht
  have mo : ∀ T : String, bmB.contains (.type T) = true → PySem.W.mroIn K C' (.type T) = some true := fun T hT => by
    unfold PySem.W.mroIn PySem.W.clsIn
    rw [ho, Option.bind_some]
    show (if ((.ref C' : Value) :: bm).isEmpty = true then none else some (((.ref C' : Value) :: bm).contains (.type T))) = _
    rw [if_neg (by show ¬ (false = true); decide), List.contains_cons, hc, hT, Bool.or_true]
  refine ⟨⟨B, n, initId, bmB, nm, qn, ns, bs, bm, sn, sub, ab, col, dd, k0, k1, k2, k3, k5, F, hc, ?_, ho⟩, h3, h4, h5, h6, h7, mo _ hbx, mo _ hob⟩
  refine ⟨rfl, ?_, fun self => ?_⟩
  · rw [List.contains_cons, hc, hob, Bool.or_true]
  · rw [PySem.refuseLoop_ref]
    exact PySem.W.excTail_pass self (hp self) _ ht
theorem xc_ve {K : PySem.W.Frag} {C : Addr} (h : xcB K veM "ValueError.__new__" C = true) : XC K C := xc_of F.excBase_ValueError (by decide +kernel) (by decide +kernel) (fun self => PySem.F.store_ValueError.passes self) h
theorem xc_le {K : PySem.W.Frag} {C : Addr} (h : xcB K leM "LookupError.__new__" C = true) : XC K C := xc_of F.excBase_LookupError (by decide +kernel) (by decide +kernel) (fun self => PySem.F.store_LookupError.passes self) h
theorem xc_ie {K : PySem.W.Frag} {C : Addr} (h : xcB K ieM "IndexError.__new__" C = true) : XC K C := xc_of F.excBase_IndexError (by decide +kernel) (by decide +kernel) (fun self => PySem.F.store_IndexError.passes self) h
end Bl

namespace Bl
open PySem L2
def top (i : Nat) : Stmt := PySem.Challenge.pw_bothlots_k64_errors_and_classes.main.body.getD i (.Pass ⟨0, 0, 0, 0⟩)
abbrev s_box : Stmt := top 28
abbrev s_pull : Stmt := top 29
abbrev s_of : Stmt := top 30
abbrev s_same : Stmt := top 31
abbrev s_field : Stmt := top 32
abbrev s_odd : Stmt := top 33
abbrev s_bases : Stmt := top 34
abbrev s_apart : Stmt := top 35
abbrev s_law : Stmt := top 36
abbrev si_InvalidName : Stmt := inClass (top 3) 0
abbrev si_InvalidColumn : Stmt := inClass (top 4) 0
abbrev si_InvalidSide : Stmt := inClass (top 5) 0
abbrev si_InvalidKey : Stmt := inClass (top 6) 0
abbrev si_InvalidStep : Stmt := inClass (top 7) 0
abbrev si_InvalidTest : Stmt := inClass (top 8) 0
abbrev si_InvalidThing : Stmt := inClass (top 9) 0
abbrev si_InvalidRow : Stmt := inClass (top 10) 0
abbrev si_InvalidSetting : Stmt := inClass (top 11) 0
abbrev si_InvalidWord : Stmt := inClass (top 12) 0
abbrev si_InvalidNumber : Stmt := inClass (top 13) 0
abbrev si_InvalidText : Stmt := inClass (top 14) 0
abbrev si_InvalidCommand : Stmt := inClass (top 15) 0
abbrev si_DuplicateName : Stmt := inClass (top 16) 0
abbrev si_OtherProgram : Stmt := inClass (top 17) 0
abbrev si_SideTaken : Stmt := inClass (top 18) 0
abbrev si_Torn : Stmt := inClass (top 19) 0
abbrev si_TooMany : Stmt := inClass (top 20) 0
abbrev si_Full : Stmt := inClass (top 21) 0
abbrev si_Untold : Stmt := inClass (top 22) 0
abbrev si_UnknownName : Stmt := inClass (top 23) 0
abbrev si_UnknownColumn : Stmt := inClass (top 24) 0
abbrev si_UnknownRow : Stmt := inClass (top 25) 0
abbrev si_NothingLeft : Stmt := inClass (top 26) 0
/-! the classes: codes, fields, what stands above them -/
def rows : List (Str × List Str) := [("InvalidName", ["given"]), ("InvalidColumn", ["at"]), ("InvalidSide", ["at"]), ("InvalidKey", ["given"]), ("InvalidStep", ["at"]), ("InvalidTest", ["given"]), ("InvalidThing", ["given"]), ("InvalidSetting", ["given"]),
  ("InvalidWord", ["given"]), ("InvalidNumber", ["given"]), ("InvalidText", ["line"]), ("InvalidCommand", ["at"]), ("DuplicateName", ["name"]), ("SideTaken", ["taken"]), ("TooMany", ["most"]), ("Full", ["most"]),
  ("InvalidRow", ["table", "at"]), ("Torn", ["one", "other"]), ("OtherProgram", []), ("Untold", []), ("UnknownName", ["name"]), ("UnknownColumn", ["name"]), ("UnknownRow", ["number"]), ("NothingLeft", [])]
def rowAt (i : Nat) : Str × List Str := rows.getD i ("", [])
def allI {α : Type} (f : Nat → α → Bool) : Nat → List α → Bool
  | _, [] => true
  | i, a :: l => f i a && allI f (i + 1) l
theorem allI_get {α : Type} {f : Nat → α → Bool} : ∀ {l : List α} {n i : Nat} {a : α}, allI f n l = true → l[i]? = some a → f (n + i) a = true
  | [], _, _, _, _, e => by cases e
  | x :: l, n, 0, a, h, e => by
    cases e
    exact (Bool.and_eq_true_iff.mp h).1
  | x :: l, n, i + 1, a, h, e => by
    have := allI_get (n := n + 1) (i := i) (Bool.and_eq_true_iff.mp h).2 e
    rwa [show n + (i + 1) = n + 1 + i by omega]
def k24 (K : PySem.W.Frag) (cs : List Addr) : Bool := allI (fun i C => allI (fun j D => decide (PySem.W.kitOne K (.ref C) (.ref D) = some (decide (j = i)))) 0 cs) 0 cs
def bsL (i : Nat) : List Bool := if i < 20 then [true, true, false, false, false] else if i < 23 then [false, false, true, true, false] else [false, false, false, true, true]
def b24 (K : PySem.W.Frag) (cs : List Addr) (L M : Addr) : Bool := allI (fun i C => decide (([.ref L, .type "ValueError", .ref M, .type "LookupError", .type "IndexError"] : List Value).map (PySem.W.kitOne K (.ref C)) = (bsL i).map some)) 0 cs
def n24 (K : PySem.W.Frag) (cs : List Addr) : Bool := allI (fun i C => decide (PySem.W.findIn K (.ref C) "code" = some none) && (rowAt i).2.all fun f => decide (PySem.W.findIn K (.ref C) f = some none)) 0 cs
structure NoF (K : PySem.W.Frag) (C : Addr) (r : Str × List Str) : Prop where
  code : PySem.W.findIn K (.ref C) "code" = some none
  field : ∀ f ∈ r.2, PySem.W.findIn K (.ref C) f = some none
structure Top (K : PySem.W.Frag) (mg : Str → Option Value) : Type where
  a_box : Addr
  d_box : FuncData
  F_box : Fun K "_law_box" "_law_box" s_box a_box d_box
  m_box : mg "_law_box" = some (.ref a_box)
  b_box : Binds K d_box ["_law_script"] []
  a_pull : Addr
  d_pull : FuncData
  F_pull : Fun K "_law_pull" "_law_pull" s_pull a_pull d_pull
  m_pull : mg "_law_pull" = some (.ref a_pull)
  b_pull : Binds K d_pull ["_law_box_here", "_law_many"] []
  a_of : Addr
  d_of : FuncData
  F_of : Fun K "_law_of" "_law_of" s_of a_of d_of
  m_of : mg "_law_of" = some (.ref a_of)
  b_of : Binds K d_of ["_law_box_here", "_law_some"] []
  a_same : Addr
  d_same : FuncData
  F_same : Fun K "_law_same" "_law_same" s_same a_same d_same
  m_same : mg "_law_same" = some (.ref a_same)
  b_same : Binds K d_same ["_law_found", "_law_due"] []
  a_field : Addr
  d_field : FuncData
  F_field : Fun K "_law_field" "_law_field" s_field a_field d_field
  m_field : mg "_law_field" = some (.ref a_field)
  b_field : Binds K d_field ["_law_e"] []
  a_odd : Addr
  d_odd : FuncData
  F_odd : Fun K "_law_odd" "_law_odd" s_odd a_odd d_odd
  m_odd : mg "_law_odd" = some (.ref a_odd)
  b_odd : Binds K d_odd ["_law_box_here", "_law_more"] []
  a_bases : Addr
  d_bases : FuncData
  F_bases : Fun K "_law_bases" "_law_bases" s_bases a_bases d_bases
  m_bases : mg "_law_bases" = some (.ref a_bases)
  b_bases : Binds K d_bases ["_law_e"] []
  a_apart : Addr
  d_apart : FuncData
  F_apart : Fun K "_law_apart" "_law_apart" s_apart a_apart d_apart
  m_apart : mg "_law_apart" = some (.ref a_apart)
  b_apart : Binds K d_apart ["_law_lots"] []
  a_law : Addr
  d_law : FuncData
  F_law : Fun K "law" "law" s_law a_law d_law
  m_law : mg "law" = some (.ref a_law)
  b_law : Binds K d_law ["_law_script"] []
  C_LotsError : Addr
  mc_LotsError : mg "LotsError" = some (.ref C_LotsError)
  C_Missing : Addr
  mc_Missing : mg "Missing" = some (.ref C_Missing)
  C_InvalidName : Addr
  mc_InvalidName : mg "InvalidName" = some (.ref C_InvalidName)
  x_InvalidName : XC K C_InvalidName
  f_InvalidName : Addr
  di_InvalidName : FuncData
  iC_InvalidName : PySem.W.findIn K (.ref C_InvalidName) "__init__" = some (some (.ref f_InvalidName))
  tI_InvalidName : PySem.W.typeIn K (.ref f_InvalidName) = some (.type "function")
  Fi_InvalidName : Fun K "__init__" "InvalidName.__init__" si_InvalidName f_InvalidName di_InvalidName
  bi_InvalidName : Binds K di_InvalidName ["self", "given"] []
  C_InvalidColumn : Addr
  mc_InvalidColumn : mg "InvalidColumn" = some (.ref C_InvalidColumn)
  x_InvalidColumn : XC K C_InvalidColumn
  f_InvalidColumn : Addr
  di_InvalidColumn : FuncData
  iC_InvalidColumn : PySem.W.findIn K (.ref C_InvalidColumn) "__init__" = some (some (.ref f_InvalidColumn))
  tI_InvalidColumn : PySem.W.typeIn K (.ref f_InvalidColumn) = some (.type "function")
  Fi_InvalidColumn : Fun K "__init__" "InvalidColumn.__init__" si_InvalidColumn f_InvalidColumn di_InvalidColumn
  bi_InvalidColumn : Binds K di_InvalidColumn ["self", "at"] []
  C_InvalidSide : Addr
  mc_InvalidSide : mg "InvalidSide" = some (.ref C_InvalidSide)
  x_InvalidSide : XC K C_InvalidSide
  f_InvalidSide : Addr
  di_InvalidSide : FuncData
  iC_InvalidSide : PySem.W.findIn K (.ref C_InvalidSide) "__init__" = some (some (.ref f_InvalidSide))
  tI_InvalidSide : PySem.W.typeIn K (.ref f_InvalidSide) = some (.type "function")
  Fi_InvalidSide : Fun K "__init__" "InvalidSide.__init__" si_InvalidSide f_InvalidSide di_InvalidSide
  bi_InvalidSide : Binds K di_InvalidSide ["self", "at"] []
  C_InvalidKey : Addr
  mc_InvalidKey : mg "InvalidKey" = some (.ref C_InvalidKey)
  x_InvalidKey : XC K C_InvalidKey
  f_InvalidKey : Addr
  di_InvalidKey : FuncData
  iC_InvalidKey : PySem.W.findIn K (.ref C_InvalidKey) "__init__" = some (some (.ref f_InvalidKey))
  tI_InvalidKey : PySem.W.typeIn K (.ref f_InvalidKey) = some (.type "function")
  Fi_InvalidKey : Fun K "__init__" "InvalidKey.__init__" si_InvalidKey f_InvalidKey di_InvalidKey
  bi_InvalidKey : Binds K di_InvalidKey ["self", "given"] []
  C_InvalidStep : Addr
  mc_InvalidStep : mg "InvalidStep" = some (.ref C_InvalidStep)
  x_InvalidStep : XC K C_InvalidStep
  f_InvalidStep : Addr
  di_InvalidStep : FuncData
  iC_InvalidStep : PySem.W.findIn K (.ref C_InvalidStep) "__init__" = some (some (.ref f_InvalidStep))
  tI_InvalidStep : PySem.W.typeIn K (.ref f_InvalidStep) = some (.type "function")
  Fi_InvalidStep : Fun K "__init__" "InvalidStep.__init__" si_InvalidStep f_InvalidStep di_InvalidStep
  bi_InvalidStep : Binds K di_InvalidStep ["self", "at"] []
  C_InvalidTest : Addr
  mc_InvalidTest : mg "InvalidTest" = some (.ref C_InvalidTest)
  x_InvalidTest : XC K C_InvalidTest
  f_InvalidTest : Addr
  di_InvalidTest : FuncData
  iC_InvalidTest : PySem.W.findIn K (.ref C_InvalidTest) "__init__" = some (some (.ref f_InvalidTest))
  tI_InvalidTest : PySem.W.typeIn K (.ref f_InvalidTest) = some (.type "function")
  Fi_InvalidTest : Fun K "__init__" "InvalidTest.__init__" si_InvalidTest f_InvalidTest di_InvalidTest
  bi_InvalidTest : Binds K di_InvalidTest ["self", "given"] []
  C_InvalidThing : Addr
  mc_InvalidThing : mg "InvalidThing" = some (.ref C_InvalidThing)
  x_InvalidThing : XC K C_InvalidThing
  f_InvalidThing : Addr
  di_InvalidThing : FuncData
  iC_InvalidThing : PySem.W.findIn K (.ref C_InvalidThing) "__init__" = some (some (.ref f_InvalidThing))
  tI_InvalidThing : PySem.W.typeIn K (.ref f_InvalidThing) = some (.type "function")
  Fi_InvalidThing : Fun K "__init__" "InvalidThing.__init__" si_InvalidThing f_InvalidThing di_InvalidThing
  bi_InvalidThing : Binds K di_InvalidThing ["self", "given"] []
  C_InvalidRow : Addr
  mc_InvalidRow : mg "InvalidRow" = some (.ref C_InvalidRow)
  x_InvalidRow : XC K C_InvalidRow
  f_InvalidRow : Addr
  di_InvalidRow : FuncData
  iC_InvalidRow : PySem.W.findIn K (.ref C_InvalidRow) "__init__" = some (some (.ref f_InvalidRow))
  tI_InvalidRow : PySem.W.typeIn K (.ref f_InvalidRow) = some (.type "function")
  Fi_InvalidRow : Fun K "__init__" "InvalidRow.__init__" si_InvalidRow f_InvalidRow di_InvalidRow
  bi_InvalidRow : Binds K di_InvalidRow ["self", "table", "at"] []
  C_InvalidSetting : Addr
  mc_InvalidSetting : mg "InvalidSetting" = some (.ref C_InvalidSetting)
  x_InvalidSetting : XC K C_InvalidSetting
  f_InvalidSetting : Addr
  di_InvalidSetting : FuncData
  iC_InvalidSetting : PySem.W.findIn K (.ref C_InvalidSetting) "__init__" = some (some (.ref f_InvalidSetting))
  tI_InvalidSetting : PySem.W.typeIn K (.ref f_InvalidSetting) = some (.type "function")
  Fi_InvalidSetting : Fun K "__init__" "InvalidSetting.__init__" si_InvalidSetting f_InvalidSetting di_InvalidSetting
  bi_InvalidSetting : Binds K di_InvalidSetting ["self", "given"] []
  C_InvalidWord : Addr
  mc_InvalidWord : mg "InvalidWord" = some (.ref C_InvalidWord)
  x_InvalidWord : XC K C_InvalidWord
  f_InvalidWord : Addr
  di_InvalidWord : FuncData
  iC_InvalidWord : PySem.W.findIn K (.ref C_InvalidWord) "__init__" = some (some (.ref f_InvalidWord))
  tI_InvalidWord : PySem.W.typeIn K (.ref f_InvalidWord) = some (.type "function")
  Fi_InvalidWord : Fun K "__init__" "InvalidWord.__init__" si_InvalidWord f_InvalidWord di_InvalidWord
  bi_InvalidWord : Binds K di_InvalidWord ["self", "given"] []
  C_InvalidNumber : Addr
  mc_InvalidNumber : mg "InvalidNumber" = some (.ref C_InvalidNumber)
  x_InvalidNumber : XC K C_InvalidNumber
  f_InvalidNumber : Addr
  di_InvalidNumber : FuncData
  iC_InvalidNumber : PySem.W.findIn K (.ref C_InvalidNumber) "__init__" = some (some (.ref f_InvalidNumber))
  tI_InvalidNumber : PySem.W.typeIn K (.ref f_InvalidNumber) = some (.type "function")
  Fi_InvalidNumber : Fun K "__init__" "InvalidNumber.__init__" si_InvalidNumber f_InvalidNumber di_InvalidNumber
  bi_InvalidNumber : Binds K di_InvalidNumber ["self", "given"] []
  C_InvalidText : Addr
  mc_InvalidText : mg "InvalidText" = some (.ref C_InvalidText)
  x_InvalidText : XC K C_InvalidText
  f_InvalidText : Addr
  di_InvalidText : FuncData
  iC_InvalidText : PySem.W.findIn K (.ref C_InvalidText) "__init__" = some (some (.ref f_InvalidText))
  tI_InvalidText : PySem.W.typeIn K (.ref f_InvalidText) = some (.type "function")
  Fi_InvalidText : Fun K "__init__" "InvalidText.__init__" si_InvalidText f_InvalidText di_InvalidText
  bi_InvalidText : Binds K di_InvalidText ["self", "line"] []
  C_InvalidCommand : Addr
  mc_InvalidCommand : mg "InvalidCommand" = some (.ref C_InvalidCommand)
  x_InvalidCommand : XC K C_InvalidCommand
  f_InvalidCommand : Addr
  di_InvalidCommand : FuncData
  iC_InvalidCommand : PySem.W.findIn K (.ref C_InvalidCommand) "__init__" = some (some (.ref f_InvalidCommand))
  tI_InvalidCommand : PySem.W.typeIn K (.ref f_InvalidCommand) = some (.type "function")
  Fi_InvalidCommand : Fun K "__init__" "InvalidCommand.__init__" si_InvalidCommand f_InvalidCommand di_InvalidCommand
  bi_InvalidCommand : Binds K di_InvalidCommand ["self", "at"] []
  C_DuplicateName : Addr
  mc_DuplicateName : mg "DuplicateName" = some (.ref C_DuplicateName)
  x_DuplicateName : XC K C_DuplicateName
  f_DuplicateName : Addr
  di_DuplicateName : FuncData
  iC_DuplicateName : PySem.W.findIn K (.ref C_DuplicateName) "__init__" = some (some (.ref f_DuplicateName))
  tI_DuplicateName : PySem.W.typeIn K (.ref f_DuplicateName) = some (.type "function")
  Fi_DuplicateName : Fun K "__init__" "DuplicateName.__init__" si_DuplicateName f_DuplicateName di_DuplicateName
  bi_DuplicateName : Binds K di_DuplicateName ["self", "name"] []
  C_OtherProgram : Addr
  mc_OtherProgram : mg "OtherProgram" = some (.ref C_OtherProgram)
  x_OtherProgram : XC K C_OtherProgram
  f_OtherProgram : Addr
  di_OtherProgram : FuncData
  iC_OtherProgram : PySem.W.findIn K (.ref C_OtherProgram) "__init__" = some (some (.ref f_OtherProgram))
  tI_OtherProgram : PySem.W.typeIn K (.ref f_OtherProgram) = some (.type "function")
  Fi_OtherProgram : Fun K "__init__" "OtherProgram.__init__" si_OtherProgram f_OtherProgram di_OtherProgram
  bi_OtherProgram : Binds K di_OtherProgram ["self"] []
  C_SideTaken : Addr
  mc_SideTaken : mg "SideTaken" = some (.ref C_SideTaken)
  x_SideTaken : XC K C_SideTaken
  f_SideTaken : Addr
  di_SideTaken : FuncData
  iC_SideTaken : PySem.W.findIn K (.ref C_SideTaken) "__init__" = some (some (.ref f_SideTaken))
  tI_SideTaken : PySem.W.typeIn K (.ref f_SideTaken) = some (.type "function")
  Fi_SideTaken : Fun K "__init__" "SideTaken.__init__" si_SideTaken f_SideTaken di_SideTaken
  bi_SideTaken : Binds K di_SideTaken ["self", "taken"] []
  C_Torn : Addr
  mc_Torn : mg "Torn" = some (.ref C_Torn)
  x_Torn : XC K C_Torn
  f_Torn : Addr
  di_Torn : FuncData
  iC_Torn : PySem.W.findIn K (.ref C_Torn) "__init__" = some (some (.ref f_Torn))
  tI_Torn : PySem.W.typeIn K (.ref f_Torn) = some (.type "function")
  Fi_Torn : Fun K "__init__" "Torn.__init__" si_Torn f_Torn di_Torn
  bi_Torn : Binds K di_Torn ["self", "one", "other"] []
  C_TooMany : Addr
  mc_TooMany : mg "TooMany" = some (.ref C_TooMany)
  x_TooMany : XC K C_TooMany
  f_TooMany : Addr
  di_TooMany : FuncData
  iC_TooMany : PySem.W.findIn K (.ref C_TooMany) "__init__" = some (some (.ref f_TooMany))
  tI_TooMany : PySem.W.typeIn K (.ref f_TooMany) = some (.type "function")
  Fi_TooMany : Fun K "__init__" "TooMany.__init__" si_TooMany f_TooMany di_TooMany
  bi_TooMany : Binds K di_TooMany ["self", "most"] []
  C_Full : Addr
  mc_Full : mg "Full" = some (.ref C_Full)
  x_Full : XC K C_Full
  f_Full : Addr
  di_Full : FuncData
  iC_Full : PySem.W.findIn K (.ref C_Full) "__init__" = some (some (.ref f_Full))
  tI_Full : PySem.W.typeIn K (.ref f_Full) = some (.type "function")
  Fi_Full : Fun K "__init__" "Full.__init__" si_Full f_Full di_Full
  bi_Full : Binds K di_Full ["self", "most"] []
  C_Untold : Addr
  mc_Untold : mg "Untold" = some (.ref C_Untold)
  x_Untold : XC K C_Untold
  f_Untold : Addr
  di_Untold : FuncData
  iC_Untold : PySem.W.findIn K (.ref C_Untold) "__init__" = some (some (.ref f_Untold))
  tI_Untold : PySem.W.typeIn K (.ref f_Untold) = some (.type "function")
  Fi_Untold : Fun K "__init__" "Untold.__init__" si_Untold f_Untold di_Untold
  bi_Untold : Binds K di_Untold ["self"] []
  C_UnknownName : Addr
  mc_UnknownName : mg "UnknownName" = some (.ref C_UnknownName)
  x_UnknownName : XC K C_UnknownName
  f_UnknownName : Addr
  di_UnknownName : FuncData
  iC_UnknownName : PySem.W.findIn K (.ref C_UnknownName) "__init__" = some (some (.ref f_UnknownName))
  tI_UnknownName : PySem.W.typeIn K (.ref f_UnknownName) = some (.type "function")
  Fi_UnknownName : Fun K "__init__" "UnknownName.__init__" si_UnknownName f_UnknownName di_UnknownName
  bi_UnknownName : Binds K di_UnknownName ["self", "name"] []
  C_UnknownColumn : Addr
  mc_UnknownColumn : mg "UnknownColumn" = some (.ref C_UnknownColumn)
  x_UnknownColumn : XC K C_UnknownColumn
  f_UnknownColumn : Addr
  di_UnknownColumn : FuncData
  iC_UnknownColumn : PySem.W.findIn K (.ref C_UnknownColumn) "__init__" = some (some (.ref f_UnknownColumn))
  tI_UnknownColumn : PySem.W.typeIn K (.ref f_UnknownColumn) = some (.type "function")
  Fi_UnknownColumn : Fun K "__init__" "UnknownColumn.__init__" si_UnknownColumn f_UnknownColumn di_UnknownColumn
  bi_UnknownColumn : Binds K di_UnknownColumn ["self", "name"] []
  C_UnknownRow : Addr
  mc_UnknownRow : mg "UnknownRow" = some (.ref C_UnknownRow)
  x_UnknownRow : XC K C_UnknownRow
  f_UnknownRow : Addr
  di_UnknownRow : FuncData
  iC_UnknownRow : PySem.W.findIn K (.ref C_UnknownRow) "__init__" = some (some (.ref f_UnknownRow))
  tI_UnknownRow : PySem.W.typeIn K (.ref f_UnknownRow) = some (.type "function")
  Fi_UnknownRow : Fun K "__init__" "UnknownRow.__init__" si_UnknownRow f_UnknownRow di_UnknownRow
  bi_UnknownRow : Binds K di_UnknownRow ["self", "number"] []
  C_NothingLeft : Addr
  mc_NothingLeft : mg "NothingLeft" = some (.ref C_NothingLeft)
  x_NothingLeft : XC K C_NothingLeft
  f_NothingLeft : Addr
  di_NothingLeft : FuncData
  iC_NothingLeft : PySem.W.findIn K (.ref C_NothingLeft) "__init__" = some (some (.ref f_NothingLeft))
  tI_NothingLeft : PySem.W.typeIn K (.ref f_NothingLeft) = some (.type "function")
  Fi_NothingLeft : Fun K "__init__" "NothingLeft.__init__" si_NothingLeft f_NothingLeft di_NothingLeft
  bi_NothingLeft : Binds K di_NothingLeft ["self"] []
  hG : XG K
  hK : k24 K [C_InvalidName, C_InvalidColumn, C_InvalidSide, C_InvalidKey, C_InvalidStep, C_InvalidTest, C_InvalidThing, C_InvalidSetting, C_InvalidWord, C_InvalidNumber, C_InvalidText, C_InvalidCommand, C_DuplicateName, C_SideTaken, C_TooMany, C_Full, C_InvalidRow, C_Torn, C_OtherProgram, C_Untold, C_UnknownName, C_UnknownColumn, C_UnknownRow, C_NothingLeft] = true
  hB : b24 K [C_InvalidName, C_InvalidColumn, C_InvalidSide, C_InvalidKey, C_InvalidStep, C_InvalidTest, C_InvalidThing, C_InvalidSetting, C_InvalidWord, C_InvalidNumber, C_InvalidText, C_InvalidCommand, C_DuplicateName, C_SideTaken, C_TooMany, C_Full, C_InvalidRow, C_Torn, C_OtherProgram, C_Untold, C_UnknownName, C_UnknownColumn, C_UnknownRow, C_NothingLeft] C_LotsError C_Missing = true
  hN : n24 K [C_InvalidName, C_InvalidColumn, C_InvalidSide, C_InvalidKey, C_InvalidStep, C_InvalidTest, C_InvalidThing, C_InvalidSetting, C_InvalidWord, C_InvalidNumber, C_InvalidText, C_InvalidCommand, C_DuplicateName, C_SideTaken, C_TooMany, C_Full, C_InvalidRow, C_Torn, C_OtherProgram, C_Untold, C_UnknownName, C_UnknownColumn, C_UnknownRow, C_NothingLeft] = true
  z_IndexError : mg "IndexError" = none
  z_LookupError : mg "LookupError" = none
  z_ValueError : mg "ValueError" = none
  z_abs : mg "abs" = none
  z_all : mg "all" = none
  z_bool : mg "bool" = none
  z_int : mg "int" = none
  z_isinstance : mg "isinstance" = none
  z_len : mg "len" = none
  z_list : mg "list" = none
  z_range : mg "range" = none
  z_str : mg "str" = none
  z_tuple : mg "tuple" = none
  z_zip : mg "zip" = none
/-! an error that stands -/
def mkF (r : Str × List Str) (ys : List V) : List (Str × V) := ("code", .str r.1) :: (r.2.zip ys).reverse
structure InitD (H H' : Hp) (a C dx : Addr) (fs : List (Str × V)) : Prop where
  ne : dx ≠ a
  fr : H dx = none
  oa : H' a = some (exo a C (some dx))
  od : H' dx = some (exd dx fs)
  el : ∀ b, b ≠ a → b ≠ dx → H' b = H b
def spI (K : PySem.W.Frag) (C : Addr) (r : Str × List Str) : Sp := fun vs H Q _ => ∃ (a : Addr) (ys : List V), vs = .ref a :: ys ∧ ys.length = r.2.length ∧ H a = some (exo a C none) ∧ ∀ (dx : Addr) (H' : Hp), InitD H H' a C dx (mkF r ys) → Q .non H'
section
variable {K : PySem.W.Frag} {C a : Addr} {cn f g : Str} {H : Hp} {Q : VK} {ys : List V} {n : Str}
theorem init0 (T : XC K C) (N : NoF K C (cn, [])) (hl : ys.length = 0) (ea : H a = some (exo a C none)) (k : ∀ (dx : Addr) (H' : Hp), InitD H H' a C dx (mkF (cn, []) ys) → Q .non H') :
    (tXst K "code" (tVar 0) (tC (.str cn))) { nx := fun _ H' => Q .non H', rt := Q } [some (.ref a)] H := by
  obtain rfl := List.eq_nil_of_length_eq_zero hl
  refine ⟨_, rfl, a, C, rfl, T, N.code, .inl ⟨ea, fun dx hd ne => k dx _ ⟨ne, hd, upd_same, ?_, fun b b1 b2 => ?_⟩⟩⟩
  · rw [upd_ne ne, upd_same]
    rfl
  · rw [upd_ne b1, upd_ne b2]
theorem init1 {y : V} (T : XC K C) (N : NoF K C (cn, [f])) (ea : H a = some (exo a C none)) (k : ∀ (dx : Addr) (H' : Hp), InitD H H' a C dx (mkF (cn, [f]) [y]) → Q .non H') :
    (tSeq (tXst K f (tVar 0) (tVar 1)) (tXst K "code" (tVar 0) (tC (.str cn)))) { nx := fun _ H' => Q .non H', rt := Q } [some (.ref a), some y] H := by
  refine ⟨_, rfl, _, rfl, a, C, rfl, T, N.field f List.mem_cons_self, .inl ⟨ea, fun dx hd ne => ?_⟩⟩
  refine ⟨_, rfl, a, C, rfl, T, N.code, .inr ⟨dx, [(f, y)], upd_same, ?_, (by show 1 ≤ 900; decide), k dx _ ⟨ne, hd, ?_, upd_same, fun b b1 b2 => ?_⟩⟩⟩
  · rw [upd_ne ne, upd_same]
  · rw [upd_ne ne.symm, upd_same]
  · rw [upd_ne b2, upd_ne b1, upd_ne b2]
theorem init2 {y z : V} (T : XC K C) (N : NoF K C (cn, [f, g])) (ea : H a = some (exo a C none)) (k : ∀ (dx : Addr) (H' : Hp), InitD H H' a C dx (mkF (cn, [f, g]) [y, z]) → Q .non H') :
    (tSeq (tXst K f (tVar 0) (tVar 1)) (tSeq (tXst K g (tVar 0) (tVar 2)) (tXst K "code" (tVar 0) (tC (.str cn))))) { nx := fun _ H' => Q .non H', rt := Q } [some (.ref a), some y, some z] H := by
  refine ⟨_, rfl, _, rfl, a, C, rfl, T, N.field f List.mem_cons_self, .inl ⟨ea, fun dx hd ne => ?_⟩⟩
  refine ⟨_, rfl, _, rfl, a, C, rfl, T, N.field g (List.mem_cons_of_mem _ List.mem_cons_self), .inr ⟨dx, [(f, y)], upd_same, ?_, (by show 1 ≤ 900; decide), ?_⟩⟩
  · rw [upd_ne ne, upd_same]
  refine ⟨_, rfl, a, C, rfl, T, N.code, .inr ⟨dx, [(g, z), (f, y)], ?_, upd_same, (by show 2 ≤ 900; decide), k dx _ ⟨ne, hd, ?_, upd_same, fun b b1 b2 => ?_⟩⟩⟩
  · rw [upd_ne ne.symm, upd_same]
  · rw [upd_ne ne.symm, upd_ne ne.symm, upd_same]
  · rw [upd_ne b2, upd_ne b2, upd_ne b1, upd_ne b2]
theorem ini0 (T : XC K C) (N : NoF K C (cn, [])) (hl : ys.length = 0) (ea : H a = some (exo a C none)) (k : ∀ (dx : Addr) (H' : Hp), InitD H H' a C dx (mkF (cn, []) ys) → Q .non H') :
    (tXst K "code" (tVar 0) (tC (.str cn))) { nx := fun _ H' => Q .non H', rt := Q } (start ["self"] (.ref a :: ys)) H := by
  obtain rfl := List.eq_nil_of_length_eq_zero hl
  exact init0 T N rfl ea k
theorem ini1 (T : XC K C) (N : NoF K C (cn, [f])) (hl : ys.length = 1) (ea : H a = some (exo a C none)) (k : ∀ (dx : Addr) (H' : Hp), InitD H H' a C dx (mkF (cn, [f]) ys) → Q .non H') :
    (tSeq (tXst K f (tVar 0) (tVar 1)) (tXst K "code" (tVar 0) (tC (.str cn)))) { nx := fun _ H' => Q .non H', rt := Q } (start ["self", f] (.ref a :: ys)) H := by
  match ys, hl with
  | [y], _ => exact init1 T N ea k
theorem ini2 (T : XC K C) (N : NoF K C (cn, [f, g])) (hl : ys.length = 2) (ea : H a = some (exo a C none)) (k : ∀ (dx : Addr) (H' : Hp), InitD H H' a C dx (mkF (cn, [f, g]) ys) → Q .non H') :
    (tSeq (tXst K f (tVar 0) (tVar 1)) (tSeq (tXst K g (tVar 0) (tVar 2)) (tXst K "code" (tVar 0) (tC (.str cn))))) { nx := fun _ H' => Q .non H', rt := Q } (start ["self", f, g] (.ref a :: ys)) H := by
  match ys, hl with
  | [y, z], _ => exact init2 T N ea k
end
section
variable {P : Program} {w : World} {K : PySem.W.Frag} {mg : Str → Option Value} {base : Heap}
def Top.cl (T : Top K mg) : List Addr := [T.C_InvalidName, T.C_InvalidColumn, T.C_InvalidSide, T.C_InvalidKey, T.C_InvalidStep, T.C_InvalidTest, T.C_InvalidThing, T.C_InvalidSetting, T.C_InvalidWord, T.C_InvalidNumber, T.C_InvalidText, T.C_InvalidCommand,
  T.C_DuplicateName, T.C_SideTaken, T.C_TooMany, T.C_Full, T.C_InvalidRow, T.C_Torn, T.C_OtherProgram, T.C_Untold, T.C_UnknownName, T.C_UnknownColumn, T.C_UnknownRow, T.C_NothingLeft]
def AllX (K : PySem.W.Frag) : List Addr → Prop
  | [] => True
  | C :: l => XC K C ∧ AllX K l
theorem AllX.get {K : PySem.W.Frag} : ∀ {l : List Addr} {i : Nat} {C : Addr}, AllX K l → l[i]? = some C → XC K C
  | [], _, _, _, e => by cases e
  | x :: l, 0, C, h, e => by
    cases e
    exact h.1
  | x :: l, i + 1, C, h, e => AllX.get (l := l) (i := i) h.2 e
theorem Top.xs (T : Top K mg) : AllX K T.cl := ⟨T.x_InvalidName, T.x_InvalidColumn, T.x_InvalidSide, T.x_InvalidKey, T.x_InvalidStep, T.x_InvalidTest, T.x_InvalidThing, T.x_InvalidSetting, T.x_InvalidWord, T.x_InvalidNumber, T.x_InvalidText, T.x_InvalidCommand,
  T.x_DuplicateName, T.x_SideTaken, T.x_TooMany, T.x_Full, T.x_InvalidRow, T.x_Torn, T.x_OtherProgram, T.x_Untold, T.x_UnknownName, T.x_UnknownColumn, T.x_UnknownRow, T.x_NothingLeft, True.intro⟩
theorem Top.no (T : Top K mg) {i : Nat} {C : Addr} (h : T.cl[i]? = some C) : NoF K C (rowAt i) := by
  have := allI_get T.hN h
  rw [Nat.zero_add] at this
  obtain ⟨h1, h2⟩ := Bool.and_eq_true_iff.mp this
  exact ⟨of_decide_eq_true h1, fun f hf => of_decide_eq_true (List.all_eq_true.mp h2 f hf)⟩
theorem Top.kit (T : Top K mg) {i j : Nat} {C D : Addr} (h : T.cl[i]? = some C) (k : T.cl[j]? = some D) : PySem.W.kitOne K (.ref C) (.ref D) = some (decide (j = i)) := by
  have h1 := allI_get T.hK h
  have := of_decide_eq_true (allI_get h1 k)
  rw [Nat.zero_add, Nat.zero_add] at this
  exact this
theorem Top.bas (T : Top K mg) {i : Nat} {C : Addr} (h : T.cl[i]? = some C) : ([.ref T.C_LotsError, .type "ValueError", .ref T.C_Missing, .type "LookupError", .type "IndexError"] : List Value).map (PySem.W.kitOne K (.ref C)) = (bsL i).map some := by
  have := of_decide_eq_true (allI_get T.hB h)
  rw [Nat.zero_add] at this
  exact this
/-- x is an error of the class i, made of ys -/
structure ErrAt (T : Top K mg) (H : Hp) (i : Nat) (x : V) (ys : List V) : Prop where
  ex : ∃ (C a dx : Addr), T.cl[i]? = some C ∧ x = .ref a ∧ H a = some (exo a C (some dx)) ∧ H dx = some (exd dx (mkF (rowAt i) ys)) ∧ ys.length = (rowAt i).2.length
theorem ErrAt.mono {T : Top K mg} {H H' : Hp} {i : Nat} {x : V} {ys : List V} (h : ErrAt T H i x ys) (e : Same H H') : ErrAt T H' i x ys := by
  obtain ⟨C, a, dx, h1, h2, h3, h4, h5⟩ := h.ex
  exact ⟨C, a, dx, h1, h2, e _ _ h3, e _ _ h4, h5⟩
theorem made {T : Top K mg} {H H' : Hp} {i : Nat} {C a dx : Addr} {ys : List V} (hC : T.cl[i]? = some C) (hl : ys.length = (rowAt i).2.length) (ha : H a = none) (D : InitD (upd H a (exo a C none)) H' a C dx (mkF (rowAt i) ys)) :
    Same H H' ∧ ErrAt T H' i (.ref a) ys := by
  refine ⟨fun b o hb => ?_, C, a, dx, hC, rfl, D.oa, D.od, hl⟩
  have b1 : b ≠ a := ne_of_none hb ha
  have hd : H dx = none := by
    have := D.fr
    rwa [upd_ne D.ne] at this
  rw [D.el b b1 (ne_of_none hb hd), upd_ne b1]
  exact hb
theorem sci_InvalidName : FnScope ["self", "given"] ["self", "given"] (defScope si_InvalidName) := ⟨rfl, rfl, rfl, by decide +kernel, rfl, by decide +kernel, by decide +kernel⟩
theorem oki_InvalidName (T : Top K mg) : FnOk P w K mg base CX0 1 T.f_InvalidName T.di_InvalidName ["self", "given"] (spI K T.C_InvalidName ("InvalidName", ["given"])) := by
  refine T.Fi_InvalidName.ok sci_InvalidName (fun vs H Q E h => ?_) (fun cdv A outer s H vs Q E hr h => ?_)
  · obtain ⟨a, ys, rfl, hl, _⟩ := h
    rw [List.length_cons, hl]
    rfl
  obtain ⟨a, ys, rfl, hl, ea, k⟩ := h
  refine ⟨_, (pss_cons (ps_xst (pv 0) (pv 1))
    (pss_one (ps_xst (pv 0) pe_str))), ?_⟩
  exact ini1 T.x_InvalidName (T.no (i := 0) rfl) hl ea k
theorem sci_InvalidColumn : FnScope ["self", "at"] ["self", "at"] (defScope si_InvalidColumn) := ⟨rfl, rfl, rfl, by decide +kernel, rfl, by decide +kernel, by decide +kernel⟩
theorem oki_InvalidColumn (T : Top K mg) : FnOk P w K mg base CX0 1 T.f_InvalidColumn T.di_InvalidColumn ["self", "at"] (spI K T.C_InvalidColumn ("InvalidColumn", ["at"])) := by
  refine T.Fi_InvalidColumn.ok sci_InvalidColumn (fun vs H Q E h => ?_) (fun cdv A outer s H vs Q E hr h => ?_)
  · obtain ⟨a, ys, rfl, hl, _⟩ := h
    rw [List.length_cons, hl]
    rfl
  obtain ⟨a, ys, rfl, hl, ea, k⟩ := h
  refine ⟨_, (pss_cons (ps_xst (pv 0) (pv 1))
    (pss_one (ps_xst (pv 0) pe_str))), ?_⟩
  exact ini1 T.x_InvalidColumn (T.no (i := 1) rfl) hl ea k
theorem sci_InvalidSide : FnScope ["self", "at"] ["self", "at"] (defScope si_InvalidSide) := ⟨rfl, rfl, rfl, by decide +kernel, rfl, by decide +kernel, by decide +kernel⟩
theorem oki_InvalidSide (T : Top K mg) : FnOk P w K mg base CX0 1 T.f_InvalidSide T.di_InvalidSide ["self", "at"] (spI K T.C_InvalidSide ("InvalidSide", ["at"])) := by
  refine T.Fi_InvalidSide.ok sci_InvalidSide (fun vs H Q E h => ?_) (fun cdv A outer s H vs Q E hr h => ?_)
  · obtain ⟨a, ys, rfl, hl, _⟩ := h
    rw [List.length_cons, hl]
    rfl
  obtain ⟨a, ys, rfl, hl, ea, k⟩ := h
  refine ⟨_, (pss_cons (ps_xst (pv 0) (pv 1))
    (pss_one (ps_xst (pv 0) pe_str))), ?_⟩
  exact ini1 T.x_InvalidSide (T.no (i := 2) rfl) hl ea k
theorem sci_InvalidKey : FnScope ["self", "given"] ["self", "given"] (defScope si_InvalidKey) := ⟨rfl, rfl, rfl, by decide +kernel, rfl, by decide +kernel, by decide +kernel⟩
theorem oki_InvalidKey (T : Top K mg) : FnOk P w K mg base CX0 1 T.f_InvalidKey T.di_InvalidKey ["self", "given"] (spI K T.C_InvalidKey ("InvalidKey", ["given"])) := by
  refine T.Fi_InvalidKey.ok sci_InvalidKey (fun vs H Q E h => ?_) (fun cdv A outer s H vs Q E hr h => ?_)
  · obtain ⟨a, ys, rfl, hl, _⟩ := h
    rw [List.length_cons, hl]
    rfl
  obtain ⟨a, ys, rfl, hl, ea, k⟩ := h
  refine ⟨_, (pss_cons (ps_xst (pv 0) (pv 1))
    (pss_one (ps_xst (pv 0) pe_str))), ?_⟩
  exact ini1 T.x_InvalidKey (T.no (i := 3) rfl) hl ea k
theorem sci_InvalidStep : FnScope ["self", "at"] ["self", "at"] (defScope si_InvalidStep) := ⟨rfl, rfl, rfl, by decide +kernel, rfl, by decide +kernel, by decide +kernel⟩
theorem oki_InvalidStep (T : Top K mg) : FnOk P w K mg base CX0 1 T.f_InvalidStep T.di_InvalidStep ["self", "at"] (spI K T.C_InvalidStep ("InvalidStep", ["at"])) := by
  refine T.Fi_InvalidStep.ok sci_InvalidStep (fun vs H Q E h => ?_) (fun cdv A outer s H vs Q E hr h => ?_)
  · obtain ⟨a, ys, rfl, hl, _⟩ := h
    rw [List.length_cons, hl]
    rfl
  obtain ⟨a, ys, rfl, hl, ea, k⟩ := h
  refine ⟨_, (pss_cons (ps_xst (pv 0) (pv 1))
    (pss_one (ps_xst (pv 0) pe_str))), ?_⟩
  exact ini1 T.x_InvalidStep (T.no (i := 4) rfl) hl ea k
theorem sci_InvalidTest : FnScope ["self", "given"] ["self", "given"] (defScope si_InvalidTest) := ⟨rfl, rfl, rfl, by decide +kernel, rfl, by decide +kernel, by decide +kernel⟩
theorem oki_InvalidTest (T : Top K mg) : FnOk P w K mg base CX0 1 T.f_InvalidTest T.di_InvalidTest ["self", "given"] (spI K T.C_InvalidTest ("InvalidTest", ["given"])) := by
  refine T.Fi_InvalidTest.ok sci_InvalidTest (fun vs H Q E h => ?_) (fun cdv A outer s H vs Q E hr h => ?_)
  · obtain ⟨a, ys, rfl, hl, _⟩ := h
    rw [List.length_cons, hl]
    rfl
  obtain ⟨a, ys, rfl, hl, ea, k⟩ := h
  refine ⟨_, (pss_cons (ps_xst (pv 0) (pv 1))
    (pss_one (ps_xst (pv 0) pe_str))), ?_⟩
  exact ini1 T.x_InvalidTest (T.no (i := 5) rfl) hl ea k
theorem sci_InvalidThing : FnScope ["self", "given"] ["self", "given"] (defScope si_InvalidThing) := ⟨rfl, rfl, rfl, by decide +kernel, rfl, by decide +kernel, by decide +kernel⟩
theorem oki_InvalidThing (T : Top K mg) : FnOk P w K mg base CX0 1 T.f_InvalidThing T.di_InvalidThing ["self", "given"] (spI K T.C_InvalidThing ("InvalidThing", ["given"])) := by
  refine T.Fi_InvalidThing.ok sci_InvalidThing (fun vs H Q E h => ?_) (fun cdv A outer s H vs Q E hr h => ?_)
  · obtain ⟨a, ys, rfl, hl, _⟩ := h
    rw [List.length_cons, hl]
    rfl
  obtain ⟨a, ys, rfl, hl, ea, k⟩ := h
  refine ⟨_, (pss_cons (ps_xst (pv 0) (pv 1))
    (pss_one (ps_xst (pv 0) pe_str))), ?_⟩
  exact ini1 T.x_InvalidThing (T.no (i := 6) rfl) hl ea k
theorem sci_InvalidRow : FnScope ["self", "table", "at"] ["self", "table", "at"] (defScope si_InvalidRow) := ⟨rfl, rfl, rfl, by decide +kernel, rfl, by decide +kernel, by decide +kernel⟩
theorem oki_InvalidRow (T : Top K mg) : FnOk P w K mg base CX0 1 T.f_InvalidRow T.di_InvalidRow ["self", "table", "at"] (spI K T.C_InvalidRow ("InvalidRow", ["table", "at"])) := by
  refine T.Fi_InvalidRow.ok sci_InvalidRow (fun vs H Q E h => ?_) (fun cdv A outer s H vs Q E hr h => ?_)
  · obtain ⟨a, ys, rfl, hl, _⟩ := h
    rw [List.length_cons, hl]
    rfl
  obtain ⟨a, ys, rfl, hl, ea, k⟩ := h
  refine ⟨_, (pss_cons (ps_xst (pv 0) (pv 1))
    (pss_cons (ps_xst (pv 0) (pv 2))
    (pss_one (ps_xst (pv 0) pe_str)))), ?_⟩
  exact ini2 T.x_InvalidRow (T.no (i := 16) rfl) hl ea k
theorem sci_InvalidSetting : FnScope ["self", "given"] ["self", "given"] (defScope si_InvalidSetting) := ⟨rfl, rfl, rfl, by decide +kernel, rfl, by decide +kernel, by decide +kernel⟩
theorem oki_InvalidSetting (T : Top K mg) : FnOk P w K mg base CX0 1 T.f_InvalidSetting T.di_InvalidSetting ["self", "given"] (spI K T.C_InvalidSetting ("InvalidSetting", ["given"])) := by
  refine T.Fi_InvalidSetting.ok sci_InvalidSetting (fun vs H Q E h => ?_) (fun cdv A outer s H vs Q E hr h => ?_)
  · obtain ⟨a, ys, rfl, hl, _⟩ := h
    rw [List.length_cons, hl]
    rfl
  obtain ⟨a, ys, rfl, hl, ea, k⟩ := h
  refine ⟨_, (pss_cons (ps_xst (pv 0) (pv 1))
    (pss_one (ps_xst (pv 0) pe_str))), ?_⟩
  exact ini1 T.x_InvalidSetting (T.no (i := 7) rfl) hl ea k
theorem sci_InvalidWord : FnScope ["self", "given"] ["self", "given"] (defScope si_InvalidWord) := ⟨rfl, rfl, rfl, by decide +kernel, rfl, by decide +kernel, by decide +kernel⟩
theorem oki_InvalidWord (T : Top K mg) : FnOk P w K mg base CX0 1 T.f_InvalidWord T.di_InvalidWord ["self", "given"] (spI K T.C_InvalidWord ("InvalidWord", ["given"])) := by
  refine T.Fi_InvalidWord.ok sci_InvalidWord (fun vs H Q E h => ?_) (fun cdv A outer s H vs Q E hr h => ?_)
  · obtain ⟨a, ys, rfl, hl, _⟩ := h
    rw [List.length_cons, hl]
    rfl
  obtain ⟨a, ys, rfl, hl, ea, k⟩ := h
  refine ⟨_, (pss_cons (ps_xst (pv 0) (pv 1))
    (pss_one (ps_xst (pv 0) pe_str))), ?_⟩
  exact ini1 T.x_InvalidWord (T.no (i := 8) rfl) hl ea k
theorem sci_InvalidNumber : FnScope ["self", "given"] ["self", "given"] (defScope si_InvalidNumber) := ⟨rfl, rfl, rfl, by decide +kernel, rfl, by decide +kernel, by decide +kernel⟩
theorem oki_InvalidNumber (T : Top K mg) : FnOk P w K mg base CX0 1 T.f_InvalidNumber T.di_InvalidNumber ["self", "given"] (spI K T.C_InvalidNumber ("InvalidNumber", ["given"])) := by
  refine T.Fi_InvalidNumber.ok sci_InvalidNumber (fun vs H Q E h => ?_) (fun cdv A outer s H vs Q E hr h => ?_)
  · obtain ⟨a, ys, rfl, hl, _⟩ := h
    rw [List.length_cons, hl]
    rfl
  obtain ⟨a, ys, rfl, hl, ea, k⟩ := h
  refine ⟨_, (pss_cons (ps_xst (pv 0) (pv 1))
    (pss_one (ps_xst (pv 0) pe_str))), ?_⟩
  exact ini1 T.x_InvalidNumber (T.no (i := 9) rfl) hl ea k
theorem sci_InvalidText : FnScope ["self", "line"] ["self", "line"] (defScope si_InvalidText) := ⟨rfl, rfl, rfl, by decide +kernel, rfl, by decide +kernel, by decide +kernel⟩
theorem oki_InvalidText (T : Top K mg) : FnOk P w K mg base CX0 1 T.f_InvalidText T.di_InvalidText ["self", "line"] (spI K T.C_InvalidText ("InvalidText", ["line"])) := by
  refine T.Fi_InvalidText.ok sci_InvalidText (fun vs H Q E h => ?_) (fun cdv A outer s H vs Q E hr h => ?_)
  · obtain ⟨a, ys, rfl, hl, _⟩ := h
    rw [List.length_cons, hl]
    rfl
  obtain ⟨a, ys, rfl, hl, ea, k⟩ := h
  refine ⟨_, (pss_cons (ps_xst (pv 0) (pv 1))
    (pss_one (ps_xst (pv 0) pe_str))), ?_⟩
  exact ini1 T.x_InvalidText (T.no (i := 10) rfl) hl ea k
theorem sci_InvalidCommand : FnScope ["self", "at"] ["self", "at"] (defScope si_InvalidCommand) := ⟨rfl, rfl, rfl, by decide +kernel, rfl, by decide +kernel, by decide +kernel⟩
theorem oki_InvalidCommand (T : Top K mg) : FnOk P w K mg base CX0 1 T.f_InvalidCommand T.di_InvalidCommand ["self", "at"] (spI K T.C_InvalidCommand ("InvalidCommand", ["at"])) := by
  refine T.Fi_InvalidCommand.ok sci_InvalidCommand (fun vs H Q E h => ?_) (fun cdv A outer s H vs Q E hr h => ?_)
  · obtain ⟨a, ys, rfl, hl, _⟩ := h
    rw [List.length_cons, hl]
    rfl
  obtain ⟨a, ys, rfl, hl, ea, k⟩ := h
  refine ⟨_, (pss_cons (ps_xst (pv 0) (pv 1))
    (pss_one (ps_xst (pv 0) pe_str))), ?_⟩
  exact ini1 T.x_InvalidCommand (T.no (i := 11) rfl) hl ea k
theorem sci_DuplicateName : FnScope ["self", "name"] ["self", "name"] (defScope si_DuplicateName) := ⟨rfl, rfl, rfl, by decide +kernel, rfl, by decide +kernel, by decide +kernel⟩
theorem oki_DuplicateName (T : Top K mg) : FnOk P w K mg base CX0 1 T.f_DuplicateName T.di_DuplicateName ["self", "name"] (spI K T.C_DuplicateName ("DuplicateName", ["name"])) := by
  refine T.Fi_DuplicateName.ok sci_DuplicateName (fun vs H Q E h => ?_) (fun cdv A outer s H vs Q E hr h => ?_)
  · obtain ⟨a, ys, rfl, hl, _⟩ := h
    rw [List.length_cons, hl]
    rfl
  obtain ⟨a, ys, rfl, hl, ea, k⟩ := h
  refine ⟨_, (pss_cons (ps_xst (pv 0) (pv 1))
    (pss_one (ps_xst (pv 0) pe_str))), ?_⟩
  exact ini1 T.x_DuplicateName (T.no (i := 12) rfl) hl ea k
theorem sci_OtherProgram : FnScope ["self"] ["self"] (defScope si_OtherProgram) := ⟨rfl, rfl, rfl, by decide +kernel, rfl, by decide +kernel, by decide +kernel⟩
theorem oki_OtherProgram (T : Top K mg) : FnOk P w K mg base CX0 1 T.f_OtherProgram T.di_OtherProgram ["self"] (spI K T.C_OtherProgram ("OtherProgram", [])) := by
  refine T.Fi_OtherProgram.ok sci_OtherProgram (fun vs H Q E h => ?_) (fun cdv A outer s H vs Q E hr h => ?_)
  · obtain ⟨a, ys, rfl, hl, _⟩ := h
    rw [List.length_cons, hl]
    rfl
  obtain ⟨a, ys, rfl, hl, ea, k⟩ := h
  refine ⟨_, (pss_one (ps_xst (pv 0) pe_str)), ?_⟩
  exact ini0 T.x_OtherProgram (T.no (i := 18) rfl) hl ea k
theorem sci_SideTaken : FnScope ["self", "taken"] ["self", "taken"] (defScope si_SideTaken) := ⟨rfl, rfl, rfl, by decide +kernel, rfl, by decide +kernel, by decide +kernel⟩
theorem oki_SideTaken (T : Top K mg) : FnOk P w K mg base CX0 1 T.f_SideTaken T.di_SideTaken ["self", "taken"] (spI K T.C_SideTaken ("SideTaken", ["taken"])) := by
  refine T.Fi_SideTaken.ok sci_SideTaken (fun vs H Q E h => ?_) (fun cdv A outer s H vs Q E hr h => ?_)
  · obtain ⟨a, ys, rfl, hl, _⟩ := h
    rw [List.length_cons, hl]
    rfl
  obtain ⟨a, ys, rfl, hl, ea, k⟩ := h
  refine ⟨_, (pss_cons (ps_xst (pv 0) (pv 1))
    (pss_one (ps_xst (pv 0) pe_str))), ?_⟩
  exact ini1 T.x_SideTaken (T.no (i := 13) rfl) hl ea k
theorem sci_Torn : FnScope ["self", "one", "other"] ["self", "one", "other"] (defScope si_Torn) := ⟨rfl, rfl, rfl, by decide +kernel, rfl, by decide +kernel, by decide +kernel⟩
theorem oki_Torn (T : Top K mg) : FnOk P w K mg base CX0 1 T.f_Torn T.di_Torn ["self", "one", "other"] (spI K T.C_Torn ("Torn", ["one", "other"])) := by
  refine T.Fi_Torn.ok sci_Torn (fun vs H Q E h => ?_) (fun cdv A outer s H vs Q E hr h => ?_)
  · obtain ⟨a, ys, rfl, hl, _⟩ := h
    rw [List.length_cons, hl]
    rfl
  obtain ⟨a, ys, rfl, hl, ea, k⟩ := h
  refine ⟨_, (pss_cons (ps_xst (pv 0) (pv 1))
    (pss_cons (ps_xst (pv 0) (pv 2))
    (pss_one (ps_xst (pv 0) pe_str)))), ?_⟩
  exact ini2 T.x_Torn (T.no (i := 17) rfl) hl ea k
theorem sci_TooMany : FnScope ["self", "most"] ["self", "most"] (defScope si_TooMany) := ⟨rfl, rfl, rfl, by decide +kernel, rfl, by decide +kernel, by decide +kernel⟩
theorem oki_TooMany (T : Top K mg) : FnOk P w K mg base CX0 1 T.f_TooMany T.di_TooMany ["self", "most"] (spI K T.C_TooMany ("TooMany", ["most"])) := by
  refine T.Fi_TooMany.ok sci_TooMany (fun vs H Q E h => ?_) (fun cdv A outer s H vs Q E hr h => ?_)
  · obtain ⟨a, ys, rfl, hl, _⟩ := h
    rw [List.length_cons, hl]
    rfl
  obtain ⟨a, ys, rfl, hl, ea, k⟩ := h
  refine ⟨_, (pss_cons (ps_xst (pv 0) (pv 1))
    (pss_one (ps_xst (pv 0) pe_str))), ?_⟩
  exact ini1 T.x_TooMany (T.no (i := 14) rfl) hl ea k
theorem sci_Full : FnScope ["self", "most"] ["self", "most"] (defScope si_Full) := ⟨rfl, rfl, rfl, by decide +kernel, rfl, by decide +kernel, by decide +kernel⟩
theorem oki_Full (T : Top K mg) : FnOk P w K mg base CX0 1 T.f_Full T.di_Full ["self", "most"] (spI K T.C_Full ("Full", ["most"])) := by
  refine T.Fi_Full.ok sci_Full (fun vs H Q E h => ?_) (fun cdv A outer s H vs Q E hr h => ?_)
  · obtain ⟨a, ys, rfl, hl, _⟩ := h
    rw [List.length_cons, hl]
    rfl
  obtain ⟨a, ys, rfl, hl, ea, k⟩ := h
  refine ⟨_, (pss_cons (ps_xst (pv 0) (pv 1))
    (pss_one (ps_xst (pv 0) pe_str))), ?_⟩
  exact ini1 T.x_Full (T.no (i := 15) rfl) hl ea k
theorem sci_Untold : FnScope ["self"] ["self"] (defScope si_Untold) := ⟨rfl, rfl, rfl, by decide +kernel, rfl, by decide +kernel, by decide +kernel⟩
theorem oki_Untold (T : Top K mg) : FnOk P w K mg base CX0 1 T.f_Untold T.di_Untold ["self"] (spI K T.C_Untold ("Untold", [])) := by
  refine T.Fi_Untold.ok sci_Untold (fun vs H Q E h => ?_) (fun cdv A outer s H vs Q E hr h => ?_)
  · obtain ⟨a, ys, rfl, hl, _⟩ := h
    rw [List.length_cons, hl]
    rfl
  obtain ⟨a, ys, rfl, hl, ea, k⟩ := h
  refine ⟨_, (pss_one (ps_xst (pv 0) pe_str)), ?_⟩
  exact ini0 T.x_Untold (T.no (i := 19) rfl) hl ea k
theorem sci_UnknownName : FnScope ["self", "name"] ["self", "name"] (defScope si_UnknownName) := ⟨rfl, rfl, rfl, by decide +kernel, rfl, by decide +kernel, by decide +kernel⟩
theorem oki_UnknownName (T : Top K mg) : FnOk P w K mg base CX0 1 T.f_UnknownName T.di_UnknownName ["self", "name"] (spI K T.C_UnknownName ("UnknownName", ["name"])) := by
  refine T.Fi_UnknownName.ok sci_UnknownName (fun vs H Q E h => ?_) (fun cdv A outer s H vs Q E hr h => ?_)
  · obtain ⟨a, ys, rfl, hl, _⟩ := h
    rw [List.length_cons, hl]
    rfl
  obtain ⟨a, ys, rfl, hl, ea, k⟩ := h
  refine ⟨_, (pss_cons (ps_xst (pv 0) (pv 1))
    (pss_one (ps_xst (pv 0) pe_str))), ?_⟩
  exact ini1 T.x_UnknownName (T.no (i := 20) rfl) hl ea k
theorem sci_UnknownColumn : FnScope ["self", "name"] ["self", "name"] (defScope si_UnknownColumn) := ⟨rfl, rfl, rfl, by decide +kernel, rfl, by decide +kernel, by decide +kernel⟩
theorem oki_UnknownColumn (T : Top K mg) : FnOk P w K mg base CX0 1 T.f_UnknownColumn T.di_UnknownColumn ["self", "name"] (spI K T.C_UnknownColumn ("UnknownColumn", ["name"])) := by
  refine T.Fi_UnknownColumn.ok sci_UnknownColumn (fun vs H Q E h => ?_) (fun cdv A outer s H vs Q E hr h => ?_)
  · obtain ⟨a, ys, rfl, hl, _⟩ := h
    rw [List.length_cons, hl]
    rfl
  obtain ⟨a, ys, rfl, hl, ea, k⟩ := h
  refine ⟨_, (pss_cons (ps_xst (pv 0) (pv 1))
    (pss_one (ps_xst (pv 0) pe_str))), ?_⟩
  exact ini1 T.x_UnknownColumn (T.no (i := 21) rfl) hl ea k
theorem sci_UnknownRow : FnScope ["self", "number"] ["self", "number"] (defScope si_UnknownRow) := ⟨rfl, rfl, rfl, by decide +kernel, rfl, by decide +kernel, by decide +kernel⟩
theorem oki_UnknownRow (T : Top K mg) : FnOk P w K mg base CX0 1 T.f_UnknownRow T.di_UnknownRow ["self", "number"] (spI K T.C_UnknownRow ("UnknownRow", ["number"])) := by
  refine T.Fi_UnknownRow.ok sci_UnknownRow (fun vs H Q E h => ?_) (fun cdv A outer s H vs Q E hr h => ?_)
  · obtain ⟨a, ys, rfl, hl, _⟩ := h
    rw [List.length_cons, hl]
    rfl
  obtain ⟨a, ys, rfl, hl, ea, k⟩ := h
  refine ⟨_, (pss_cons (ps_xst (pv 0) (pv 1))
    (pss_one (ps_xst (pv 0) pe_str))), ?_⟩
  exact ini1 T.x_UnknownRow (T.no (i := 22) rfl) hl ea k
theorem sci_NothingLeft : FnScope ["self"] ["self"] (defScope si_NothingLeft) := ⟨rfl, rfl, rfl, by decide +kernel, rfl, by decide +kernel, by decide +kernel⟩
theorem oki_NothingLeft (T : Top K mg) : FnOk P w K mg base CX0 1 T.f_NothingLeft T.di_NothingLeft ["self"] (spI K T.C_NothingLeft ("NothingLeft", [])) := by
  refine T.Fi_NothingLeft.ok sci_NothingLeft (fun vs H Q E h => ?_) (fun cdv A outer s H vs Q E hr h => ?_)
  · obtain ⟨a, ys, rfl, hl, _⟩ := h
    rw [List.length_cons, hl]
    rfl
  obtain ⟨a, ys, rfl, hl, ea, k⟩ := h
  refine ⟨_, (pss_one (ps_xst (pv 0) pe_str)), ?_⟩
  exact ini0 T.x_NothingLeft (T.no (i := 23) rfl) hl ea k
end
end Bl

namespace Bl
open PySem L2
abbrev n_box : List Str := ["_law_script", "_law_mixed", "_law_cell"]
theorem sc_box : FnScope n_box ["_law_script"] (defScope s_box) := ⟨rfl, rfl, rfl, by decide +kernel, rfl, by decide +kernel, by decide +kernel⟩
abbrev n_pull : List Str := ["_law_box_here", "_law_many", "_law_cell", "_law_digit", "_law_twice"]
theorem sc_pull : FnScope n_pull ["_law_box_here", "_law_many"] (defScope s_pull) := ⟨rfl, rfl, rfl, by decide +kernel, rfl, by decide +kernel, by decide +kernel⟩
abbrev n_of : List Str := ["_law_box_here", "_law_some"]
theorem sc_of : FnScope n_of ["_law_box_here", "_law_some"] (defScope s_of) := ⟨rfl, rfl, rfl, by decide +kernel, rfl, by decide +kernel, by decide +kernel⟩
section
variable {P : Program} {w : World} {K : PySem.W.Frag} {mg : Str → Option Value} {base : Heap}
theorem ok_pull (T : Top K mg) : FnOk P w K mg base CX0 1 T.a_pull T.d_pull ["_law_box_here", "_law_many"] (spPull K) := by
  refine T.F_pull.ok sc_pull (fun vs H Q E h => ?_) (fun cdv A outer s H vs Q E hr h => ?_)
  · obtain ⟨p, l, n, rfl, _⟩ := h
    rfl
  obtain ⟨p, l, n, rfl, ⟨ns, i, w', m, c, hp, hl, hi, hm0, hm1⟩, hn0, hn1, k⟩ := h
  -- what a box at the end gives
  have fin : ∀ (H' : Hp) (i' w2 m' c' d : Int), H' p = some (.lst (boxL l i' w2 m' c')) → But p H H' → 0 ≤ i' → 0 ≤ m' → m' < 2147483629 → 0 ≤ d → d < n → Q (.int d) H' := fun H' i' w2 m' c' d h1 h2 h3 h4 h5 h6 h7 =>
    k d H' h6 h7 ⟨ns, i', w2, m', c', h1, h2 _ _ hl, h3, h4, h5⟩ h2
  refine ⟨_, (pss_cons (ps_asg (pe_op op_add (pe_ix ix_list (pv 0) pe_int (fun _ _ => rfl)) pe_int) (pg_sub (pv 0) pe_int set_list))
    (C8.pss_cut (ps_if (PW.pt (pw_and (pt_cmpR op_eq (pe_ix ix_list (pv 0) pe_int (fun _ _ => rfl)) pe_int (nomark _)) (pw_and1 (pt_cmpR op_lt (pe_ix ix_list (pv 0) pe_int (fun _ _ => rfl)) (pe_callB call_len_seq (by rfl) T.z_len (by decide +kernel) (pa_cons (pe_ix ix_list (pv 0) pe_int (fun _ _ => rfl)) pa_nil)) (nomark _))))) (pss_cons (ps_set (i := 2) sc_pull.nd rfl (Or.inl rfl) (pe_ix ix_list (pe_ix ix_list (pv 0) pe_int (fun _ _ => rfl)) (pe_ix ix_list (pv 0) pe_int (fun _ _ => rfl)) (fun _ _ => rfl)))
    (pss_cons (ps_asg (pe_op op_add (pe_ix ix_list (pv 0) pe_int (fun _ _ => rfl)) pe_int) (pg_sub (pv 0) pe_int set_list))
    (pss_one (ps_if (pt_cmpR op_ge (pe_callB call_abs (by rfl) T.z_abs (by decide +kernel) (pa_cons (pv 2) pa_nil)) (pe_op op_pow pe_int pe_int) (nomark _)) (pss_one (ps_asg (pe_callB call_abs (by rfl) T.z_abs (by decide +kernel) (pa_cons (pv 2) pa_nil)) (pg_sub (pv 0) pe_int set_list))) (pss_one (ps_asg (pe_op op_mod (pe_callTy call_int1 (by rfl) T.z_int (by decide +kernel) (pa_cons (pe_op op_add (pe_op op_add (pe_op op_mul (pe_ix ix_list (pv 0) pe_int (fun _ _ => rfl)) pe_int) (pe_op op_mul (pe_op op_mod (pe_callTy call_int1 (by rfl) T.z_int (by decide +kernel) (pa_cons (pv 2) pa_nil)) pe_int) pe_int)) pe_int) pa_nil)) pe_int) (pg_sub (pv 0) pe_int set_list))))))) pss_nil)
    (pss_cons (ps_if (pt_cmpR op_gt (pe_ix ix_list (pv 0) pe_int (fun _ _ => rfl)) pe_int (nomark _)) (pss_cons (ps_set (i := 3) sc_pull.nd rfl (Or.inl rfl) (pe_op op_mod (pe_callTy call_int1 (by rfl) T.z_int (by decide +kernel) (pa_cons (pe_ix ix_list (pv 0) pe_int (fun _ _ => rfl)) pa_nil)) (pv 1)))
    (pss_cons (ps_asg (pe_op op_fdiv (pe_ix ix_list (pv 0) pe_int (fun _ _ => rfl)) (pv 1)) (pg_sub (pv 0) pe_int set_list))
    (pss_one (ps_ret (pv 3))))) pss_nil)
    (pss_cons (ps_set (i := 4) sc_pull.nd rfl (Or.inl rfl) (pe_op op_mod (pe_callTy call_int1 (by rfl) T.z_int (by decide +kernel) (pa_cons (pe_op op_add (pe_op op_mul (pe_ix ix_list (pv 0) pe_int (fun _ _ => rfl)) (pe_ix ix_list (pv 0) pe_int (fun _ _ => rfl))) (pe_op op_mul (pe_ix ix_list (pv 0) pe_int (fun _ _ => rfl)) pe_int)) pa_nil)) pe_int))
    (pss_cons (ps_asg (pe_op op_mod (pe_callTy call_int1 (by rfl) T.z_int (by decide +kernel) (pa_cons (pe_op op_add (pe_op op_add (pe_op op_mul (pv 4) pe_int) (pe_op op_mul (pe_ix ix_list (pv 0) pe_int (fun _ _ => rfl)) pe_int)) pe_int) pa_nil)) pe_int) (pg_sub (pv 0) pe_int set_list))
    (pss_one (ps_ret (pe_op op_mod (pe_callTy call_int1 (by rfl) T.z_int (by decide +kernel) (pa_cons (pe_op op_fdiv (pe_ix ix_list (pv 0) pe_int (fun _ _ => rfl)) pe_int) pa_nil)) (pv 1))))))))), ?_⟩
  -- box[4] = box[4] + 1
  refine ⟨_, rfl, p, _, _, _, rfl, rfl, SqL.of hp, rfl, _, _, rfl, rfl, _, rfl, p, _, _, _, rfl, rfl, hp, rfl, ?_⟩
  have e1 : But p H (upd H p (.lst (boxL l i w' m (c + 1)))) := But.put (Same.refl _)
  have hp1 : (upd H p (.lst (boxL l i w' m (c + 1)))) p = some (.lst (boxL l i w' m (c + 1))) := upd_same
  show tSeq _ _ _ _ (upd H p (.lst (boxL l i w' m (c + 1))))
  generalize (upd H p (.lst (boxL l i w' m (c + 1)))) = H1 at e1 hp1 ⊢
  have hl1 : SqL K H1 l (ns.map V.int) := SqL.of (hide_le _ _ (e1 _ _ hl))
  clear hp
  refine ⟨fun σ H2 => ∃ (o2 : Option V) (i2 w2 m2 : Int), σ = [some (.ref p), some (.int n), o2, none, none] ∧ H2 p = some (.lst (boxL l i2 w2 m2 (c + 1))) ∧ But p H H2 ∧ 0 ≤ i2 ∧ 0 ≤ m2 ∧ m2 < 2147483629, ?_, ?_⟩
  -- if box[2] == 0 and box[1] < len(box[0])
  · refine ⟨_, rfl, p, _, _, _, rfl, rfl, SqL.of hp1, rfl, rfl, _, rfl, ?_⟩
    refine ite2 (fun _ => ?_) (fun _ => iteF ⟨none, i, w', m, rfl, hp1, e1, hi, hm0, hm1⟩)
    refine ⟨_, rfl, p, _, _, _, rfl, rfl, SqL.of hp1, rfl, _, rfl, p, _, _, _, rfl, rfl, SqL.of hp1, rfl, l, _, rfl, .inl hl1, _, _, rfl, rfl, _, rfl, ?_⟩
    refine ite2 (fun hlt => ?_) (fun _ => ⟨none, i, w', m, rfl, hp1, e1, hi, hm0, hm1⟩)
    have hlt' : i < ns.length := by
      have := of_decide_eq_true hlt
      simpa using this
    obtain ⟨v, hv⟩ := atI_int hi hlt'
    -- cell = box[0][box[1]]; box[1] = box[1] + 1
    refine ⟨_, rfl, p, _, _, _, rfl, rfl, SqL.of hp1, rfl, _, rfl, p, _, _, _, rfl, rfl, SqL.of hp1, rfl, l, _, _, _, rfl, rfl, hl1, hv, ?_⟩
    refine ⟨_, rfl, p, _, _, _, rfl, rfl, SqL.of hp1, rfl, _, _, rfl, rfl, _, rfl, p, _, _, _, rfl, rfl, hp1, rfl, ?_⟩
    -- if abs(cell) >= 10 ** 18
    refine ⟨_, rfl, v, rfl, _, _, rfl, rfl, ⟨by decide, by decide, by decide⟩, _, _, rfl, rfl, _, rfl, ?_⟩
    refine ite2 (fun _ => ?_) (fun _ => ?_)
    · refine ⟨_, rfl, v, rfl, _, rfl, p, _, _, _, rfl, rfl, upd_same, rfl, ?_⟩
      exact ⟨_, i + 1, _, m, rfl, upd_same, (But.put (But.put e1)), by omega, hm0, hm1⟩
    · refine ⟨_, rfl, p, _, _, _, rfl, rfl, SqL.of upd_same, rfl, _, _, rfl, rfl, .inl (by constructor <;> omega), _, rfl, .inl ⟨v, rfl, ?_⟩⟩
      have b1 := mod_lt' (a := v) (b := 1000003) (by decide)
      refine ⟨_, _, rfl, rfl, (by show (0 : Int) < 1000003; decide), _, _, rfl, rfl, .inl (by constructor <;> omega), _, _, rfl, rfl, _, _, rfl, rfl, .inl ⟨_, rfl, ?_⟩⟩
      refine ⟨_, _, rfl, rfl, (by show (0 : Int) < 2147483629; decide), _, rfl, p, _, _, _, rfl, rfl, upd_same, rfl, ?_⟩
      exact ⟨_, i + 1, w', _, rfl, upd_same, (But.put (But.put e1)), by omega, Int.emod_nonneg _ (by decide), Int.emod_lt_of_pos _ (by decide)⟩
  -- the rest
  · rintro σ H2 ⟨o2, i2, w2, m2, rfl, hp2, e2, hi2, hm20, hm21⟩
    refine ⟨_, rfl, p, _, _, _, rfl, rfl, SqL.of hp2, rfl, _, _, rfl, rfl, _, rfl, ?_⟩
    refine ite2 (fun _ => ?_) (fun _ => ?_)
    · refine ⟨_, rfl, p, _, _, _, rfl, rfl, SqL.of hp2, rfl, .inl ⟨_, rfl, ?_⟩⟩
      refine ⟨_, rfl, _, _, rfl, rfl, hn0, ?_⟩
      refine ⟨_, rfl, p, _, _, _, rfl, rfl, SqL.of hp2, rfl, _, rfl, _, _, rfl, rfl, ⟨hn0, hn1⟩, _, rfl, p, _, _, _, rfl, rfl, hp2, rfl, ?_⟩
      refine ⟨_, rfl, ?_⟩
      exact fin _ i2 _ m2 _ _ upd_same (But.put e2) hi2 hm20 hm21 (Int.emod_nonneg _ (by omega)) (Int.emod_lt_of_pos _ hn0)
    · refine ⟨_, rfl, p, _, _, _, rfl, rfl, SqL.of hp2, rfl, _, rfl, p, _, _, _, rfl, rfl, SqL.of hp2, rfl, _, _, rfl, rfl, .inl (by constructor <;> omega), _, rfl, p, _, _, _, rfl, rfl, SqL.of hp2, rfl, _, _, rfl, rfl, .inr (by constructor <;> omega), _, _, rfl, rfl, .inl ⟨_, rfl, ?_⟩⟩
      have b1 := mod_lt' (a := m2 * m2 + (c + 1) * 8317) (b := 2147483549) (by decide)
      refine ⟨_, _, rfl, rfl, (by show (0 : Int) < 2147483549; decide), ?_⟩
      refine ⟨_, rfl, _, _, rfl, rfl, .inl (by constructor <;> omega), _, rfl, p, _, _, _, rfl, rfl, SqL.of hp2, rfl, _, _, rfl, rfl, .inl (by constructor <;> omega), _, _, rfl, rfl, _, _, rfl, rfl, .inl ⟨_, rfl, ?_⟩⟩
      refine ⟨_, _, rfl, rfl, (by show (0 : Int) < 2147483629; decide), _, rfl, p, _, _, _, rfl, rfl, hp2, rfl, ?_⟩
      refine ⟨_, rfl, p, _, _, _, rfl, rfl, SqL.of upd_same, rfl, _, _, rfl, rfl, (by constructor <;> decide), .inl ⟨_, rfl, ?_⟩⟩
      refine ⟨_, rfl, _, _, rfl, rfl, hn0, ?_⟩
      exact fin _ i2 w2 _ _ _ upd_same (But.put e2) hi2 (Int.emod_nonneg _ (by decide)) (Int.emod_lt_of_pos _ (by decide)) (Int.emod_nonneg _ (by omega)) (Int.emod_lt_of_pos _ hn0)
theorem ok_box (T : Top K mg) : FnOk P w K mg base CX0 1 T.a_box T.d_box ["_law_script"] (spBox K) := by
  refine T.F_box.ok sc_box (fun vs H Q E h => ?_) (fun cdv A outer s H vs Q E hr h => ?_)
  · obtain ⟨a, ns, rfl, _⟩ := h
    rfl
  obtain ⟨a, ns, rfl, hS, h63, k⟩ := h
  refine ⟨_, (pss_cons (ps_set (i := 1) sc_box.nd rfl (Or.inl rfl) pe_int)
    (pss_cons (ps_for PassesOwn.never rfl (pi_list (pe_slice sl_list (pv 0) po_none (po_some pe_int))) (pg_name (i := 2) sc_box.nd rfl (Or.inl rfl))
    (pss_one (ps_set (i := 1) sc_box.nd rfl (Or.inl rfl) (pe_op op_mod (pe_callTy call_int1 (by rfl) T.z_int (by decide +kernel) (pa_cons (pe_op op_add (pe_op op_add (pe_op op_mul (pv 1) pe_int) (pe_op op_mul (pe_op op_mod (pe_callTy call_int1 (by rfl) T.z_int (by decide +kernel) (pa_cons (pv 2) pa_nil)) pe_int) pe_int)) pe_int) pa_nil)) pe_int))))
    (pss_one (ps_ret (pe_lst (pa_cons (pe_callTy call_list_of (by rfl) T.z_list (by decide +kernel) (pa_cons (pe_slice sl_list (pv 0) po_none (po_some pe_int)) pa_nil)) (pa_cons pe_int (pa_cons pe_int (pa_cons (pv 1) (pa_cons pe_int pa_nil)))))))))), ?_⟩
  refine ⟨_, rfl, _, rfl, a, _, rfl, hS, fun p hp => ?_⟩
  rw [cutV_63 h63]
  have g1 : Same H (upd H p (.lst (ns.map V.int))) := same_new hp _
  refine ⟨p, rfl, ⟨_, SqL.of upd_same⟩, for_list (K := K) (a := p) (xs := ns.map V.int) (fun i σ H2 => ∃ (m : Int) (o : Option V), σ = [some (.ref a), some (.int m), o] ∧ 0 ≤ m ∧ m < 2147483629 ∧ Same (upd H p (.lst (ns.map V.int))) H2)
    ⟨10010, none, rfl, by decide, by decide, Same.refl _⟩ (fun i σ H2 _ ⟨_, _, _, _, _, s2⟩ => s2.seq (SqL.of upd_same)) ?_ ?_⟩
  · rintro i x σ H2 hx ⟨m, o, rfl, h0, h1, s2⟩
    obtain ⟨v, rfl⟩ : ∃ v : Int, x = .int v := by
      rw [List.getElem?_map] at hx
      cases e : ns[i]? with
      | none => rw [e] at hx; cases hx
      | some z => rw [e] at hx; exact ⟨z, (Option.some.inj hx).symm⟩
    have b1 := mod_lt' (a := v) (b := 1000003) (by decide)
    refine ⟨_, rfl, _, _, rfl, rfl, .inl (by constructor <;> omega), _, rfl, .inl ⟨v, rfl, ?_⟩⟩
    refine ⟨_, _, rfl, rfl, (by show (0 : Int) < 1000003; decide), _, _, rfl, rfl, .inl (by constructor <;> omega), _, _, rfl, rfl, _, _, rfl, rfl, .inl ⟨_, rfl, ?_⟩⟩
    refine ⟨_, _, rfl, rfl, (by show (0 : Int) < 2147483587; decide), ?_⟩
    have b2 := mod_lt' (a := m * 50021 + v % 1000003 * 769 + 17) (b := 2147483587) (by decide)
    exact ⟨_, _, rfl, b2.1, by omega, s2⟩
  · rintro σ H2 ⟨m, o, rfl, h0, h1, s2⟩
    have s3 := g1.trans s2
    refine ⟨_, rfl, _, rfl, a, _, rfl, s3.seq hS, fun q hq => ?_⟩
    rw [cutV_63 h63]
    have g2 := same_new hq (.lst (ns.map V.int))
    refine ⟨q, _, rfl, .inl (SqL.of upd_same), fun l hl => ?_⟩
    have g3 := same_new hl (.lst (ns.map V.int))
    refine ⟨_, rfl, (by show 5 ≤ sizeLine; decide), fun b hb => ?_⟩
    have g4 := same_new hb (.lst (boxL l 0 0 m 0))
    have nb : l ≠ b := ne_of_none upd_same hb
    refine k b l _ (s3.free (g2.free (g3.free hb))) ⟨ns, 0, 0, m, 0, upd_same, ?_, by decide, h0, h1⟩ (s3.trans (g2.trans (g3.trans g4)))
    rw [hide_ne nb, upd_ne nb, upd_same]
theorem ok_of (T : Top K mg) : FnOk P w K mg base CX0 2 T.a_of T.d_of ["_law_box_here", "_law_some"] (spOf K) := by
  refine T.F_of.ok sc_of (fun vs H Q E h => ?_) (fun cdv A outer s H vs Q E hr h => ?_)
  · obtain ⟨p, l, v, rfl, _⟩ := h
    rfl
  obtain ⟨p, l, v, rfl, B, h⟩ := h
  refine ⟨_, (pss_one (ps_ret (pe_ix ix_seq (pv 1) (pe_call (ok_pull T) (hr.mono (by decide)) rfl T.m_pull T.F_pull.kp T.b_pull .nil pass0 (pa_cons (pv 0) (pa_cons (pe_callB call_len (by rfl) T.z_len (by decide +kernel) (pa_cons (pv 1) pa_nil)) pa_nil))) (fun _ _ => rfl)))), ?_⟩
  rcases h with ⟨a, xs, rfl, hS, h0, h1, k⟩ | ⟨z, rfl, h0, h1, k⟩
  · refine ⟨_, rfl, _, rfl, _, rfl, _, xs.length, rfl, ?_, p, l, xs.length, rfl, B, by omega, by omega, fun d H' hd0 hd1 B' e => ?_⟩
    · rcases hS with hS | hS
      · exact .inl ⟨xs, hide_le.seq hS, rfl⟩
      · exact .inr ⟨xs, Same.tup hide_le hS, rfl⟩
    · obtain ⟨n, x, hx, hat⟩ := atI_some hd0 hd1
      rcases hS with hS | hS
      · exact .inl ⟨a, xs, d, x, rfl, rfl, hide_le.seq (e.seq hS), hat, k n x H' hx B' e⟩
      · exact .inr (.inl ⟨a, xs, d, x, rfl, rfl, Same.tup hide_le (Same.tup e hS), hat, k n x H' hx B' e⟩)
  · refine ⟨_, rfl, _, rfl, _, rfl, _, z.length, rfl, ⟨small (by omega), rfl⟩, p, l, z.length, rfl, B, by omega, by omega, fun d H' hd0 hd1 B' e => ?_⟩
    obtain ⟨n, rfl⟩ := Int.eq_ofNat_of_zero_le hd0
    have hn : n < z.cps.toList.length := by
      rw [Array.length_toList]
      show n < z.length
      omega
    exact .inr (.inr ⟨z, n, z.cps.toList[n], rfl, rfl, small (by omega), atI_nat (List.getElem?_eq_getElem hn), k _ H' (List.getElem_mem hn) B' e⟩)
end
end Bl

namespace Bl
open PySem L2
abbrev n_same : List Str := ["_law_found", "_law_due", "_law_a", "_law_b"]
theorem sc_same : FnScope n_same ["_law_found", "_law_due"] (defScope s_same) := ⟨rfl, rfl, rfl, by decide +kernel, rfl, by decide +kernel, by decide +kernel⟩
section
variable {P : Program} {w : World} {K : PySem.W.Frag} {mg : Str → Option Value} {base : Heap}
theorem walk_zipT {a b : Addr} {xs ys : List V} {n : Nat} (hn : n = min xs.length ys.length) : Walk (RZ.ItzT K a b) n (fun H => SqT K H a xs ∧ SqT K H b ys) (YPair (fun i => xs[i]?) (fun i => ys[i]?)) := by
  subst hn
  refine ⟨fun i _ hi q => ?_, fun _ q => ⟨xs, ys, q.1, q.2, by omega⟩, fun i H v H' _ q y => ?_⟩
  · have h1 : i < xs.length := by omega
    have h2 : i < ys.length := by omega
    exact ⟨xs, ys, xs[i], ys[i], q.1, q.2, by simp [h1], by simp [h2]⟩
  · obtain ⟨T, x, z, h1, h2, h3, h4, h5⟩ := y
    exact ⟨T, x, z, h1, h2, h3, h4 xs q.1, h5 ys q.2⟩
theorem kit_lt (d : PyData) : PySem.W.kitAny K (.type (tyN d)) [.type "list", .type "tuple"] = some (match d with | .list _ => true | .tuple _ => true | _ => false) := by
  cases d with
  | list ds => exact kitAny_cons (b := true) (kit_ty (by dsimp only [tyN]; decide +kernel)) (fun h => nomatch h) (fun _ => rfl)
  | tuple ds => exact kitAny_cons (b := false) (kit_ty (by dsimp only [tyN]; decide +kernel)) (fun _ => kitAny_cons (b := true) (kit_ty (by dsimp only [tyN]; decide +kernel)) (fun h => nomatch h) (fun _ => rfl)) (fun h => nomatch h)
  | _ => exact kitAny_cons (b := false) (kit_ty (by dsimp only [tyN]; decide +kernel)) (fun _ => kitAny_cons (b := false) (kit_ty (by dsimp only [tyN]; decide +kernel)) (fun _ => kitAny_nil) (fun h => nomatch h)) (fun h => nomatch h)
theorem ok_same0 (T : Top K mg) : FnOk P w K mg base CX0 0 T.a_same T.d_same ["_law_found", "_law_due"] (spSame K 0) := by
  have no : ∀ vs H Q E, ¬ spSame K 0 vs H Q E := fun vs H Q E h => by
    obtain ⟨x, y, d, _, _, _, h1, _⟩ := h
    cases d <;> exact h1
  exact ⟨fun vs H Q E h => absurd h (no vs H Q E), fun A outer s H args us vs Q E _ _ _ _ h => absurd h (no vs H Q E)⟩
theorem ok_same1 (T : Top K mg) {n : Nat} (G : FnOk P w K mg base CX0 n T.a_same T.d_same ["_law_found", "_law_due"] (spSame K n)) : FnOk P w K mg base CX0 (n + 1) T.a_same T.d_same ["_law_found", "_law_due"] (spSame K (n + 1)) := by
  refine T.F_same.ok sc_same (fun vs H Q E h => ?_) (fun cdv A outer s H vs Q E hr h => ?_)
  · obtain ⟨x, y, d, rfl, _⟩ := h
    rfl
  obtain ⟨x, y, d, rfl, hx, hy, hf, k⟩ := h
  refine ⟨_, (pss_cons (ps_if (PW.pt (pw_or (pt_cmpR op_isN (pv 1) pe_non (nomark _)) (pw_or1 (pt_cmpR op_isN (pv 0) pe_non (nomark _))))) (pss_one (ps_ret (pe_and (pe_cmpR op_isN (pv 1) pe_non (nomark _)) (pe_one (pe_cmpR op_isN (pv 0) pe_non (nomark _)))))) pss_nil)
    (pss_cons (ps_if (pt_val (pe_callB call_isiT (by rfl) T.z_isinstance (by decide +kernel) (pa_cons (pv 1) (pa_cons (pe_tup (pa_cons (pe_bltn (v := .ty "list") (by rfl) T.z_list (by decide +kernel) rfl) (pa_cons (pe_bltn (v := .ty "tuple") (by rfl) T.z_tuple (by decide +kernel) rfl) pa_nil))) pa_nil)))) (pss_cons (ps_if (PW.pt (pw_or (pt_cmpR op_ne (pe_callB call_isi (by rfl) T.z_isinstance (by decide +kernel) (pa_cons (pv 0) (pa_cons (pe_bltn (v := .ty "list") (by rfl) T.z_list (by decide +kernel) rfl) pa_nil))) (pe_callB call_isi (by rfl) T.z_isinstance (by decide +kernel) (pa_cons (pv 1) (pa_cons (pe_bltn (v := .ty "list") (by rfl) T.z_list (by decide +kernel) rfl) pa_nil))) (nomark _)) (pw_or1 (pt_cmpR op_ne (pe_callB call_isi (by rfl) T.z_isinstance (by decide +kernel) (pa_cons (pv 0) (pa_cons (pe_bltn (v := .ty "tuple") (by rfl) T.z_tuple (by decide +kernel) rfl) pa_nil))) (pe_callB call_isi (by rfl) T.z_isinstance (by decide +kernel) (pa_cons (pv 1) (pa_cons (pe_bltn (v := .ty "tuple") (by rfl) T.z_tuple (by decide +kernel) rfl) pa_nil))) (nomark _))))) (pss_one (ps_ret pe_bl)) pss_nil)
    (pss_one (ps_ret (pe_and (pe_cmpR op_eq (pe_callB call_len (by rfl) T.z_len (by decide +kernel) (pa_cons (pv 0) pa_nil)) (pe_callB call_len (by rfl) T.z_len (by decide +kernel) (pa_cons (pv 1) pa_nil)) (nomark _)) (pe_one (pe_callB (cr_all rfl) (by rfl) T.z_all (by decide +kernel) (pa_cons (pe_lc (own := [("_law_a", 2), ("_law_b", 3)]) (g := gTup K 2 (gCons (gName 2) (gCons (gName 3) gNil))) (tt := tYes) rfl sc_same.nd (RZ.pi_zipA (by rfl) T.z_zip (pa_cons (pv 0) (pa_cons (pv 1) pa_nil))) (blkOk_by (own := [("_law_a", 2), ("_law_b", 3)]) (N := n_same) (sc := defScope s_same) (by decide +kernel)) (fun _ _ _ _ _ => by exact (pg_tup rfl (pgs_cons (pg_name (i := 2) sc_same.nd rfl (Or.inl rfl)) (pgs_cons (pg_name (i := 3) sc_same.nd rfl (Or.inl rfl)) pgs_nil)))) (fun _ _ _ _ _ => pts_nil) (fun _ _ _ _ _ => (pe_call G hr rfl T.m_same T.F_same.kp T.b_same .nil pass0 (pa_cons (pv 2) (pa_cons (pv 3) pa_nil))))) pa_nil))))))) pss_nil)
    (pss_cons (ps_if (PW.pt (pw_or (pt_val (pe_callB call_isi (by rfl) T.z_isinstance (by decide +kernel) (pa_cons (pv 1) (pa_cons (pe_bltn (v := .ty "bool") (by rfl) T.z_bool (by decide +kernel) rfl) pa_nil)))) (pw_or1 (pt_val (pe_callB call_isi (by rfl) T.z_isinstance (by decide +kernel) (pa_cons (pv 0) (pa_cons (pe_bltn (v := .ty "bool") (by rfl) T.z_bool (by decide +kernel) rfl) pa_nil))))))) (pss_one (ps_ret (pe_and (pe_callB call_isi (by rfl) T.z_isinstance (by decide +kernel) (pa_cons (pv 1) (pa_cons (pe_bltn (v := .ty "bool") (by rfl) T.z_bool (by decide +kernel) rfl) pa_nil))) (pe_and (pe_callB call_isi (by rfl) T.z_isinstance (by decide +kernel) (pa_cons (pv 0) (pa_cons (pe_bltn (v := .ty "bool") (by rfl) T.z_bool (by decide +kernel) rfl) pa_nil))) (pe_one (pe_cmpR op_eq (pv 0) (pv 1) (nomark _))))))) pss_nil)
    (pss_cons (ps_if (pt_val (pe_callB call_isi (by rfl) T.z_isinstance (by decide +kernel) (pa_cons (pv 1) (pa_cons (pe_bltn (v := .ty "int") (by rfl) T.z_int (by decide +kernel) rfl) pa_nil)))) (pss_one (ps_ret (pe_and (pe_callB call_isi (by rfl) T.z_isinstance (by decide +kernel) (pa_cons (pv 0) (pa_cons (pe_bltn (v := .ty "int") (by rfl) T.z_int (by decide +kernel) rfl) pa_nil))) (pe_one (pe_cmpR op_eq (pv 0) (pv 1) (nomark _)))))) pss_nil)
    (pss_one (ps_ret (pe_and (pe_callB call_isi (by rfl) T.z_isinstance (by decide +kernel) (pa_cons (pv 0) (pa_cons (pe_bltn (v := .ty "str") (by rfl) T.z_str (by decide +kernel) rfl) pa_nil))) (pe_and (pe_callB call_isi (by rfl) T.z_isinstance (by decide +kernel) (pa_cons (pv 1) (pa_cons (pe_bltn (v := .ty "str") (by rfl) T.z_str (by decide +kernel) rfl) pa_nil))) (pe_one (pe_cmpR op_eq (pv 0) (pv 1) (nomark _))))))))))), ?_⟩
  cases d with
  | none =>
    obtain rfl : x = .non := by cases hx; rfl
    obtain rfl : y = .non := by cases hy; rfl
    refine ⟨_, rfl, rfl, _, rfl, ?_⟩
    refine iteT ?_
    refine ⟨_, rfl, rfl, _, rfl, ?_⟩
    refine iteT ?_
    refine ⟨_, rfl, rfl, ?_⟩
    exact k H (Same.refl _)
  | bool b =>
    obtain rfl : x = .bl b := by cases hx; rfl
    obtain rfl : y = .bl b := by cases hy; rfl
    refine ⟨_, rfl, rfl, _, rfl, ?_⟩
    refine iteF ?_
    refine ⟨_, rfl, rfl, _, rfl, ?_⟩
    refine iteF ?_
    refine ⟨_, rfl, (by show 2 ≤ sizeLine; decide), fun tp htp => ?_⟩
    have g := same_new htp (.tup [.ty "list", .ty "tuple"])
    have hx' := Dp.mono g _ _ hx
    refine ⟨_, tp, _, _, _, _, rfl, upd_same, .cons (.ty "list") (.cons (.ty "tuple") .nil), Dp.ty hx', kit_lt _, _, rfl, ?_⟩
    refine iteF ?_
    refine ⟨_, rfl, _, .ty "bool", _, _, _, rfl, .ty "bool", Dp.ty hx', kit_d some_bool, _, rfl, ?_⟩
    rw [isBool_eq]
    refine iteT ?_
    refine ⟨_, rfl, _, .ty "bool", _, _, _, rfl, .ty "bool", Dp.ty hx', kit_d some_bool, _, rfl, ?_⟩
    rw [isBool_eq]
    refine iteT ?_
    refine ⟨_, rfl, _, .ty "bool", _, _, _, rfl, .ty "bool", Dp.ty hx', kit_d some_bool, _, rfl, ?_⟩
    rw [isBool_eq]
    refine iteT ?_
    refine ⟨_, rfl, _, rfl, rfl, ?_⟩
    rw [decide_eq_true rfl]
    exact k _ g
  | int i =>
    obtain rfl : x = .int i := by cases hx; rfl
    obtain rfl : y = .int i := by cases hy; rfl
    refine ⟨_, rfl, rfl, _, rfl, ?_⟩
    refine iteF ?_
    refine ⟨_, rfl, rfl, _, rfl, ?_⟩
    refine iteF ?_
    refine ⟨_, rfl, (by show 2 ≤ sizeLine; decide), fun tp htp => ?_⟩
    have g := same_new htp (.tup [.ty "list", .ty "tuple"])
    have hx' := Dp.mono g _ _ hx
    refine ⟨_, tp, _, _, _, _, rfl, upd_same, .cons (.ty "list") (.cons (.ty "tuple") .nil), Dp.ty hx', kit_lt _, _, rfl, ?_⟩
    refine iteF ?_
    refine ⟨_, rfl, _, .ty "bool", _, _, _, rfl, .ty "bool", Dp.ty hx', kit_d some_bool, _, rfl, ?_⟩
    rw [isBool_eq]
    refine iteF ?_
    refine ⟨_, rfl, _, .ty "bool", _, _, _, rfl, .ty "bool", Dp.ty hx', kit_d some_bool, _, rfl, ?_⟩
    rw [isBool_eq]
    refine iteF ?_
    refine ⟨_, rfl, _, .ty "int", _, _, _, rfl, .ty "int", Dp.ty hx', kit_d some_int, _, rfl, ?_⟩
    rw [isInt_eq]
    refine iteT ?_
    refine ⟨_, rfl, _, .ty "int", _, _, _, rfl, .ty "int", Dp.ty hx', kit_d some_int, _, rfl, ?_⟩
    rw [isInt_eq]
    refine iteT ?_
    refine ⟨_, rfl, _, rfl, rfl, ?_⟩
    rw [decide_eq_true rfl]
    exact k _ g
  | str z =>
    obtain rfl : x = .str z := by cases hx; rfl
    obtain rfl : y = .str z := by cases hy; rfl
    refine ⟨_, rfl, rfl, _, rfl, ?_⟩
    refine iteF ?_
    refine ⟨_, rfl, rfl, _, rfl, ?_⟩
    refine iteF ?_
    refine ⟨_, rfl, (by show 2 ≤ sizeLine; decide), fun tp htp => ?_⟩
    have g := same_new htp (.tup [.ty "list", .ty "tuple"])
    have hx' := Dp.mono g _ _ hx
    refine ⟨_, tp, _, _, _, _, rfl, upd_same, .cons (.ty "list") (.cons (.ty "tuple") .nil), Dp.ty hx', kit_lt _, _, rfl, ?_⟩
    refine iteF ?_
    refine ⟨_, rfl, _, .ty "bool", _, _, _, rfl, .ty "bool", Dp.ty hx', kit_d some_bool, _, rfl, ?_⟩
    rw [isBool_eq]
    refine iteF ?_
    refine ⟨_, rfl, _, .ty "bool", _, _, _, rfl, .ty "bool", Dp.ty hx', kit_d some_bool, _, rfl, ?_⟩
    rw [isBool_eq]
    refine iteF ?_
    refine ⟨_, rfl, _, .ty "int", _, _, _, rfl, .ty "int", Dp.ty hx', kit_d some_int, _, rfl, ?_⟩
    rw [isInt_eq]
    refine iteF ?_
    refine ⟨_, rfl, _, .ty "str", _, _, _, rfl, .ty "str", Dp.ty hx', kit_d some_str, _, rfl, ?_⟩
    rw [isStr_eq]
    refine iteT ?_
    refine ⟨_, rfl, _, .ty "str", _, _, _, rfl, .ty "str", Dp.ty hx', kit_d some_str, _, rfl, ?_⟩
    rw [isStr_eq]
    refine iteT ?_
    refine ⟨_, rfl, _, rfl, rfl, ?_⟩
    rw [decide_eq_true rfl]
    exact k _ g
  | list ds =>
    cases hx with
    | lst hsx hax =>
    cases hy with
    | lst hsy hay =>
    rename_i ax xs ay ys
    have hx : Dp K H (.ref ax) (.list ds) := .lst hsx hax
    have hy : Dp K H (.ref ay) (.list ds) := .lst hsy hay
    refine ⟨_, rfl, rfl, _, rfl, ?_⟩
    refine iteF ?_
    refine ⟨_, rfl, rfl, _, rfl, ?_⟩
    refine iteF ?_
    refine ⟨_, rfl, (by show 2 ≤ sizeLine; decide), fun tp htp => ?_⟩
    have g := same_new htp (.tup [.ty "list", .ty "tuple"])
    have hT1 : (upd H tp (.tup [.ty "list", .ty "tuple"])) tp = some (.tup [.ty "list", .ty "tuple"]) := upd_same
    generalize upd H tp (.tup [.ty "list", .ty "tuple"]) = H1 at g hT1 ⊢
    have hx' := Dp.mono g _ _ hx
    have hy' := Dp.mono g _ _ hy
    refine ⟨_, tp, _, _, _, _, rfl, hT1, .cons (.ty "list") (.cons (.ty "tuple") .nil), Dp.ty hy', kit_lt _, _, rfl, ?_⟩
    refine iteT ?_
    refine ⟨_, rfl, _, .ty "list", _, _, _, rfl, .ty "list", Dp.ty hx', kit_d some_list, _, rfl, _, .ty "list", _, _, _, rfl, .ty "list", Dp.ty hy', kit_d some_list, rfl, _, rfl, ?_⟩
    refine iteNS rfl ?_
    refine ⟨_, rfl, _, .ty "tuple", _, _, _, rfl, .ty "tuple", Dp.ty hx', kit_d some_tuple, _, rfl, _, .ty "tuple", _, _, _, rfl, .ty "tuple", Dp.ty hy', kit_d some_tuple, rfl, _, rfl, ?_⟩
    refine iteNS rfl ?_
    have lx := DpAll.len hax
    have ly := DpAll.len hay
    refine ⟨_, rfl, _, ds.length, rfl, .inl ⟨xs, Same.seq g hsx, lx.symm⟩, _, rfl, _, ds.length, rfl, .inl ⟨ys, Same.seq g hsy, ly.symm⟩, rfl, _, rfl, ?_⟩
    rw [decide_eq_true rfl]
    refine iteT ?_
    refine ⟨_, rfl, _, rfl, ax, ay, xs, ys, rfl, .inl ⟨Same.seq g hsx, Same.seq g hsy, fun D hD => ?_⟩⟩
    refine lc_it (walk_zip (xs := xs) (ys := ys) (n := ds.length) (by omega)) (fun i H2 => Same H1 H2 ∧ H2 D = some (.lst ((List.replicate i true).map V.bl))) ⟨same_new hD _, upd_same⟩ (fun i H2 _ q => ⟨Same.seq (g.trans q.1) hsx, Same.seq (g.trans q.1) hsy⟩) ?_ ?_
    · rintro i x H2 H3 hi ⟨g2, hl⟩ ⟨Tt, u, v, rfl, hT, rfl, hu, hv⟩
      obtain ⟨d1, hd1, du⟩ := DpAll.get hax hu
      obtain ⟨d2, hd2, dv⟩ := DpAll.get hay hv
      rw [hd1] at hd2
      cases hd2
      have g3 := g.trans (g2.trans (same_new hT (.tup [u, v])))
      have hfd : Fits n d1 := hf.2 d1 (List.mem_of_getElem? hd1)
      refine ⟨Tt, _, rfl, SqT.of upd_same, rfl, _, _, rfl, _, _, rfl, rfl, rfl, ?_⟩
      refine ⟨_, rfl, _, rfl, u, v, d1, rfl, Dp.mono g3 _ _ du, Dp.mono g3 _ _ dv, hfd, fun H' g4 => ?_⟩
      have hD' : H' D = some (.lst ((List.replicate i true).map V.bl)) := g4 _ _ (by rw [upd_ne (ne_of_none hl hT)]; exact hl)
      have hlen : ((List.replicate i true).map V.bl).length < sizeLine := by
        rw [List.length_map, List.length_replicate]
        exact small' (Nat.lt_trans hi hf.1)
      refine ⟨_, hD', hlen, fun b o q => ?_, ?_⟩
      · rw [upd_ne (ne_of_none q hD)]
        exact g4 _ _ (same_new hT _ _ _ (g2 b o q))
      · rw [upd_same, List.replicate_succ', List.map_append]
        rfl
    · rintro H2 ⟨g2, hl⟩
      refine ⟨D, _, rfl, SqL.of hl, ?_⟩
      have e : (List.replicate ds.length true).all id = true := by simp
      rw [e]
      exact k H2 (g.trans g2)
  | tuple ds =>
    cases hx with
    | tup hsx hax =>
    cases hy with
    | tup hsy hay =>
    rename_i ax xs ay ys
    have hx : Dp K H (.ref ax) (.tuple ds) := .tup hsx hax
    have hy : Dp K H (.ref ay) (.tuple ds) := .tup hsy hay
    refine ⟨_, rfl, rfl, _, rfl, ?_⟩
    refine iteF ?_
    refine ⟨_, rfl, rfl, _, rfl, ?_⟩
    refine iteF ?_
    refine ⟨_, rfl, (by show 2 ≤ sizeLine; decide), fun tp htp => ?_⟩
    have g := same_new htp (.tup [.ty "list", .ty "tuple"])
    have hT1 : (upd H tp (.tup [.ty "list", .ty "tuple"])) tp = some (.tup [.ty "list", .ty "tuple"]) := upd_same
    generalize upd H tp (.tup [.ty "list", .ty "tuple"]) = H1 at g hT1 ⊢
    have hx' := Dp.mono g _ _ hx
    have hy' := Dp.mono g _ _ hy
    refine ⟨_, tp, _, _, _, _, rfl, hT1, .cons (.ty "list") (.cons (.ty "tuple") .nil), Dp.ty hy', kit_lt _, _, rfl, ?_⟩
    refine iteT ?_
    refine ⟨_, rfl, _, .ty "list", _, _, _, rfl, .ty "list", Dp.ty hx', kit_d some_list, _, rfl, _, .ty "list", _, _, _, rfl, .ty "list", Dp.ty hy', kit_d some_list, rfl, _, rfl, ?_⟩
    refine iteNS rfl ?_
    refine ⟨_, rfl, _, .ty "tuple", _, _, _, rfl, .ty "tuple", Dp.ty hx', kit_d some_tuple, _, rfl, _, .ty "tuple", _, _, _, rfl, .ty "tuple", Dp.ty hy', kit_d some_tuple, rfl, _, rfl, ?_⟩
    refine iteNS rfl ?_
    have lx := DpAll.len hax
    have ly := DpAll.len hay
    refine ⟨_, rfl, _, ds.length, rfl, .inr ⟨xs, Same.tup g hsx, lx.symm⟩, _, rfl, _, ds.length, rfl, .inr ⟨ys, Same.tup g hsy, ly.symm⟩, rfl, _, rfl, ?_⟩
    rw [decide_eq_true rfl]
    refine iteT ?_
    refine ⟨_, rfl, _, rfl, ax, ay, xs, ys, rfl, .inr ⟨Same.tup g hsx, Same.tup g hsy, fun D hD => ?_⟩⟩
    refine lc_it (walk_zipT (xs := xs) (ys := ys) (n := ds.length) (by omega)) (fun i H2 => Same H1 H2 ∧ H2 D = some (.lst ((List.replicate i true).map V.bl))) ⟨same_new hD _, upd_same⟩ (fun i H2 _ q => ⟨Same.tup (g.trans q.1) hsx, Same.tup (g.trans q.1) hsy⟩) ?_ ?_
    · rintro i x H2 H3 hi ⟨g2, hl⟩ ⟨Tt, u, v, rfl, hT, rfl, hu, hv⟩
      obtain ⟨d1, hd1, du⟩ := DpAll.get hax hu
      obtain ⟨d2, hd2, dv⟩ := DpAll.get hay hv
      rw [hd1] at hd2
      cases hd2
      have g3 := g.trans (g2.trans (same_new hT (.tup [u, v])))
      have hfd : Fits n d1 := hf.2 d1 (List.mem_of_getElem? hd1)
      refine ⟨Tt, _, rfl, SqT.of upd_same, rfl, _, _, rfl, _, _, rfl, rfl, rfl, ?_⟩
      refine ⟨_, rfl, _, rfl, u, v, d1, rfl, Dp.mono g3 _ _ du, Dp.mono g3 _ _ dv, hfd, fun H' g4 => ?_⟩
      have hD' : H' D = some (.lst ((List.replicate i true).map V.bl)) := g4 _ _ (by rw [upd_ne (ne_of_none hl hT)]; exact hl)
      have hlen : ((List.replicate i true).map V.bl).length < sizeLine := by
        rw [List.length_map, List.length_replicate]
        exact small' (Nat.lt_trans hi hf.1)
      refine ⟨_, hD', hlen, fun b o q => ?_, ?_⟩
      · rw [upd_ne (ne_of_none q hD)]
        exact g4 _ _ (same_new hT _ _ _ (g2 b o q))
      · rw [upd_same, List.replicate_succ', List.map_append]
        rfl
    · rintro H2 ⟨g2, hl⟩
      refine ⟨D, _, rfl, SqL.of hl, ?_⟩
      have e : (List.replicate ds.length true).all id = true := by simp
      rw [e]
      exact k H2 (g.trans g2)
  | dict _ => cases hx
theorem ok_same (T : Top K mg) : ∀ n : Nat, FnOk P w K mg base CX0 n T.a_same T.d_same ["_law_found", "_law_due"] (spSame K n)
  | 0 => ok_same0 T
  | n + 1 => ok_same1 T (ok_same T n)
end
end Bl

namespace Bl
open PySem L2
abbrev n_odd : List Str := ["_law_box_here", "_law_more"]
theorem sc_odd : FnScope n_odd ["_law_box_here", "_law_more"] (defScope s_odd) := ⟨rfl, rfl, rfl, by decide +kernel, rfl, by decide +kernel, by decide +kernel⟩
section
variable {P : Program} {w : World} {K : PySem.W.Frag} {mg : Str → Option Value} {base : Heap}
def oddV (t1 l1 t0 : Addr) : List V := [.non, .bl true, .bl false, .str "", .str "A", .str "a1", .str "sevenst", .int (-1), .int 7, .ref t1, .ref l1, .ref t0, .int (10 ^ 14)]
theorem DpAll.len' {K : PySem.W.Frag} {H : Hp} {ds : List PyData} {vs : List V} (h : DpAll K H vs ds) : ds.length = vs.length := (DpAll.len h).symm
theorem ok_odd (T : Top K mg) : FnOk P w K mg base CX0 3 T.a_odd T.d_odd ["_law_box_here", "_law_more"] (spOdd K) := by
  refine T.F_odd.ok sc_odd (fun vs H Q E h => ?_) (fun cdv A outer s H vs Q E hr h => ?_)
  · obtain ⟨p, l, q, ys, ds, rfl, _⟩ := h
    rfl
  obtain ⟨p, l, q, ys, ds, rfl, B, hq, hqp, hds, hlen, k⟩ := h
  refine ⟨_, (pss_one (ps_ret (pe_call (ok_of T) (hr.mono (by decide)) rfl T.m_of T.F_of.kp T.b_of .nil pass0 (pa_cons (pv 0) (pa_cons (pe_op op_cat (pe_lst (pa_cons pe_non (pa_cons pe_bl (pa_cons pe_bl (pa_cons pe_str (pa_cons pe_str (pa_cons pe_str (pa_cons pe_str (pa_cons (pe_un un_neg pe_int) (pa_cons pe_int (pa_cons (pe_tup (pa_cons pe_int (pa_cons pe_str pa_nil))) (pa_cons (pe_lst (pa_cons pe_int pa_nil)) (pa_cons (pe_tup pa_nil) (pa_cons (pe_op op_pow pe_int pe_int) pa_nil)))))))))))))) (pv 1)) pa_nil))))), ?_⟩
  refine ⟨_, rfl, _, rfl, (by show 2 ≤ sizeLine; decide), fun t1 h1 => ⟨(by show 1 ≤ sizeLine; decide), fun l1 h2 => ⟨(by show 0 ≤ sizeLine; decide), fun t0 h3 => ?_⟩⟩⟩
  have B1 := B.new h1 (.tup [.int 1, .str "a"])
  have B2 := B1.new h2 (.lst [.int 1])
  have B3 := B2.new h3 (.tup [])
  have e1 := same_new h1 (.tup [.int 1, .str "a"])
  have e2 := same_new h2 (.lst [.int 1])
  have e3 := same_new h3 (.tup [])
  have n1 := B.ne h1
  have n2 := B1.ne h2
  have n3 := B2.ne h3
  have f1 : hide p (upd H t1 (.tup [.int 1, .str "a"])) t1 = some (.tup [.int 1, .str "a"]) := hid_same n1
  have f2 : hide p (upd (upd H t1 (.tup [.int 1, .str "a"])) l1 (.lst [.int 1])) l1 = some (.lst [.int 1]) := hid_same n2
  have f3 : hide p (upd (upd (upd H t1 (.tup [.int 1, .str "a"])) l1 (.lst [.int 1])) t0 (.tup [])) t0 = some (.tup []) := hid_same n3
  generalize (upd (upd (upd H t1 (.tup [.int 1, .str "a"])) l1 (.lst [.int 1])) t0 (.tup [])) = H3 at *
  generalize (upd (upd H t1 (.tup [.int 1, .str "a"])) l1 (.lst [.int 1])) = H2 at *
  generalize (upd H t1 (.tup [.int 1, .str "a"])) = H1 at *
  refine ⟨_, _, rfl, rfl, ⟨by decide, by decide, by decide⟩, (by show 13 ≤ sizeLine; decide), fun L hL => ?_⟩
  have e4 := same_new hL (.lst (oddV t1 l1 t0))
  have e03 := e1.trans (e2.trans e3)
  have D13 : DpAll K (hide p H3) (oddV t1 l1 t0) odds :=
    .cons .non (.cons (.bl _) (.cons (.bl _) (.cons (.str _) (.cons (.str _) (.cons (.str _) (.cons (.str _) (.cons (.int _) (.cons (.int _)
      (.cons (.tup (SqT.of (hide_mono (e2.trans e3) _ _ f1)) (.cons (.int _) (.cons (.str _) .nil)))
      (.cons (.lst (SqL.of (hide_mono e3 _ _ f2)) (.cons (.int _) .nil))
      (.cons (.tup (SqT.of f3) .nil) (.cons (.int _) .nil))))))))))))
  have Dall := DpAll.app D13 (DpAll.mono (hide_mono e03) _ _ hds)
  have ly := DpAll.len hds
  refine ⟨_, rfl, L, q, _, ys, rfl, rfl, (upd_same : (upd H3 L (.lst (oddV t1 l1 t0))) L = _), e4 _ _ (e03 _ _ hq), (by show 13 + ys.length ≤ sizeLine; exact small (by omega)), fun M hM => ?_⟩
  have hM' : (upd H3 L (.lst (oddV t1 l1 t0))) M = none := hM
  have B4 := B3.new hL (.lst (oddV t1 l1 t0))
  have nM := B4.ne hM'
  have e5 : Same H3 (upd (upd H3 L (.lst (oddV t1 l1 t0))) M (.lst (oddV t1 l1 t0 ++ ys))) := e4.trans (same_new hM' _)
  refine ⟨p, l, .ref M, rfl, B4.new hM' (.lst (oddV t1 l1 t0 ++ ys)), .inl ⟨M, _, rfl, .inl (SqL.of (hid_same nM)), (by rw [List.length_append]; exact Nat.lt_of_lt_of_le (by decide : 0 < 13) (Nat.le_add_right _ _)), (by rw [List.length_append]; show 13 + ys.length < 1000000; omega), fun i x H' hx B' e => ?_⟩⟩
  obtain ⟨d, hd, hxd⟩ := DpAll.get Dall hx
  exact k x d H' (List.mem_of_getElem? hd) (Dp.mono e _ _ (Dp.mono (hide_mono e5) _ _ hxd)) B' ((hide_mono (e03.trans e5)).trans e)
end
end Bl

namespace Bl
open PySem L2
abbrev n_field : List Str := ["_law_e"]
theorem sc_field : FnScope n_field ["_law_e"] (defScope s_field) := ⟨rfl, rfl, rfl, by decide +kernel, rfl, by decide +kernel, by decide +kernel⟩
abbrev n_bases : List Str := ["_law_e"]
theorem sc_bases : FnScope n_bases ["_law_e"] (defScope s_bases) := ⟨rfl, rfl, rfl, by decide +kernel, rfl, by decide +kernel, by decide +kernel⟩
def l1 : List V := [.str "InvalidName", .str "InvalidKey", .str "InvalidTest", .str "InvalidThing", .str "InvalidSetting", .str "InvalidWord", .str "InvalidNumber"]
def l2 : List V := [.str "InvalidColumn", .str "InvalidSide", .str "InvalidStep", .str "InvalidCommand"]
def l5 : List V := [.str "DuplicateName", .str "UnknownName", .str "UnknownColumn"]
def l6 : List V := [.str "TooMany", .str "Full"]
def oneF (i : Nat) (f : Str) : Bool := decide ((rowAt i).2 = [f])
def twoF (i : Nat) (f g : Str) : Bool := decide ((rowAt i).2 = [f, g])
def fieldC (i : Nat) : Bool :=
  if inV (.str (rowAt i).1) l1 = true then oneF i "given" else
  if inV (.str (rowAt i).1) l2 = true then oneF i "at" else
  if decide (V.str (rowAt i).1 = V.str "InvalidRow") = true then twoF i "table" "at" else
  if decide (V.str (rowAt i).1 = V.str "Torn") = true then twoF i "one" "other" else
  if inV (.str (rowAt i).1) l5 = true then oneF i "name" else
  if inV (.str (rowAt i).1) l6 = true then oneF i "most" else
  if decide (V.str (rowAt i).1 = V.str "SideTaken") = true then oneF i "taken" else
  if decide (V.str (rowAt i).1 = V.str "UnknownRow") = true then oneF i "number" else
  if decide (V.str (rowAt i).1 = V.str "InvalidText") = true then oneF i "line" else decide ((rowAt i).2 = [])
theorem fieldC_all : ∀ i, i < 24 → fieldC i = true := by decide +kernel
/-- the one field, or both -/
def datOf : List PyData → PyData
  | [] => .none
  | [d] => d
  | ds => .tuple ds
section
variable {P : Program} {w : World} {K : PySem.W.Frag} {mg : Str → Option Value} {base : Heap}
theorem ErrAt.lt {T : Top K mg} {H : Hp} {i : Nat} {x : V} {ys : List V} (h : ErrAt T H i x ys) : i < 24 := by
  obtain ⟨C, _, _, h1, _⟩ := h.ex
  exact (List.getElem?_eq_some_iff.mp h1).1
theorem lk_one {i : Nat} {f : Str} {y : V} (hf : (rowAt i).2 = [f]) (hc : (f == ("code" : Str)) = false) : (mkF (rowAt i) [y]).lookup f = some y := by
  unfold mkF
  rw [hf]
  show List.lookup f [("code", .str _), (f, y)] = some y
  simp [List.lookup, hc]
theorem lk_fst {i : Nat} {f g : Str} {y z : V} (hf : (rowAt i).2 = [f, g]) (hc : (f == ("code" : Str)) = false) (hg : (f == g) = false) : (mkF (rowAt i) [y, z]).lookup f = some y := by
  unfold mkF
  rw [hf]
  show List.lookup f [("code", .str _), (g, z), (f, y)] = some y
  simp [List.lookup, hc, hg]
theorem lk_snd {i : Nat} {f g : Str} {y z : V} (hf : (rowAt i).2 = [f, g]) (hc : (g == ("code" : Str)) = false) : (mkF (rowAt i) [y, z]).lookup g = some z := by
  unfold mkF
  rw [hf]
  show List.lookup g [("code", .str _), (g, z), (f, y)] = some z
  simp [List.lookup, hc]
theorem nof_one {C : Addr} {i : Nat} {f : Str} (N : NoF K C (rowAt i)) (hf : (rowAt i).2 = [f]) : PySem.W.findIn K (.ref C) f = some none := N.field f (by rw [hf]; exact List.mem_cons_self)
theorem nof_fst {C : Addr} {i : Nat} {f g : Str} (N : NoF K C (rowAt i)) (hf : (rowAt i).2 = [f, g]) : PySem.W.findIn K (.ref C) f = some none := N.field f (by rw [hf]; exact List.mem_cons_self)
theorem nof_snd {C : Addr} {i : Nat} {f g : Str} (N : NoF K C (rowAt i)) (hf : (rowAt i).2 = [f, g]) : PySem.W.findIn K (.ref C) g = some none := N.field g (by rw [hf]; exact List.mem_cons_of_mem _ List.mem_cons_self)
theorem one_of {i : Nat} {f : Str} {ys : List V} (h5 : ys.length = (rowAt i).2.length) (hf : (rowAt i).2 = [f]) : ∃ y, ys = [y] := by
  rw [hf] at h5
  match ys, h5 with
  | [y], _ => exact ⟨y, rfl⟩
theorem two_of {i : Nat} {f g : Str} {ys : List V} (h5 : ys.length = (rowAt i).2.length) (hf : (rowAt i).2 = [f, g]) : ∃ y z, ys = [y, z] := by
  rw [hf] at h5
  match ys, h5 with
  | [y, z], _ => exact ⟨y, z, rfl⟩
theorem nix_of {i : Nat} {ys : List V} (h5 : ys.length = (rowAt i).2.length) (hf : (rowAt i).2 = []) : ys = [] := by
  rw [hf] at h5
  exact List.eq_nil_of_length_eq_zero h5
def spField (T : Top K mg) : Sp := fun vs H Q _ => ∃ (x : V) (i : Nat) (ys : List V) (ds : List PyData) (D : Addr) (o : HO), vs = [x] ∧ ErrAt T H i x ys ∧ H D = some o ∧ DpAll K (hide D H) ys ds ∧
  ∀ (v : V) (H' : Hp), Same H H' → Dp K (hide D H') v (datOf ds) → Q v H'
theorem dp_one {H : Hp} {y : V} {ds : List PyData} (h : DpAll K H [y] ds) : Dp K H y (datOf ds) := by
  cases h with
  | cons h1 h2 =>
    cases h2
    exact h1
theorem dp_two {H : Hp} {p : Addr} {y z : V} {ds : List PyData} (h : DpAll K H [y, z] ds) (s : SqT K H p [y, z]) : Dp K H (.ref p) (datOf ds) := by
  cases h with
  | cons h1 h2 =>
    cases h2 with
    | cons h2 h3 =>
      cases h3
      exact .tup s (.cons h1 (.cons h2 .nil))
theorem ok_field (T : Top K mg) : FnOk P w K mg base CX0 1 T.a_field T.d_field ["_law_e"] (spField T) := by
  refine T.F_field.ok sc_field (fun vs H Q E h => ?_) (fun cdv A outer s H vs Q E hr h => ?_)
  · obtain ⟨x, i, ys, ds, D, o, rfl, _⟩ := h
    rfl
  obtain ⟨x, i, ys, ds, D, o, rfl, h, hD, hd, k⟩ := h
  have tb := fieldC_all i h.lt
  unfold fieldC oneF twoF at tb
  refine ⟨_, (pss_cons (ps_if (pt_cmpR op_in_seq (pe_xat (pv 0)) (pe_lst (pa_cons pe_str (pa_cons pe_str (pa_cons pe_str (pa_cons pe_str (pa_cons pe_str (pa_cons pe_str (pa_cons pe_str pa_nil)))))))) rfl) (pss_one (ps_ret (pe_xat (pv 0)))) pss_nil)
    (pss_cons (ps_if (pt_cmpR op_in_seq (pe_xat (pv 0)) (pe_lst (pa_cons pe_str (pa_cons pe_str (pa_cons pe_str (pa_cons pe_str pa_nil))))) rfl) (pss_one (ps_ret (pe_xat (pv 0)))) pss_nil)
    (pss_cons (ps_if (pt_cmpR op_eq (pe_xat (pv 0)) pe_str (nomark _)) (pss_one (ps_ret (pe_tup (pa_cons (pe_xat (pv 0)) (pa_cons (pe_xat (pv 0)) pa_nil))))) pss_nil)
    (pss_cons (ps_if (pt_cmpR op_eq (pe_xat (pv 0)) pe_str (nomark _)) (pss_one (ps_ret (pe_tup (pa_cons (pe_xat (pv 0)) (pa_cons (pe_xat (pv 0)) pa_nil))))) pss_nil)
    (pss_cons (ps_if (pt_cmpR op_in_seq (pe_xat (pv 0)) (pe_lst (pa_cons pe_str (pa_cons pe_str (pa_cons pe_str pa_nil)))) rfl) (pss_one (ps_ret (pe_xat (pv 0)))) pss_nil)
    (pss_cons (ps_if (pt_cmpR op_in_seq (pe_xat (pv 0)) (pe_lst (pa_cons pe_str (pa_cons pe_str pa_nil))) rfl) (pss_one (ps_ret (pe_xat (pv 0)))) pss_nil)
    (pss_cons (ps_if (pt_cmpR op_eq (pe_xat (pv 0)) pe_str (nomark _)) (pss_one (ps_ret (pe_xat (pv 0)))) pss_nil)
    (pss_cons (ps_if (pt_cmpR op_eq (pe_xat (pv 0)) pe_str (nomark _)) (pss_one (ps_ret (pe_xat (pv 0)))) pss_nil)
    (pss_one (ps_ret (pe_ifExp (pt_cmpR op_eq (pe_xat (pv 0)) pe_str (nomark _)) (pe_xat (pv 0)) pe_non))))))))))), ?_⟩
  obtain ⟨C, a, dx, h1, rfl, h3, h4, h5⟩ := h.ex
  have X := T.xs.get h1
  have N := T.no h1
  clear h
  refine ⟨_, rfl, a, C, dx, _, _, rfl, X, N.code, h3, h4, rfl, (by show 7 ≤ sizeLine; decide), fun p1 q1 => ?_⟩
  have e1 := same_new q1 (.lst [.str "InvalidName", .str "InvalidKey", .str "InvalidTest", .str "InvalidThing", .str "InvalidSetting", .str "InvalidWord", .str "InvalidNumber"])
  replace h3 := e1 _ _ h3
  replace h4 := e1 _ _ h4
  replace hd := DpAll.mono (hide_mono e1) _ _ hd
  replace hD := e1 _ _ hD
  replace k := fun v H' (e : Same _ H') => k v H' (e1.trans e)
  refine ⟨p1, [.str "InvalidName", .str "InvalidKey", .str "InvalidTest", .str "InvalidThing", .str "InvalidSetting", .str "InvalidWord", .str "InvalidNumber"], rfl, .inl (SqL.of upd_same), rfl, rfl, _, rfl, ?_⟩
  refine ite2 (fun c => ?_) (fun c => ?_)
  · rw [if_pos (show inV (.str (rowAt i).1) l1 = true from c)] at tb
    have tb := of_decide_eq_true tb
    obtain ⟨y, rfl⟩ := one_of h5 tb
    exact ⟨_, rfl, a, C, dx, _, y, rfl, X, nof_one N tb, h3, h4, lk_one tb (by decide +kernel), k _ _ (Same.refl _) (dp_one hd)⟩
  rw [if_neg (show ¬ inV (.str (rowAt i).1) l1 = true from c)] at tb
  clear c
  refine ⟨_, rfl, a, C, dx, _, _, rfl, X, N.code, h3, h4, rfl, (by show 4 ≤ sizeLine; decide), fun p1 q1 => ?_⟩
  have e1 := same_new q1 (.lst [.str "InvalidColumn", .str "InvalidSide", .str "InvalidStep", .str "InvalidCommand"])
  replace h3 := e1 _ _ h3
  replace h4 := e1 _ _ h4
  replace hd := DpAll.mono (hide_mono e1) _ _ hd
  replace hD := e1 _ _ hD
  replace k := fun v H' (e : Same _ H') => k v H' (e1.trans e)
  refine ⟨p1, [.str "InvalidColumn", .str "InvalidSide", .str "InvalidStep", .str "InvalidCommand"], rfl, .inl (SqL.of upd_same), rfl, rfl, _, rfl, ?_⟩
  refine ite2 (fun c => ?_) (fun c => ?_)
  · rw [if_pos (show inV (.str (rowAt i).1) l2 = true from c)] at tb
    have tb := of_decide_eq_true tb
    obtain ⟨y, rfl⟩ := one_of h5 tb
    exact ⟨_, rfl, a, C, dx, _, y, rfl, X, nof_one N tb, h3, h4, lk_one tb (by decide +kernel), k _ _ (Same.refl _) (dp_one hd)⟩
  rw [if_neg (show ¬ inV (.str (rowAt i).1) l2 = true from c)] at tb
  clear c
  refine ⟨_, rfl, a, C, dx, _, _, rfl, X, N.code, h3, h4, rfl, rfl, _, rfl, ?_⟩
  refine ite2 (fun c => ?_) (fun c => ?_)
  · rw [if_pos c] at tb
    have tb := of_decide_eq_true tb
    obtain ⟨y, z, rfl⟩ := two_of h5 tb
    refine ⟨_, rfl, a, C, dx, _, y, rfl, X, nof_fst N tb, h3, h4, lk_fst tb (by decide +kernel) (by decide +kernel), ?_⟩
    refine ⟨_, rfl, a, C, dx, _, z, rfl, X, nof_snd N tb, h3, h4, lk_snd tb (by decide +kernel), (by show 2 ≤ sizeLine; decide), fun p hp => ?_⟩
    have e := same_new hp (.tup [y, z])
    exact k _ _ e (dp_two (DpAll.mono (hide_mono e) _ _ hd) (SqT.of (hid_same (ne_of_none hD hp).symm)))
  rw [if_neg c] at tb
  clear c
  refine ⟨_, rfl, a, C, dx, _, _, rfl, X, N.code, h3, h4, rfl, rfl, _, rfl, ?_⟩
  refine ite2 (fun c => ?_) (fun c => ?_)
  · rw [if_pos c] at tb
    have tb := of_decide_eq_true tb
    obtain ⟨y, z, rfl⟩ := two_of h5 tb
    refine ⟨_, rfl, a, C, dx, _, y, rfl, X, nof_fst N tb, h3, h4, lk_fst tb (by decide +kernel) (by decide +kernel), ?_⟩
    refine ⟨_, rfl, a, C, dx, _, z, rfl, X, nof_snd N tb, h3, h4, lk_snd tb (by decide +kernel), (by show 2 ≤ sizeLine; decide), fun p hp => ?_⟩
    have e := same_new hp (.tup [y, z])
    exact k _ _ e (dp_two (DpAll.mono (hide_mono e) _ _ hd) (SqT.of (hid_same (ne_of_none hD hp).symm)))
  rw [if_neg c] at tb
  clear c
  refine ⟨_, rfl, a, C, dx, _, _, rfl, X, N.code, h3, h4, rfl, (by show 3 ≤ sizeLine; decide), fun p1 q1 => ?_⟩
  have e1 := same_new q1 (.lst [.str "DuplicateName", .str "UnknownName", .str "UnknownColumn"])
  replace h3 := e1 _ _ h3
  replace h4 := e1 _ _ h4
  replace hd := DpAll.mono (hide_mono e1) _ _ hd
  replace hD := e1 _ _ hD
  replace k := fun v H' (e : Same _ H') => k v H' (e1.trans e)
  refine ⟨p1, [.str "DuplicateName", .str "UnknownName", .str "UnknownColumn"], rfl, .inl (SqL.of upd_same), rfl, rfl, _, rfl, ?_⟩
  refine ite2 (fun c => ?_) (fun c => ?_)
  · rw [if_pos (show inV (.str (rowAt i).1) l5 = true from c)] at tb
    have tb := of_decide_eq_true tb
    obtain ⟨y, rfl⟩ := one_of h5 tb
    exact ⟨_, rfl, a, C, dx, _, y, rfl, X, nof_one N tb, h3, h4, lk_one tb (by decide +kernel), k _ _ (Same.refl _) (dp_one hd)⟩
  rw [if_neg (show ¬ inV (.str (rowAt i).1) l5 = true from c)] at tb
  clear c
  refine ⟨_, rfl, a, C, dx, _, _, rfl, X, N.code, h3, h4, rfl, (by show 2 ≤ sizeLine; decide), fun p1 q1 => ?_⟩
  have e1 := same_new q1 (.lst [.str "TooMany", .str "Full"])
  replace h3 := e1 _ _ h3
  replace h4 := e1 _ _ h4
  replace hd := DpAll.mono (hide_mono e1) _ _ hd
  replace hD := e1 _ _ hD
  replace k := fun v H' (e : Same _ H') => k v H' (e1.trans e)
  refine ⟨p1, [.str "TooMany", .str "Full"], rfl, .inl (SqL.of upd_same), rfl, rfl, _, rfl, ?_⟩
  refine ite2 (fun c => ?_) (fun c => ?_)
  · rw [if_pos (show inV (.str (rowAt i).1) l6 = true from c)] at tb
    have tb := of_decide_eq_true tb
    obtain ⟨y, rfl⟩ := one_of h5 tb
    exact ⟨_, rfl, a, C, dx, _, y, rfl, X, nof_one N tb, h3, h4, lk_one tb (by decide +kernel), k _ _ (Same.refl _) (dp_one hd)⟩
  rw [if_neg (show ¬ inV (.str (rowAt i).1) l6 = true from c)] at tb
  clear c
  refine ⟨_, rfl, a, C, dx, _, _, rfl, X, N.code, h3, h4, rfl, rfl, _, rfl, ?_⟩
  refine ite2 (fun c => ?_) (fun c => ?_)
  · rw [if_pos c] at tb
    have tb := of_decide_eq_true tb
    obtain ⟨y, rfl⟩ := one_of h5 tb
    exact ⟨_, rfl, a, C, dx, _, y, rfl, X, nof_one N tb, h3, h4, lk_one tb (by decide +kernel), k _ _ (Same.refl _) (dp_one hd)⟩
  rw [if_neg c] at tb
  clear c
  refine ⟨_, rfl, a, C, dx, _, _, rfl, X, N.code, h3, h4, rfl, rfl, _, rfl, ?_⟩
  refine ite2 (fun c => ?_) (fun c => ?_)
  · rw [if_pos c] at tb
    have tb := of_decide_eq_true tb
    obtain ⟨y, rfl⟩ := one_of h5 tb
    exact ⟨_, rfl, a, C, dx, _, y, rfl, X, nof_one N tb, h3, h4, lk_one tb (by decide +kernel), k _ _ (Same.refl _) (dp_one hd)⟩
  rw [if_neg c] at tb
  clear c
  refine ⟨_, rfl, a, C, dx, _, _, rfl, X, N.code, h3, h4, rfl, rfl, _, rfl, ?_⟩
  refine ite2 (fun c => ?_) (fun c => ?_)
  · rw [if_pos c] at tb
    have tb := of_decide_eq_true tb
    obtain ⟨y, rfl⟩ := one_of h5 tb
    exact ⟨_, rfl, a, C, dx, _, y, rfl, X, nof_one N tb, h3, h4, lk_one tb (by decide +kernel), k _ _ (Same.refl _) (dp_one hd)⟩
  rw [if_neg c] at tb
  have tb := of_decide_eq_true tb
  obtain rfl := nix_of h5 tb
  cases hd
  exact k _ _ (Same.refl _) .non
def spBases (T : Top K mg) : Sp := fun vs H Q _ => ∃ (x : V) (i : Nat) (ys : List V), vs = [x] ∧ ErrAt T H i x ys ∧ ∀ (p : Addr), H p = none → Q (.ref p) (upd H p (.lst ((bsL i).map V.bl)))
theorem bsL_five (i : Nat) : ∃ b0 b1 b2 b3 b4, bsL i = [b0, b1, b2, b3, b4] := by
  unfold bsL
  by_cases h : i < 20
  · rw [if_pos h]
    exact ⟨_, _, _, _, _, rfl⟩
  rw [if_neg h]
  by_cases h : i < 23
  · rw [if_pos h]
    exact ⟨_, _, _, _, _, rfl⟩
  rw [if_neg h]
  exact ⟨_, _, _, _, _, rfl⟩
theorem ok_bases (T : Top K mg) : FnOk P w K mg base CX0 1 T.a_bases T.d_bases ["_law_e"] (spBases T) := by
  refine T.F_bases.ok sc_bases (fun vs H Q E h => ?_) (fun cdv A outer s H vs Q E hr h => ?_)
  · obtain ⟨x, i, ys, rfl, _⟩ := h
    rfl
  obtain ⟨x, i, ys, rfl, h, k⟩ := h
  obtain ⟨C, a, dx, h1, rfl, h3, h4, h5⟩ := h.ex
  have tb := T.bas h1
  obtain ⟨b0, b1, b2, b3, b4, e⟩ := bsL_five i
  rw [e] at tb k
  simp only [List.map_cons, List.map_nil, List.cons.injEq, and_true] at tb
  obtain ⟨t0, t1, t2, t3, t4⟩ := tb
  have X := T.xs.get h1
  refine ⟨_, (pss_one (ps_ret (pe_lst (pa_cons (pe_callB call_xis (by rfl) T.z_isinstance (by decide +kernel) (pa_cons (pv 0) (pa_cons (pe_glob (v := .ref T.C_LotsError) rfl T.mc_LotsError rfl) pa_nil))) (pa_cons (pe_callB call_xis (by rfl) T.z_isinstance (by decide +kernel) (pa_cons (pv 0) (pa_cons (pe_bltn (v := .ty "ValueError") (by rfl) T.z_ValueError (by decide +kernel) rfl) pa_nil))) (pa_cons (pe_callB call_xis (by rfl) T.z_isinstance (by decide +kernel) (pa_cons (pv 0) (pa_cons (pe_glob (v := .ref T.C_Missing) rfl T.mc_Missing rfl) pa_nil))) (pa_cons (pe_callB call_xis (by rfl) T.z_isinstance (by decide +kernel) (pa_cons (pv 0) (pa_cons (pe_bltn (v := .ty "LookupError") (by rfl) T.z_LookupError (by decide +kernel) rfl) pa_nil))) (pa_cons (pe_callB call_xis (by rfl) T.z_isinstance (by decide +kernel) (pa_cons (pv 0) (pa_cons (pe_bltn (v := .ty "IndexError") (by rfl) T.z_IndexError (by decide +kernel) rfl) pa_nil))) pa_nil)))))))), ?_⟩
  refine ⟨_, rfl, a, C, dx, _, _, _, _, rfl, .own _, X, T.hG, h3, h4, t0, ?_⟩
  refine ⟨_, rfl, a, C, dx, _, _, _, _, rfl, .ty _, X, T.hG, h3, h4, t1, ?_⟩
  refine ⟨_, rfl, a, C, dx, _, _, _, _, rfl, .own _, X, T.hG, h3, h4, t2, ?_⟩
  refine ⟨_, rfl, a, C, dx, _, _, _, _, rfl, .ty _, X, T.hG, h3, h4, t3, ?_⟩
  refine ⟨_, rfl, a, C, dx, _, _, _, _, rfl, .ty _, X, T.hG, h3, h4, t4, ?_⟩
  exact ⟨(by show 5 ≤ sizeLine; decide), fun p hp => k p hp⟩
end
end Bl

namespace Bl
open PySem L2
abbrev n_apart : List Str := ["_law_lots", "_law_found", "_law_e", "_law_at", "_law_k"]
theorem sc_apart : FnScope n_apart ["_law_lots"] (defScope s_apart) := ⟨rfl, rfl, rfl, by decide +kernel, rfl, by decide +kernel, by decide +kernel⟩
def bitsA (i : Nat) : List Bool := (List.range 24).map fun j => decide (j = i)
def rowD (i : Nat) : PyData := .list ((bitsA i).map .bool)
theorem apart_shaped : SeqAt.shaped (.list ((List.range 24).map rowD)) = true := by decide +kernel
theorem apart_eqv : PyData.eqv (.list ((List.range 24).map rowD)) (.list ((List.range 24).map rowD)) = true := by decide +kernel
theorem hid_in {p : Addr} {X Y : Hp} (e : Same X Y) (h : X p = none) : Same X (hide p Y) := fun b o q => by
  rw [hide_ne (ne_of_none q h)]
  exact e b o q
theorem dp_bools {K : PySem.W.Frag} {H : Hp} : ∀ bs : List Bool, DpAll K H (bs.map V.bl) (bs.map PyData.bool)
  | [] => .nil
  | b :: bs => .cons (.bl b) (dp_bools bs)
section
variable {P : Program} {w : World} {K : PySem.W.Frag} {mg : Str → Option Value} {base : Heap}
def spApart (T : Top K mg) : Sp := fun vs H Q _ => ∃ (p : Addr) (xs : List V), vs = [.ref p] ∧ SqL K H p xs ∧ xs.length = 24 ∧ (∀ (i : Nat) (x : V), xs[i]? = some x → ∃ ys, ErrAt T H i x ys) ∧ ∀ H', Same H H' → Q (.bl true) H'
theorem ok_apart (T : Top K mg) : FnOk P w K mg base CX0 1 T.a_apart T.d_apart ["_law_lots"] (spApart T) := by
  refine T.F_apart.ok sc_apart (fun vs H Q E h => ?_) (fun cdv A outer s H vs Q E hr h => ?_)
  · obtain ⟨p, xs, rfl, _⟩ := h
    rfl
  obtain ⟨p, xs, rfl, hS, hl, hx, k⟩ := h
  refine ⟨_, (pss_cons (ps_set (i := 1) sc_apart.nd rfl (Or.inl rfl) (pe_lst pa_nil))
    (pss_cons (ps_for PassesOwn.never rfl (pi_list (pv 0)) (pg_name (i := 2) sc_apart.nd rfl (Or.inl rfl))
    (pss_one (ps_expr (pe_bm PySem.F.plainAttrs_list PySem.F.slot_list_append PySem.F.type_list_append mt_append (pv 1) (pa_cons (pe_lst (pa_cons (pe_callB call_xis (by rfl) T.z_isinstance (by decide +kernel) (pa_cons (pv 2) (pa_cons (pe_glob (v := .ref T.C_InvalidName) rfl T.mc_InvalidName rfl) pa_nil))) (pa_cons (pe_callB call_xis (by rfl) T.z_isinstance (by decide +kernel) (pa_cons (pv 2) (pa_cons (pe_glob (v := .ref T.C_InvalidColumn) rfl T.mc_InvalidColumn rfl) pa_nil))) (pa_cons (pe_callB call_xis (by rfl) T.z_isinstance (by decide +kernel) (pa_cons (pv 2) (pa_cons (pe_glob (v := .ref T.C_InvalidSide) rfl T.mc_InvalidSide rfl) pa_nil))) (pa_cons (pe_callB call_xis (by rfl) T.z_isinstance (by decide +kernel) (pa_cons (pv 2) (pa_cons (pe_glob (v := .ref T.C_InvalidKey) rfl T.mc_InvalidKey rfl) pa_nil))) (pa_cons (pe_callB call_xis (by rfl) T.z_isinstance (by decide +kernel) (pa_cons (pv 2) (pa_cons (pe_glob (v := .ref T.C_InvalidStep) rfl T.mc_InvalidStep rfl) pa_nil))) (pa_cons (pe_callB call_xis (by rfl) T.z_isinstance (by decide +kernel) (pa_cons (pv 2) (pa_cons (pe_glob (v := .ref T.C_InvalidTest) rfl T.mc_InvalidTest rfl) pa_nil))) (pa_cons (pe_callB call_xis (by rfl) T.z_isinstance (by decide +kernel) (pa_cons (pv 2) (pa_cons (pe_glob (v := .ref T.C_InvalidThing) rfl T.mc_InvalidThing rfl) pa_nil))) (pa_cons (pe_callB call_xis (by rfl) T.z_isinstance (by decide +kernel) (pa_cons (pv 2) (pa_cons (pe_glob (v := .ref T.C_InvalidSetting) rfl T.mc_InvalidSetting rfl) pa_nil))) (pa_cons (pe_callB call_xis (by rfl) T.z_isinstance (by decide +kernel) (pa_cons (pv 2) (pa_cons (pe_glob (v := .ref T.C_InvalidWord) rfl T.mc_InvalidWord rfl) pa_nil))) (pa_cons (pe_callB call_xis (by rfl) T.z_isinstance (by decide +kernel) (pa_cons (pv 2) (pa_cons (pe_glob (v := .ref T.C_InvalidNumber) rfl T.mc_InvalidNumber rfl) pa_nil))) (pa_cons (pe_callB call_xis (by rfl) T.z_isinstance (by decide +kernel) (pa_cons (pv 2) (pa_cons (pe_glob (v := .ref T.C_InvalidText) rfl T.mc_InvalidText rfl) pa_nil))) (pa_cons (pe_callB call_xis (by rfl) T.z_isinstance (by decide +kernel) (pa_cons (pv 2) (pa_cons (pe_glob (v := .ref T.C_InvalidCommand) rfl T.mc_InvalidCommand rfl) pa_nil))) (pa_cons (pe_callB call_xis (by rfl) T.z_isinstance (by decide +kernel) (pa_cons (pv 2) (pa_cons (pe_glob (v := .ref T.C_DuplicateName) rfl T.mc_DuplicateName rfl) pa_nil))) (pa_cons (pe_callB call_xis (by rfl) T.z_isinstance (by decide +kernel) (pa_cons (pv 2) (pa_cons (pe_glob (v := .ref T.C_SideTaken) rfl T.mc_SideTaken rfl) pa_nil))) (pa_cons (pe_callB call_xis (by rfl) T.z_isinstance (by decide +kernel) (pa_cons (pv 2) (pa_cons (pe_glob (v := .ref T.C_TooMany) rfl T.mc_TooMany rfl) pa_nil))) (pa_cons (pe_callB call_xis (by rfl) T.z_isinstance (by decide +kernel) (pa_cons (pv 2) (pa_cons (pe_glob (v := .ref T.C_Full) rfl T.mc_Full rfl) pa_nil))) (pa_cons (pe_callB call_xis (by rfl) T.z_isinstance (by decide +kernel) (pa_cons (pv 2) (pa_cons (pe_glob (v := .ref T.C_InvalidRow) rfl T.mc_InvalidRow rfl) pa_nil))) (pa_cons (pe_callB call_xis (by rfl) T.z_isinstance (by decide +kernel) (pa_cons (pv 2) (pa_cons (pe_glob (v := .ref T.C_Torn) rfl T.mc_Torn rfl) pa_nil))) (pa_cons (pe_callB call_xis (by rfl) T.z_isinstance (by decide +kernel) (pa_cons (pv 2) (pa_cons (pe_glob (v := .ref T.C_OtherProgram) rfl T.mc_OtherProgram rfl) pa_nil))) (pa_cons (pe_callB call_xis (by rfl) T.z_isinstance (by decide +kernel) (pa_cons (pv 2) (pa_cons (pe_glob (v := .ref T.C_Untold) rfl T.mc_Untold rfl) pa_nil))) (pa_cons (pe_callB call_xis (by rfl) T.z_isinstance (by decide +kernel) (pa_cons (pv 2) (pa_cons (pe_glob (v := .ref T.C_UnknownName) rfl T.mc_UnknownName rfl) pa_nil))) (pa_cons (pe_callB call_xis (by rfl) T.z_isinstance (by decide +kernel) (pa_cons (pv 2) (pa_cons (pe_glob (v := .ref T.C_UnknownColumn) rfl T.mc_UnknownColumn rfl) pa_nil))) (pa_cons (pe_callB call_xis (by rfl) T.z_isinstance (by decide +kernel) (pa_cons (pv 2) (pa_cons (pe_glob (v := .ref T.C_UnknownRow) rfl T.mc_UnknownRow rfl) pa_nil))) (pa_cons (pe_callB call_xis (by rfl) T.z_isinstance (by decide +kernel) (pa_cons (pv 2) (pa_cons (pe_glob (v := .ref T.C_NothingLeft) rfl T.mc_NothingLeft rfl) pa_nil))) pa_nil))))))))))))))))))))))))) pa_nil)))))
    (pss_one (ps_ret (pe_cmpR (op_eqD hr.units) (pv 1) (pe_lc (own := [("_law_at", 3)]) (g := gName 3) (tt := tYes) rfl sc_apart.nd (pi_range1 (by rfl) T.z_range (pa_cons pe_int pa_nil)) (blkOk_by (own := [("_law_at", 3)]) (N := n_apart) (sc := defScope s_apart) (by decide +kernel)) (fun _ _ _ _ _ => (pg_name (i := 3) sc_apart.nd rfl (Or.inr rfl))) (fun _ _ _ _ _ => pts_nil) (fun _ _ _ _ _ => (pe_lc (own := [("_law_k", 4)]) (g := gName 4) (tt := tYes) rfl sc_apart.nd (pi_range1 (by rfl) T.z_range (pa_cons pe_int pa_nil)) (blkOk_by (own := [("_law_k", 4)]) (N := n_apart) (sc := { kind := .function, names := [(".0", .local), ("_law_at", .cell), ("range", .globalImplicit)], isGenerator := false, isCoroutine := false }) (by decide +kernel)) (fun _ _ _ _ _ => (pg_name (i := 4) sc_apart.nd rfl (Or.inl rfl))) (fun _ _ _ _ _ => pts_nil) (fun _ _ _ _ _ => (pe_cmpR op_eq (pv 4) (pv 3) (nomark _)))))) (nomark _)))))), ?_⟩
  refine ⟨(by show 0 ≤ sizeLine; decide), fun D hD => ?_⟩
  refine ⟨_, rfl, p, rfl, ⟨_, (same_new hD _).seq hS⟩, ?_⟩
  refine for_list (K := K) (a := p) (xs := xs) (fun i σ H' => ∃ (o2 : Option V) (acc : List V), σ = [some (.ref p), some (.ref D), o2, none, none] ∧ H' D = some (.lst acc) ∧ acc.length = i ∧ Same H (hide D H') ∧ DpAll K (hide D H') acc ((List.range i).map rowD))
    ⟨none, [], rfl, upd_same, rfl, by rw [hide_upd]; exact hid_in (Same.refl _) hD, .nil⟩ (fun i σ H' _ q => ?_) ?_ ?_
  · obtain ⟨_, _, _, _, _, e, _⟩ := q
    exact hide_le.seq (e.seq hS)
  · rintro i x σ H1 hxi ⟨o2, acc, rfl, hD1, hlen, e1, hd1⟩
    have hi : i < 24 := by
      rw [← hl]
      exact (List.getElem?_eq_some_iff.mp hxi).1
    obtain ⟨ys, h⟩ := hx i x hxi
    replace h := (h.mono e1).mono hide_le
    obtain ⟨C, a, dx, h1, rfl, h3, h4, h5⟩ := h.ex
    have X := T.xs.get h1
    refine ⟨_, rfl, .inl ⟨rfl, acc, SqL.of hD1⟩, ?_⟩
    refine ⟨_, rfl, a, C, dx, _, _, _, _, rfl, .own _, X, T.hG, h3, h4, T.kit h1 (j := 0) rfl, ?_⟩
    refine ⟨_, rfl, a, C, dx, _, _, _, _, rfl, .own _, X, T.hG, h3, h4, T.kit h1 (j := 1) rfl, ?_⟩
    refine ⟨_, rfl, a, C, dx, _, _, _, _, rfl, .own _, X, T.hG, h3, h4, T.kit h1 (j := 2) rfl, ?_⟩
    refine ⟨_, rfl, a, C, dx, _, _, _, _, rfl, .own _, X, T.hG, h3, h4, T.kit h1 (j := 3) rfl, ?_⟩
    refine ⟨_, rfl, a, C, dx, _, _, _, _, rfl, .own _, X, T.hG, h3, h4, T.kit h1 (j := 4) rfl, ?_⟩
    refine ⟨_, rfl, a, C, dx, _, _, _, _, rfl, .own _, X, T.hG, h3, h4, T.kit h1 (j := 5) rfl, ?_⟩
    refine ⟨_, rfl, a, C, dx, _, _, _, _, rfl, .own _, X, T.hG, h3, h4, T.kit h1 (j := 6) rfl, ?_⟩
    refine ⟨_, rfl, a, C, dx, _, _, _, _, rfl, .own _, X, T.hG, h3, h4, T.kit h1 (j := 7) rfl, ?_⟩
    refine ⟨_, rfl, a, C, dx, _, _, _, _, rfl, .own _, X, T.hG, h3, h4, T.kit h1 (j := 8) rfl, ?_⟩
    refine ⟨_, rfl, a, C, dx, _, _, _, _, rfl, .own _, X, T.hG, h3, h4, T.kit h1 (j := 9) rfl, ?_⟩
    refine ⟨_, rfl, a, C, dx, _, _, _, _, rfl, .own _, X, T.hG, h3, h4, T.kit h1 (j := 10) rfl, ?_⟩
    refine ⟨_, rfl, a, C, dx, _, _, _, _, rfl, .own _, X, T.hG, h3, h4, T.kit h1 (j := 11) rfl, ?_⟩
    refine ⟨_, rfl, a, C, dx, _, _, _, _, rfl, .own _, X, T.hG, h3, h4, T.kit h1 (j := 12) rfl, ?_⟩
    refine ⟨_, rfl, a, C, dx, _, _, _, _, rfl, .own _, X, T.hG, h3, h4, T.kit h1 (j := 13) rfl, ?_⟩
    refine ⟨_, rfl, a, C, dx, _, _, _, _, rfl, .own _, X, T.hG, h3, h4, T.kit h1 (j := 14) rfl, ?_⟩
    refine ⟨_, rfl, a, C, dx, _, _, _, _, rfl, .own _, X, T.hG, h3, h4, T.kit h1 (j := 15) rfl, ?_⟩
    refine ⟨_, rfl, a, C, dx, _, _, _, _, rfl, .own _, X, T.hG, h3, h4, T.kit h1 (j := 16) rfl, ?_⟩
    refine ⟨_, rfl, a, C, dx, _, _, _, _, rfl, .own _, X, T.hG, h3, h4, T.kit h1 (j := 17) rfl, ?_⟩
    refine ⟨_, rfl, a, C, dx, _, _, _, _, rfl, .own _, X, T.hG, h3, h4, T.kit h1 (j := 18) rfl, ?_⟩
    refine ⟨_, rfl, a, C, dx, _, _, _, _, rfl, .own _, X, T.hG, h3, h4, T.kit h1 (j := 19) rfl, ?_⟩
    refine ⟨_, rfl, a, C, dx, _, _, _, _, rfl, .own _, X, T.hG, h3, h4, T.kit h1 (j := 20) rfl, ?_⟩
    refine ⟨_, rfl, a, C, dx, _, _, _, _, rfl, .own _, X, T.hG, h3, h4, T.kit h1 (j := 21) rfl, ?_⟩
    refine ⟨_, rfl, a, C, dx, _, _, _, _, rfl, .own _, X, T.hG, h3, h4, T.kit h1 (j := 22) rfl, ?_⟩
    refine ⟨_, rfl, a, C, dx, _, _, _, _, rfl, .own _, X, T.hG, h3, h4, T.kit h1 (j := 23) rfl, ?_⟩
    refine ⟨(by show 24 ≤ sizeLine; decide), fun q hq => ?_⟩
    have nq : q ≠ D := (ne_of_none hD1 hq).symm
    have eD : (upd H1 q (.lst ((bitsA i).map V.bl))) D = some (.lst acc) := by
      rw [upd_ne nq.symm]
      exact hD1
    have g1 : Same (hide D H1) (hide D (upd H1 q (.lst ((bitsA i).map V.bl)))) := hide_mono (same_new hq _)
    refine ⟨D, acc, .ref q, rfl, rfl, eD, small' (by omega), some (.ref a), acc ++ [.ref q], rfl, upd_same, by rw [List.length_append, hlen]; rfl, ?_, ?_⟩
    · rw [hide_upd]
      exact e1.trans g1
    · rw [hide_upd, List.range_succ, List.map_append]
      refine DpAll.app (DpAll.mono g1 _ _ hd1) (.cons (.lst (SqL.of (hid_same nq)) (dp_bools (bitsA i))) .nil)
  · rintro σ H1 ⟨o2, acc, rfl, hD1, hlen, e1, hd1⟩
    rw [hl] at hlen hd1
    refine ⟨_, rfl, 24, rfl, by decide, by decide, fun E1 hE1 => ?_⟩
    refine lc_range (lo := 0) (n := 24) (fun i H2 => ∃ acc2 : List V, H2 E1 = some (.lst acc2) ∧ acc2.length = i ∧ Same H1 (hide E1 H2) ∧ DpAll K (hide E1 H2) acc2 ((List.range i).map rowD))
      ⟨[], upd_same, rfl, by rw [hide_upd]; exact hid_in (Same.refl _) hE1, .nil⟩ ?_ ?_
    · rintro i H2 hi ⟨acc2, hE2, hlen2, e2, hd2⟩
      refine ⟨rfl, 24, rfl, by decide, by decide, fun E2 hE2' => ?_⟩
      have nE : E2 ≠ E1 := (ne_of_none hE2 hE2').symm
      refine lc_range (lo := 0) (n := 24) (fun j H3 => Same H2 H3 ∧ H3 E2 = some (.lst (((List.range j).map fun j => decide (j = i)).map V.bl))) ⟨same_new hE2' _, upd_same⟩ ?_ ?_
      · rintro j H3 hj ⟨e3, hl3⟩
        refine ⟨rfl, _, rfl, _, rfl, rfl, _, hl3, ?_, Same.mut e3 hE2' _, ?_⟩
        · rw [List.length_map, List.length_map, List.length_range]
          exact small' (by omega)
        · rw [upd_same, List.range_succ, List.map_append, List.map_append]
          have : decide (V.int (0 + (j : Int)) = V.int (0 + (i : Int))) = decide (j = i) := by
            by_cases e : j = i
            · rw [e, decide_eq_true rfl, decide_eq_true rfl]
            · rw [decide_eq_false e, decide_eq_false]
              intro z
              have := V.int.inj z
              omega
          rw [this]
          rfl
      · rintro H3 ⟨e3, hl3⟩
        have hE3 := e3 _ _ hE2
        refine ⟨acc2, hE3, small' (by omega), acc2 ++ [.ref E2], upd_same, by rw [List.length_append, hlen2]; rfl, ?_, ?_⟩
        · rw [hide_upd]
          exact e2.trans (hide_mono e3)
        · rw [hide_upd, List.range_succ, List.map_append]
          refine DpAll.app (DpAll.mono (hide_mono e3) _ _ hd2) (.cons (.lst (SqL.of ?_) (dp_bools _)) .nil)
          rw [hide_ne nE]
          exact hl3
    · rintro H2 ⟨acc2, hE2, hlen2, e2, hd2⟩
      have s12 : Same H1 H2 := e2.trans hide_le
      refine ⟨.list ((List.range 24).map rowD), .list ((List.range 24).map rowD), ?_, .lst (SqL.of hE2) (DpAll.mono hide_le _ _ hd2), apart_shaped, apart_shaped, ?_⟩
      · exact .lst (SqL.of (s12 _ _ hD1)) (DpAll.mono (hide_le.trans s12) _ _ hd1)
      rw [apart_eqv]
      exact k _ ((e1.trans hide_le).trans s12)
end
end Bl

namespace Bl
open PySem L2
theorem Fits.up : ∀ {n : Nat} {d : PyData}, Fits n d → Fits (n + 1) d
  | 0, _, h => h.elim
  | n + 1, .none, _ => True.intro
  | n + 1, .bool _, _ => True.intro
  | n + 1, .int _, _ => True.intro
  | n + 1, .str _, _ => True.intro
  | n + 1, .list ds, h => ⟨h.1, fun d hd => Fits.up (h.2 d hd)⟩
  | n + 1, .tuple ds, h => ⟨h.1, fun d hd => Fits.up (h.2 d hd)⟩
  | n + 1, .dict _, h => h.elim
theorem odds_fit : ∀ d ∈ odds, Fits 2 d := fun d h => by
  unfold odds at h
  simp only [List.mem_cons, List.not_mem_nil, or_false] at h
  rcases h with rfl | rfl | rfl | rfl | rfl | rfl | rfl | rfl | rfl | rfl | rfl | rfl | rfl
  all_goals first
    | exact True.intro
    | skip
  · refine ⟨(by show 2 < 1000000; decide), fun d hd => ?_⟩
    rcases List.mem_cons.mp hd with rfl | hd
    · exact True.intro
    · obtain rfl := List.mem_singleton.mp hd
      exact True.intro
  · refine ⟨(by show 1 < 1000000; decide), fun d hd => ?_⟩
    obtain rfl := List.mem_singleton.mp hd
    exact True.intro
  · exact ⟨(by show 0 < 1000000; decide), fun d hd => nomatch hd⟩
theorem bases_shaped : SeqAt.shaped (.list ([true, true, false, false, false].map PyData.bool)) = true := by decide +kernel
/-- errors of the classes n0, n0 + 1, .. and what they were made of -/
structure Lot {K : PySem.W.Frag} {mg : Str → Option Value} (T : Top K mg) (H : Hp) (n0 : Nat) (xs : List V) (dss : List (List PyData)) : Prop where
  len : xs.length = dss.length
  all : ∀ (i : Nat) (x : V), xs[i]? = some x → ∃ (ys : List V) (ds : List PyData), dss[i]? = some ds ∧ ErrAt T H (n0 + i) x ys ∧ DpAll K H ys ds
def cd (n0 i : Nat) (ds : List PyData) : PyData := .list [.str (rowAt (n0 + i)).1, datOf ds]
/-- what the codes and fields of such errors are -/
def cds (n0 : Nat) : List (List PyData) → List PyData
  | [] => []
  | ds :: dss => .list [.str (rowAt n0).1, datOf ds] :: cds (n0 + 1) dss
section
variable {P : Program} {w : World} {K : PySem.W.Frag} {mg : Str → Option Value} {base : Heap}
theorem Lot.mono {T : Top K mg} {H H' : Hp} {n0 : Nat} {xs : List V} {dss : List (List PyData)} (L : Lot T H n0 xs dss) (e : Same H H') : Lot T H' n0 xs dss := ⟨L.len, fun i x hx => by
  obtain ⟨ys, ds, h1, h2, h3⟩ := L.all i x hx
  exact ⟨ys, ds, h1, h2.mono e, DpAll.mono e _ _ h3⟩⟩
theorem Lot.nil {T : Top K mg} {H : Hp} {n0 : Nat} : Lot T H n0 [] [] := ⟨rfl, fun i x hx => by cases hx⟩
theorem Lot.app {T : Top K mg} {H : Hp} {n0 n1 : Nat} {xs zs : List V} {d1 d2 : List (List PyData)} (L : Lot T H n0 xs d1) (M : Lot T H n1 zs d2) (e : n1 = n0 + xs.length) : Lot T H n0 (xs ++ zs) (d1 ++ d2) := by
  refine ⟨by rw [List.length_append, List.length_append, L.len, M.len], fun i x hx => ?_⟩
  by_cases h : i < xs.length
  · rw [List.getElem?_append_left h] at hx
    rw [List.getElem?_append_left (by rw [← L.len]; exact h)]
    exact L.all i x hx
  · rw [List.getElem?_append_right (by omega)] at hx
    rw [List.getElem?_append_right (by rw [← L.len]; omega), ← L.len]
    have := M.all _ x hx
    rw [e, show n0 + xs.length + (i - xs.length) = n0 + i by omega] at this
    exact this
theorem Lot.add {T : Top K mg} {H H' : Hp} {n0 : Nat} {xs : List V} {dss : List (List PyData)} {C a dx : Addr} {ys : List V} {ds : List PyData} (L : Lot T H n0 xs dss) (hd : DpAll K H ys ds) (hC : T.cl[n0 + xs.length]? = some C)
    (hl : ys.length = (rowAt (n0 + xs.length)).2.length) (ha : H a = none) (D : InitD (upd H a (exo a C none)) H' a C dx (mkF (rowAt (n0 + xs.length)) ys)) : Same H H' ∧ Lot T H' n0 (xs ++ [.ref a]) (dss ++ [ds]) := by
  obtain ⟨s, E⟩ := made hC hl ha D
  refine ⟨s, Lot.app (L.mono s) (n1 := n0 + xs.length) ⟨rfl, fun i x hx => ?_⟩ rfl⟩
  match i, hx with
  | 0, hx =>
    cases hx
    exact ⟨ys, ds, rfl, E, DpAll.mono s _ _ hd⟩
  | i + 1, hx => cases hx
/-- while they are made: the last one first -/
structure LotR {K : PySem.W.Frag} {mg : Str → Option Value} (T : Top K mg) (H : Hp) (n0 n : Nat) (xs : List V) (dss : List (List PyData)) : Prop where
  lot : Lot T H n0 xs.reverse dss.reverse
  num : xs.length = n
theorem LotR.mono {T : Top K mg} {H H' : Hp} {n0 n : Nat} {xs : List V} {dss : List (List PyData)} (L : LotR T H n0 n xs dss) (e : Same H H') : LotR T H' n0 n xs dss := ⟨L.lot.mono e, L.num⟩
theorem LotR.add {T : Top K mg} {H H' : Hp} {n0 n : Nat} {xs : List V} {dss : List (List PyData)} {C a dx : Addr} {ys : List V} {ds : List PyData} (L : LotR T H n0 n xs dss) (r : Str × List Str) (hd : DpAll K H ys ds) (hC : T.cl[n0 + n]? = some C)
    (hr : rowAt (n0 + n) = r) (hl : ys.length = r.2.length) (ha : H a = none) (D : InitD (upd H a (exo a C none)) H' a C dx (mkF r ys)) : Same H H' ∧ LotR T H' n0 (n + 1) (.ref a :: xs) (ds :: dss) := by
  have e : xs.reverse.length = n := by rw [List.length_reverse, L.num]
  subst hr
  rw [← e] at hC hl D
  obtain ⟨s, M⟩ := Lot.add L.lot hd hC hl ha D
  exact ⟨s, by rw [List.reverse_cons, List.reverse_cons]; exact M, by rw [List.length_cons, L.num]⟩
theorem cds_get : ∀ {dss : List (List PyData)} {n0 i : Nat} {ds : List PyData}, dss[i]? = some ds → (cds n0 dss)[i]? = some (.list [.str (rowAt (n0 + i)).1, datOf ds])
  | [], _, _, _, h => by cases h
  | d :: dss, n0, 0, ds, h => by
    cases h
    rfl
  | d :: dss, n0, i + 1, ds, h => by
    have := cds_get (dss := dss) (n0 := n0 + 1) (i := i) (ds := ds) h
    rw [show n0 + (i + 1) = n0 + 1 + i by omega]
    exact this
theorem cds_take {dss : List (List PyData)} {n0 i : Nat} {ds : List PyData} (h : dss[i]? = some ds) : (cds n0 dss).take (i + 1) = (cds n0 dss).take i ++ [.list [.str (rowAt (n0 + i)).1, datOf ds]] := by
  rw [List.take_add_one, cds_get (n0 := n0) h]
  rfl
theorem cds_len : ∀ {dss : List (List PyData)} {n0 : Nat}, (cds n0 dss).length = dss.length
  | [], _ => rfl
  | d :: dss, n0 => by
    show (cds (n0 + 1) dss).length + 1 = dss.length + 1
    rw [cds_len]
theorem cds_fit : ∀ {dss : List (List PyData)} {n0 : Nat}, (∀ ds ∈ dss, Fits 3 (datOf ds)) → ∀ d ∈ cds n0 dss, Fits 4 d
  | [], _, _, d, hd => by cases hd
  | ds :: dss, n0, h, d, hd => by
    rcases List.mem_cons.mp hd with rfl | hd
    · refine ⟨(by show 2 < 1000000; decide), fun e he => ?_⟩
      rcases List.mem_cons.mp he with rfl | he
      · exact True.intro
      · obtain rfl := List.mem_singleton.mp he
        exact h ds List.mem_cons_self
    · exact cds_fit (fun e he => h e (List.mem_cons_of_mem _ he)) d hd
theorem cds_fits {dss : List (List PyData)} {n0 : Nat} (hl : dss.length < 1000000) (h : ∀ ds ∈ dss, Fits 3 (datOf ds)) : Fits 5 (.list (cds n0 dss)) := ⟨by rw [cds_len]; exact hl, cds_fit h⟩
def nmV (n0 n : Nat) : List V := (List.range n).map fun i => .str (rowAt (n0 + i)).1
theorem nm_get {n0 n i : Nat} {x : V} (h : (nmV n0 n)[i]? = some x) : i < n ∧ x = .str (rowAt (n0 + i)).1 := by
  unfold nmV at h
  rw [List.getElem?_map] at h
  by_cases hi : i < n
  · rw [List.getElem?_range hi] at h
    exact ⟨hi, (Option.some.inj h).symm⟩
  · rw [List.getElem?_eq_none (by rw [List.length_range]; omega)] at h
    cases h
theorem rep_get {α : Type} {n i : Nat} {a : α} (h : i < n) : (List.replicate n a)[i]? = some a := by
  rw [List.getElem?_replicate, if_pos h]
theorem bases_eqv : PyData.eqv (.list ([true, true, false, false, false].map PyData.bool)) (.list ([true, true, false, false, false].map PyData.bool)) = true := by decide +kernel
theorem bsG_shaped : SeqAt.shaped (.list ([false, false, true, true, false].map PyData.bool)) = true := by decide +kernel
theorem bsG_eqv : PyData.eqv (.list ([false, false, true, true, false].map PyData.bool)) (.list ([false, false, true, true, false].map PyData.bool)) = true := by decide +kernel
theorem bsN_shaped : SeqAt.shaped (.list ([false, false, false, true, true].map PyData.bool)) = true := by decide +kernel
theorem bsN_eqv : PyData.eqv (.list ([false, false, false, true, true].map PyData.bool)) (.list ([false, false, false, true, true].map PyData.bool)) = true := by decide +kernel
abbrev n_law : List Str := ["_law_script", "_law_box_here", "_law_turn", "_law_a", "_law_b", "_law_lots", "_law_names", "_law_two", "_law_gone", "_law_left", "_law_one", "_law_name"]
theorem sc_law : FnScope n_law ["_law_script"] (defScope s_law) := ⟨rfl, rfl, rfl, by decide +kernel, rfl, by decide +kernel, by decide +kernel⟩
def spLaw (K : PySem.W.Frag) : Sp := fun vs H Q _ => ∃ (a : Addr) (ns : List Int), vs = [.ref a] ∧ SqL K H a (ns.map V.int) ∧ ns.length ≤ 63 ∧ ∀ H', Q (.bl true) H'
theorem ok_law (T : Top K mg) : FnOk P w K mg base CX0 9 T.a_law T.d_law ["_law_script"] (spLaw K) := by
  refine T.F_law.ok sc_law (fun vs H Q E h => ?_) (fun cdv A outer s H vs Q E hr h => ?_)
  · obtain ⟨a, ns, rfl, _⟩ := h
    rfl
  obtain ⟨a, ns, rfl, hS, h63, k⟩ := h
  refine ⟨_, (pss_cons (ps_set (i := 1) sc_law.nd rfl (Or.inl rfl) (pe_call (ok_box T) (hr.mono (by decide)) rfl T.m_box T.F_box.kp T.b_box .nil pass0 (pa_cons (pv 0) pa_nil)))
    (pss_cons (ps_for PassesOwn.never rfl (pi_range1 (by rfl) T.z_range (pa_cons pe_int pa_nil)) (pg_name (i := 2) sc_law.nd rfl (Or.inl rfl))
    (pss_cons (ps_asg (pe_tup (pa_cons (pe_call (ok_odd T) (hr.mono (by decide)) rfl T.m_odd T.F_odd.kp T.b_odd .nil pass0 (pa_cons (pv 1) (pa_cons (pe_lst (pa_cons pe_str pa_nil)) pa_nil))) (pa_cons (pe_call (ok_odd T) (hr.mono (by decide)) rfl T.m_odd T.F_odd.kp T.b_odd .nil pass0 (pa_cons (pv 1) (pa_cons (pe_lst (pa_cons pe_str (pa_cons pe_int pa_nil))) pa_nil))) pa_nil))) (pg_tup rfl (pgs_cons (pg_name (i := 3) sc_law.nd rfl (Or.inr rfl)) (pgs_cons (pg_name (i := 4) sc_law.nd rfl (Or.inl rfl)) pgs_nil))))
    (pss_cons (ps_set (i := 5) sc_law.nd rfl (Or.inl rfl) (pe_lst (pa_cons (pe_xmk T.x_InvalidName T.iC_InvalidName T.tI_InvalidName (oki_InvalidName T) (hr.mono (by decide)) T.bi_InvalidName pass0 rfl T.mc_InvalidName (pa_cons (pv 3) pa_nil)) (pa_cons (pe_xmk T.x_InvalidColumn T.iC_InvalidColumn T.tI_InvalidColumn (oki_InvalidColumn T) (hr.mono (by decide)) T.bi_InvalidColumn pass0 rfl T.mc_InvalidColumn (pa_cons (pv 3) pa_nil)) (pa_cons (pe_xmk T.x_InvalidSide T.iC_InvalidSide T.tI_InvalidSide (oki_InvalidSide T) (hr.mono (by decide)) T.bi_InvalidSide pass0 rfl T.mc_InvalidSide (pa_cons (pv 3) pa_nil)) (pa_cons (pe_xmk T.x_InvalidKey T.iC_InvalidKey T.tI_InvalidKey (oki_InvalidKey T) (hr.mono (by decide)) T.bi_InvalidKey pass0 rfl T.mc_InvalidKey (pa_cons (pv 3) pa_nil)) (pa_cons (pe_xmk T.x_InvalidStep T.iC_InvalidStep T.tI_InvalidStep (oki_InvalidStep T) (hr.mono (by decide)) T.bi_InvalidStep pass0 rfl T.mc_InvalidStep (pa_cons (pv 3) pa_nil)) (pa_cons (pe_xmk T.x_InvalidTest T.iC_InvalidTest T.tI_InvalidTest (oki_InvalidTest T) (hr.mono (by decide)) T.bi_InvalidTest pass0 rfl T.mc_InvalidTest (pa_cons (pv 3) pa_nil)) (pa_cons (pe_xmk T.x_InvalidThing T.iC_InvalidThing T.tI_InvalidThing (oki_InvalidThing T) (hr.mono (by decide)) T.bi_InvalidThing pass0 rfl T.mc_InvalidThing (pa_cons (pv 3) pa_nil)) (pa_cons (pe_xmk T.x_InvalidSetting T.iC_InvalidSetting T.tI_InvalidSetting (oki_InvalidSetting T) (hr.mono (by decide)) T.bi_InvalidSetting pass0 rfl T.mc_InvalidSetting (pa_cons (pv 3) pa_nil)) (pa_cons (pe_xmk T.x_InvalidWord T.iC_InvalidWord T.tI_InvalidWord (oki_InvalidWord T) (hr.mono (by decide)) T.bi_InvalidWord pass0 rfl T.mc_InvalidWord (pa_cons (pv 3) pa_nil)) (pa_cons (pe_xmk T.x_InvalidNumber T.iC_InvalidNumber T.tI_InvalidNumber (oki_InvalidNumber T) (hr.mono (by decide)) T.bi_InvalidNumber pass0 rfl T.mc_InvalidNumber (pa_cons (pv 3) pa_nil)) (pa_cons (pe_xmk T.x_InvalidText T.iC_InvalidText T.tI_InvalidText (oki_InvalidText T) (hr.mono (by decide)) T.bi_InvalidText pass0 rfl T.mc_InvalidText (pa_cons (pv 3) pa_nil)) (pa_cons (pe_xmk T.x_InvalidCommand T.iC_InvalidCommand T.tI_InvalidCommand (oki_InvalidCommand T) (hr.mono (by decide)) T.bi_InvalidCommand pass0 rfl T.mc_InvalidCommand (pa_cons (pv 3) pa_nil)) (pa_cons (pe_xmk T.x_DuplicateName T.iC_DuplicateName T.tI_DuplicateName (oki_DuplicateName T) (hr.mono (by decide)) T.bi_DuplicateName pass0 rfl T.mc_DuplicateName (pa_cons (pv 3) pa_nil)) (pa_cons (pe_xmk T.x_SideTaken T.iC_SideTaken T.tI_SideTaken (oki_SideTaken T) (hr.mono (by decide)) T.bi_SideTaken pass0 rfl T.mc_SideTaken (pa_cons (pv 3) pa_nil)) (pa_cons (pe_xmk T.x_TooMany T.iC_TooMany T.tI_TooMany (oki_TooMany T) (hr.mono (by decide)) T.bi_TooMany pass0 rfl T.mc_TooMany (pa_cons (pv 3) pa_nil)) (pa_cons (pe_xmk T.x_Full T.iC_Full T.tI_Full (oki_Full T) (hr.mono (by decide)) T.bi_Full pass0 rfl T.mc_Full (pa_cons (pv 3) pa_nil)) pa_nil))))))))))))))))))
    (pss_cons (ps_set (i := 6) sc_law.nd rfl (Or.inl rfl) (pe_lst (pa_cons pe_str (pa_cons pe_str (pa_cons pe_str (pa_cons pe_str (pa_cons pe_str (pa_cons pe_str (pa_cons pe_str (pa_cons pe_str (pa_cons pe_str (pa_cons pe_str (pa_cons pe_str (pa_cons pe_str (pa_cons pe_str (pa_cons pe_str (pa_cons pe_str (pa_cons pe_str pa_nil))))))))))))))))))
    (pss_cons (ps_if (pt_not (pt_val (pe_call (ok_same T 5) (hr.mono (by decide)) rfl T.m_same T.F_same.kp T.b_same .nil pass0 (pa_cons (pe_lc (own := [("_law_one", 10)]) (g := gName 10) (tt := tYes) rfl sc_law.nd (pi_list (pv 5)) (blkOk_by (own := [("_law_one", 10)]) (N := n_law) (sc := defScope s_law) (by decide +kernel)) (fun _ _ _ _ _ => (pg_name (i := 10) sc_law.nd rfl (Or.inl rfl))) (fun _ _ _ _ _ => pts_nil) (fun _ _ _ _ _ => (pe_lst (pa_cons (pe_xatC (K := K) rfl (pv 10)) (pa_cons (pe_call (ok_field T) (hr.mono (by decide)) rfl T.m_field T.F_field.kp T.b_field .nil pass0 (pa_cons (pv 10) pa_nil)) pa_nil))))) (pa_cons (pe_lc (own := [("_law_name", 11)]) (g := gName 11) (tt := tYes) rfl sc_law.nd (pi_list (pv 6)) (blkOk_by (own := [("_law_name", 11)]) (N := n_law) (sc := defScope s_law) (by decide +kernel)) (fun _ _ _ _ _ => (pg_name (i := 11) sc_law.nd rfl (Or.inl rfl))) (fun _ _ _ _ _ => pts_nil) (fun _ _ _ _ _ => (pe_lst (pa_cons (pv 11) (pa_cons (pv 3) pa_nil))))) pa_nil))))) (pss_one (ps_ret pe_bl)) pss_nil)
    (pss_cons (ps_set (i := 7) sc_law.nd rfl (Or.inl rfl) (pe_lst (pa_cons (pe_xmk T.x_InvalidRow T.iC_InvalidRow T.tI_InvalidRow (oki_InvalidRow T) (hr.mono (by decide)) T.bi_InvalidRow pass0 rfl T.mc_InvalidRow (pa_cons (pv 3) (pa_cons (pv 4) pa_nil))) (pa_cons (pe_xmk T.x_Torn T.iC_Torn T.tI_Torn (oki_Torn T) (hr.mono (by decide)) T.bi_Torn pass0 rfl T.mc_Torn (pa_cons (pv 3) (pa_cons (pv 4) pa_nil))) (pa_cons (pe_xmk0 T.x_OtherProgram T.iC_OtherProgram T.tI_OtherProgram (oki_OtherProgram T) (hr.mono (by decide)) T.bi_OtherProgram pass0 rfl T.mc_OtherProgram) (pa_cons (pe_xmk0 T.x_Untold T.iC_Untold T.tI_Untold (oki_Untold T) (hr.mono (by decide)) T.bi_Untold pass0 rfl T.mc_Untold) pa_nil))))))
    (pss_cons (ps_if (pt_not (pt_val (pe_call (ok_same T 5) (hr.mono (by decide)) rfl T.m_same T.F_same.kp T.b_same .nil pass0 (pa_cons (pe_lc (own := [("_law_one", 10)]) (g := gName 10) (tt := tYes) rfl sc_law.nd (pi_list (pv 7)) (blkOk_by (own := [("_law_one", 10)]) (N := n_law) (sc := defScope s_law) (by decide +kernel)) (fun _ _ _ _ _ => (pg_name (i := 10) sc_law.nd rfl (Or.inl rfl))) (fun _ _ _ _ _ => pts_nil) (fun _ _ _ _ _ => (pe_lst (pa_cons (pe_xatC (K := K) rfl (pv 10)) (pa_cons (pe_call (ok_field T) (hr.mono (by decide)) rfl T.m_field T.F_field.kp T.b_field .nil pass0 (pa_cons (pv 10) pa_nil)) pa_nil))))) (pa_cons (pe_lst (pa_cons (pe_lst (pa_cons pe_str (pa_cons (pe_tup (pa_cons (pv 3) (pa_cons (pv 4) pa_nil))) pa_nil))) (pa_cons (pe_lst (pa_cons pe_str (pa_cons (pe_tup (pa_cons (pv 3) (pa_cons (pv 4) pa_nil))) pa_nil))) (pa_cons (pe_lst (pa_cons pe_str (pa_cons pe_non pa_nil))) (pa_cons (pe_lst (pa_cons pe_str (pa_cons pe_non pa_nil))) pa_nil))))) pa_nil))))) (pss_one (ps_ret pe_bl)) pss_nil)
    (pss_cons (ps_if (pt_not (pt_val (pe_callB (cr_all rfl) (by rfl) T.z_all (by decide +kernel) (pa_cons (pe_lc (own := [("_law_one", 10)]) (g := gName 10) (tt := tYes) rfl sc_law.nd (pi_list (pe_op op_cat (pv 5) (pv 7))) (blkOk_by (own := [("_law_one", 10)]) (N := n_law) (sc := defScope s_law) (by decide +kernel)) (fun _ _ _ _ _ => (pg_name (i := 10) sc_law.nd rfl (Or.inl rfl))) (fun _ _ _ _ _ => pts_nil) (fun _ _ _ _ _ => (pe_cmpR (r := rEqD K) (op_eqD hr.units) (pe_call (ok_bases T) (hr.mono (by decide)) rfl T.m_bases T.F_bases.kp T.b_bases .nil pass0 (pa_cons (pv 10) pa_nil)) (pe_lst (pa_cons pe_bl (pa_cons pe_bl (pa_cons pe_bl (pa_cons pe_bl (pa_cons pe_bl pa_nil)))))) (nomark _)))) pa_nil)))) (pss_one (ps_ret pe_bl)) pss_nil)
    (pss_cons (ps_set (i := 8) sc_law.nd rfl (Or.inl rfl) (pe_lst (pa_cons (pe_xmk T.x_UnknownName T.iC_UnknownName T.tI_UnknownName (oki_UnknownName T) (hr.mono (by decide)) T.bi_UnknownName pass0 rfl T.mc_UnknownName (pa_cons (pv 3) pa_nil)) (pa_cons (pe_xmk T.x_UnknownColumn T.iC_UnknownColumn T.tI_UnknownColumn (oki_UnknownColumn T) (hr.mono (by decide)) T.bi_UnknownColumn pass0 rfl T.mc_UnknownColumn (pa_cons (pv 3) pa_nil)) (pa_cons (pe_xmk T.x_UnknownRow T.iC_UnknownRow T.tI_UnknownRow (oki_UnknownRow T) (hr.mono (by decide)) T.bi_UnknownRow pass0 rfl T.mc_UnknownRow (pa_cons (pv 3) pa_nil)) pa_nil)))))
    (pss_cons (ps_if (pt_not (pt_val (pe_call (ok_same T 5) (hr.mono (by decide)) rfl T.m_same T.F_same.kp T.b_same .nil pass0 (pa_cons (pe_lc (own := [("_law_one", 10)]) (g := gName 10) (tt := tYes) rfl sc_law.nd (pi_list (pv 8)) (blkOk_by (own := [("_law_one", 10)]) (N := n_law) (sc := defScope s_law) (by decide +kernel)) (fun _ _ _ _ _ => (pg_name (i := 10) sc_law.nd rfl (Or.inl rfl))) (fun _ _ _ _ _ => pts_nil) (fun _ _ _ _ _ => (pe_lst (pa_cons (pe_xatC (K := K) rfl (pv 10)) (pa_cons (pe_call (ok_field T) (hr.mono (by decide)) rfl T.m_field T.F_field.kp T.b_field .nil pass0 (pa_cons (pv 10) pa_nil)) pa_nil))))) (pa_cons (pe_lc (own := [("_law_name", 11)]) (g := gName 11) (tt := tYes) rfl sc_law.nd (pi_list (pe_lst (pa_cons pe_str (pa_cons pe_str (pa_cons pe_str pa_nil))))) (blkOk_by (own := [("_law_name", 11)]) (N := n_law) (sc := defScope s_law) (by decide +kernel)) (fun _ _ _ _ _ => (pg_name (i := 11) sc_law.nd rfl (Or.inl rfl))) (fun _ _ _ _ _ => pts_nil) (fun _ _ _ _ _ => (pe_lst (pa_cons (pv 11) (pa_cons (pv 3) pa_nil))))) pa_nil))))) (pss_one (ps_ret pe_bl)) pss_nil)
    (pss_cons (ps_if (pt_not (pt_val (pe_callB (cr_all rfl) (by rfl) T.z_all (by decide +kernel) (pa_cons (pe_lc (own := [("_law_one", 10)]) (g := gName 10) (tt := tYes) rfl sc_law.nd (pi_list (pv 8)) (blkOk_by (own := [("_law_one", 10)]) (N := n_law) (sc := defScope s_law) (by decide +kernel)) (fun _ _ _ _ _ => (pg_name (i := 10) sc_law.nd rfl (Or.inl rfl))) (fun _ _ _ _ _ => pts_nil) (fun _ _ _ _ _ => (pe_cmpR (r := rEqD K) (op_eqD hr.units) (pe_call (ok_bases T) (hr.mono (by decide)) rfl T.m_bases T.F_bases.kp T.b_bases .nil pass0 (pa_cons (pv 10) pa_nil)) (pe_lst (pa_cons pe_bl (pa_cons pe_bl (pa_cons pe_bl (pa_cons pe_bl (pa_cons pe_bl pa_nil)))))) (nomark _)))) pa_nil)))) (pss_one (ps_ret pe_bl)) pss_nil)
    (pss_cons (ps_set (i := 9) sc_law.nd rfl (Or.inl rfl) (pe_xmk0 T.x_NothingLeft T.iC_NothingLeft T.tI_NothingLeft (oki_NothingLeft T) (hr.mono (by decide)) T.bi_NothingLeft pass0 rfl T.mc_NothingLeft))
    (pss_cons (ps_if (PW.pt (pw_or (pt_cmpR op_ne (pe_xat (pv 9)) pe_str (nomark _)) (pw_or1 (pt_cmpR (op_neD hr.units) (pe_call (ok_bases T) (hr.mono (by decide)) rfl T.m_bases T.F_bases.kp T.b_bases .nil pass0 (pa_cons (pv 9) pa_nil)) (pe_lst (pa_cons pe_bl (pa_cons pe_bl (pa_cons pe_bl (pa_cons pe_bl (pa_cons pe_bl pa_nil)))))) (nomark _))))) (pss_one (ps_ret pe_bl)) pss_nil)
    (pss_one (ps_if (pt_not (pt_val (pe_call (ok_apart T) (hr.mono (by decide)) rfl T.m_apart T.F_apart.kp T.b_apart .nil pass0 (pa_cons (pe_op op_cat (pe_op op_cat (pe_op op_cat (pv 5) (pv 7)) (pv 8)) (pe_lst (pa_cons (pv 9) pa_nil))) pa_nil)))) (pss_one (ps_ret pe_bl)) pss_nil)))))))))))))))
    (pss_one (ps_ret pe_bl)))), ?_⟩
  refine ⟨_, rfl, a, ns, rfl, hS, h63, fun p b H0 hp B0 e0 => ?_⟩
  refine ⟨3, rfl, by decide, by decide, for_range (lo := 0) (n := 3) (fun i σ H2 => ∃ o2 o3 o4 o5 o6 o7 o8 o9 : Option V, σ = [some (.ref a), some (.ref p), o2, o3, o4, o5, o6, o7, o8, o9, none, none] ∧ BoxAt H2 p b)
    ⟨_, _, _, _, _, _, _, _, rfl, B0⟩ ?_ ?_⟩
  rotate_left
  · rintro σ H1 ⟨o2, o3, o4, o5, o6, o7, o8, o9, rfl, B1⟩
    exact k H1
  rintro i σ H1 hi ⟨o2, o3, o4, o5, o6, o7, o8, o9, rfl, B1⟩
  -- the two values
  refine ⟨_, rfl, (by show 1 ≤ sizeLine; decide), fun q1 hq1 => ?_⟩
  have B2 := B1.new hq1 (.lst [.str "x"])
  refine ⟨p, b, q1, [.str "x"], [.str "x"], rfl, B2, upd_same, B1.ne hq1, .cons (.str _) .nil, (by show 1 ≤ 100; decide), fun va dA H2 mA pA B3 e3 => ?_⟩
  refine ⟨_, rfl, (by show 2 ≤ sizeLine; decide), fun q2 hq2 => ?_⟩
  have B4 := B3.new hq2 (.lst [.str "y", .int 5])
  refine ⟨p, b, q2, [.str "y", .int 5], [.str "y", .int 5], rfl, B4, upd_same, B3.ne hq2, .cons (.str _) (.cons (.int _) .nil), (by show 2 ≤ 100; decide), fun vb dB H3 mB pB B5 e5 => ?_⟩
  have da : Dp K H3 va dA := Dp.mono hide_le _ _ (Dp.mono e5 _ _ (Dp.mono (hide_mono (same_new hq2 _)) _ _ pA))
  have db : Dp K H3 vb dB := Dp.mono hide_le _ _ pB
  have fA : Fits 2 dA := by
    rcases List.mem_append.mp mA with h | h
    · exact odds_fit _ h
    · obtain rfl := List.mem_singleton.mp h
      exact True.intro
  have fB : Fits 2 dB := by
    rcases List.mem_append.mp mB with h | h
    · exact odds_fit _ h
    rcases List.mem_cons.mp h with rfl | h
    · exact True.intro
    · obtain rfl := List.mem_singleton.mp h
      exact True.intro
  clear mA mB pA pB e3 e5 B1 B2 B3 B4
  refine ⟨(by show 2 ≤ sizeLine; decide), fun t ht => ?_⟩
  refine ⟨t, _, rfl, SqT.of upd_same, rfl, _, _, rfl, _, _, rfl, rfl, ?_⟩
  have st := same_new ht (.tup [va, vb])
  have B6 := B5.mono st
  replace da := Dp.mono st _ _ da
  replace db := Dp.mono st _ _ db
  have s := Same.refl (upd H3 t (.tup [va, vb]))
  have s := Same.refl (upd H3 t (.tup [va, vb]))
  have L : LotR T (upd H3 t (.tup [va, vb])) 0 0 [] [] := ⟨Lot.nil, rfl⟩
  refine ⟨_, rfl, (by show 1 ≤ 1000; decide), fun a0 ha => ⟨a0, [va], rfl, rfl, upd_same, fun dx H0 D1 => ⟨rfl, ?_⟩⟩⟩
  obtain ⟨s1, L1⟩ := LotR.add (n := 0) L ("InvalidName", ["given"]) (.cons da .nil) rfl rfl rfl ha D1
  replace L := L1
  replace da := Dp.mono s1 _ _ da
  replace db := Dp.mono s1 _ _ db
  replace s := s.trans s1
  clear L1 s1 D1 ha
  refine ⟨_, rfl, (by show 1 ≤ 1000; decide), fun a1 ha => ⟨a1, [va], rfl, rfl, upd_same, fun dx H1 D1 => ⟨rfl, ?_⟩⟩⟩
  obtain ⟨s1, L1⟩ := LotR.add (n := 1) L ("InvalidColumn", ["at"]) (.cons da .nil) rfl rfl rfl ha D1
  replace L := L1
  replace da := Dp.mono s1 _ _ da
  replace db := Dp.mono s1 _ _ db
  replace s := s.trans s1
  clear L1 s1 D1 ha
  refine ⟨_, rfl, (by show 1 ≤ 1000; decide), fun a2 ha => ⟨a2, [va], rfl, rfl, upd_same, fun dx H2 D1 => ⟨rfl, ?_⟩⟩⟩
  obtain ⟨s1, L1⟩ := LotR.add (n := 2) L ("InvalidSide", ["at"]) (.cons da .nil) rfl rfl rfl ha D1
  replace L := L1
  replace da := Dp.mono s1 _ _ da
  replace db := Dp.mono s1 _ _ db
  replace s := s.trans s1
  clear L1 s1 D1 ha
  refine ⟨_, rfl, (by show 1 ≤ 1000; decide), fun a3 ha => ⟨a3, [va], rfl, rfl, upd_same, fun dx H3 D1 => ⟨rfl, ?_⟩⟩⟩
  obtain ⟨s1, L1⟩ := LotR.add (n := 3) L ("InvalidKey", ["given"]) (.cons da .nil) rfl rfl rfl ha D1
  replace L := L1
  replace da := Dp.mono s1 _ _ da
  replace db := Dp.mono s1 _ _ db
  replace s := s.trans s1
  clear L1 s1 D1 ha
  refine ⟨_, rfl, (by show 1 ≤ 1000; decide), fun a4 ha => ⟨a4, [va], rfl, rfl, upd_same, fun dx H4 D1 => ⟨rfl, ?_⟩⟩⟩
  obtain ⟨s1, L1⟩ := LotR.add (n := 4) L ("InvalidStep", ["at"]) (.cons da .nil) rfl rfl rfl ha D1
  replace L := L1
  replace da := Dp.mono s1 _ _ da
  replace db := Dp.mono s1 _ _ db
  replace s := s.trans s1
  clear L1 s1 D1 ha
  refine ⟨_, rfl, (by show 1 ≤ 1000; decide), fun a5 ha => ⟨a5, [va], rfl, rfl, upd_same, fun dx H5 D1 => ⟨rfl, ?_⟩⟩⟩
  obtain ⟨s1, L1⟩ := LotR.add (n := 5) L ("InvalidTest", ["given"]) (.cons da .nil) rfl rfl rfl ha D1
  replace L := L1
  replace da := Dp.mono s1 _ _ da
  replace db := Dp.mono s1 _ _ db
  replace s := s.trans s1
  clear L1 s1 D1 ha
  refine ⟨_, rfl, (by show 1 ≤ 1000; decide), fun a6 ha => ⟨a6, [va], rfl, rfl, upd_same, fun dx H6 D1 => ⟨rfl, ?_⟩⟩⟩
  obtain ⟨s1, L1⟩ := LotR.add (n := 6) L ("InvalidThing", ["given"]) (.cons da .nil) rfl rfl rfl ha D1
  replace L := L1
  replace da := Dp.mono s1 _ _ da
  replace db := Dp.mono s1 _ _ db
  replace s := s.trans s1
  clear L1 s1 D1 ha
  refine ⟨_, rfl, (by show 1 ≤ 1000; decide), fun a7 ha => ⟨a7, [va], rfl, rfl, upd_same, fun dx H7 D1 => ⟨rfl, ?_⟩⟩⟩
  obtain ⟨s1, L1⟩ := LotR.add (n := 7) L ("InvalidSetting", ["given"]) (.cons da .nil) rfl rfl rfl ha D1
  replace L := L1
  replace da := Dp.mono s1 _ _ da
  replace db := Dp.mono s1 _ _ db
  replace s := s.trans s1
  clear L1 s1 D1 ha
  refine ⟨_, rfl, (by show 1 ≤ 1000; decide), fun a8 ha => ⟨a8, [va], rfl, rfl, upd_same, fun dx H8 D1 => ⟨rfl, ?_⟩⟩⟩
  obtain ⟨s1, L1⟩ := LotR.add (n := 8) L ("InvalidWord", ["given"]) (.cons da .nil) rfl rfl rfl ha D1
  replace L := L1
  replace da := Dp.mono s1 _ _ da
  replace db := Dp.mono s1 _ _ db
  replace s := s.trans s1
  clear L1 s1 D1 ha
  refine ⟨_, rfl, (by show 1 ≤ 1000; decide), fun a9 ha => ⟨a9, [va], rfl, rfl, upd_same, fun dx H9 D1 => ⟨rfl, ?_⟩⟩⟩
  obtain ⟨s1, L1⟩ := LotR.add (n := 9) L ("InvalidNumber", ["given"]) (.cons da .nil) rfl rfl rfl ha D1
  replace L := L1
  replace da := Dp.mono s1 _ _ da
  replace db := Dp.mono s1 _ _ db
  replace s := s.trans s1
  clear L1 s1 D1 ha
  refine ⟨_, rfl, (by show 1 ≤ 1000; decide), fun a10 ha => ⟨a10, [va], rfl, rfl, upd_same, fun dx H10 D1 => ⟨rfl, ?_⟩⟩⟩
  obtain ⟨s1, L1⟩ := LotR.add (n := 10) L ("InvalidText", ["line"]) (.cons da .nil) rfl rfl rfl ha D1
  replace L := L1
  replace da := Dp.mono s1 _ _ da
  replace db := Dp.mono s1 _ _ db
  replace s := s.trans s1
  clear L1 s1 D1 ha
  refine ⟨_, rfl, (by show 1 ≤ 1000; decide), fun a11 ha => ⟨a11, [va], rfl, rfl, upd_same, fun dx H11 D1 => ⟨rfl, ?_⟩⟩⟩
  obtain ⟨s1, L1⟩ := LotR.add (n := 11) L ("InvalidCommand", ["at"]) (.cons da .nil) rfl rfl rfl ha D1
  replace L := L1
  replace da := Dp.mono s1 _ _ da
  replace db := Dp.mono s1 _ _ db
  replace s := s.trans s1
  clear L1 s1 D1 ha
  refine ⟨_, rfl, (by show 1 ≤ 1000; decide), fun a12 ha => ⟨a12, [va], rfl, rfl, upd_same, fun dx H12 D1 => ⟨rfl, ?_⟩⟩⟩
  obtain ⟨s1, L1⟩ := LotR.add (n := 12) L ("DuplicateName", ["name"]) (.cons da .nil) rfl rfl rfl ha D1
  replace L := L1
  replace da := Dp.mono s1 _ _ da
  replace db := Dp.mono s1 _ _ db
  replace s := s.trans s1
  clear L1 s1 D1 ha
  refine ⟨_, rfl, (by show 1 ≤ 1000; decide), fun a13 ha => ⟨a13, [va], rfl, rfl, upd_same, fun dx H13 D1 => ⟨rfl, ?_⟩⟩⟩
  obtain ⟨s1, L1⟩ := LotR.add (n := 13) L ("SideTaken", ["taken"]) (.cons da .nil) rfl rfl rfl ha D1
  replace L := L1
  replace da := Dp.mono s1 _ _ da
  replace db := Dp.mono s1 _ _ db
  replace s := s.trans s1
  clear L1 s1 D1 ha
  refine ⟨_, rfl, (by show 1 ≤ 1000; decide), fun a14 ha => ⟨a14, [va], rfl, rfl, upd_same, fun dx H14 D1 => ⟨rfl, ?_⟩⟩⟩
  obtain ⟨s1, L1⟩ := LotR.add (n := 14) L ("TooMany", ["most"]) (.cons da .nil) rfl rfl rfl ha D1
  replace L := L1
  replace da := Dp.mono s1 _ _ da
  replace db := Dp.mono s1 _ _ db
  replace s := s.trans s1
  clear L1 s1 D1 ha
  refine ⟨_, rfl, (by show 1 ≤ 1000; decide), fun a15 ha => ⟨a15, [va], rfl, rfl, upd_same, fun dx H15 D1 => ⟨rfl, ?_⟩⟩⟩
  obtain ⟨s1, L1⟩ := LotR.add (n := 15) L ("Full", ["most"]) (.cons da .nil) rfl rfl rfl ha D1
  replace L := L1
  replace da := Dp.mono s1 _ _ da
  replace db := Dp.mono s1 _ _ db
  replace s := s.trans s1
  clear L1 s1 D1 ha
  have M : Lot T _ 0 ([.ref a0, .ref a1, .ref a2, .ref a3, .ref a4, .ref a5, .ref a6, .ref a7, .ref a8, .ref a9, .ref a10, .ref a11, .ref a12, .ref a13, .ref a14, .ref a15] : List V) (List.replicate 16 [dA]) := L.lot
  clear L
  refine ⟨(by show 16 ≤ sizeLine; decide), fun p5 hp => ?_⟩
  have g := same_new hp (.lst ([.ref a0, .ref a1, .ref a2, .ref a3, .ref a4, .ref a5, .ref a6, .ref a7, .ref a8, .ref a9, .ref a10, .ref a11, .ref a12, .ref a13, .ref a14, .ref a15] : List V))
  have ep5 : (upd H15 p5 (.lst ([.ref a0, .ref a1, .ref a2, .ref a3, .ref a4, .ref a5, .ref a6, .ref a7, .ref a8, .ref a9, .ref a10, .ref a11, .ref a12, .ref a13, .ref a14, .ref a15] : List V))) p5 = some _ := upd_same
  have lp5 : ([.ref a0, .ref a1, .ref a2, .ref a3, .ref a4, .ref a5, .ref a6, .ref a7, .ref a8, .ref a9, .ref a10, .ref a11, .ref a12, .ref a13, .ref a14, .ref a15] : List V).length = 16 := rfl
  replace M := M.mono g
  replace da := Dp.mono g _ _ da
  replace db := Dp.mono g _ _ db
  replace s := s.trans g
  clear g hp
  show tSeq _ _ _ _ (upd H15 p5 (.lst ([.ref a0, .ref a1, .ref a2, .ref a3, .ref a4, .ref a5, .ref a6, .ref a7, .ref a8, .ref a9, .ref a10, .ref a11, .ref a12, .ref a13, .ref a14, .ref a15] : List V)))
  generalize (upd H15 p5 (.lst ([.ref a0, .ref a1, .ref a2, .ref a3, .ref a4, .ref a5, .ref a6, .ref a7, .ref a8, .ref a9, .ref a10, .ref a11, .ref a12, .ref a13, .ref a14, .ref a15] : List V))) = G5 at *
  generalize ([.ref a0, .ref a1, .ref a2, .ref a3, .ref a4, .ref a5, .ref a6, .ref a7, .ref a8, .ref a9, .ref a10, .ref a11, .ref a12, .ref a13, .ref a14, .ref a15] : List V) = xs5 at *
  have M5 := M
  clear M
  -- their names
  refine ⟨(by show 16 ≤ sizeLine; decide), fun p6 hp => ?_⟩
  have g := same_new hp (.lst [.str "InvalidName", .str "InvalidColumn", .str "InvalidSide", .str "InvalidKey", .str "InvalidStep", .str "InvalidTest", .str "InvalidThing", .str "InvalidSetting", .str "InvalidWord", .str "InvalidNumber", .str "InvalidText", .str "InvalidCommand", .str "DuplicateName", .str "SideTaken", .str "TooMany", .str "Full"])
  have ep6 : (upd G5 p6 (.lst [.str "InvalidName", .str "InvalidColumn", .str "InvalidSide", .str "InvalidKey", .str "InvalidStep", .str "InvalidTest", .str "InvalidThing", .str "InvalidSetting", .str "InvalidWord", .str "InvalidNumber", .str "InvalidText", .str "InvalidCommand", .str "DuplicateName", .str "SideTaken", .str "TooMany", .str "Full"])) p6 = some (.lst (nmV 0 16)) := upd_same
  replace M5 := M5.mono g
  replace da := Dp.mono g _ _ da
  replace db := Dp.mono g _ _ db
  replace s := s.trans g
  replace ep5 := g _ _ ep5
  clear g hp
  show tSeq _ _ _ _ (upd G5 p6 (.lst [.str "InvalidName", .str "InvalidColumn", .str "InvalidSide", .str "InvalidKey", .str "InvalidStep", .str "InvalidTest", .str "InvalidThing", .str "InvalidSetting", .str "InvalidWord", .str "InvalidNumber", .str "InvalidText", .str "InvalidCommand", .str "DuplicateName", .str "SideTaken", .str "TooMany", .str "Full"]))
  generalize (upd G5 p6 (.lst [.str "InvalidName", .str "InvalidColumn", .str "InvalidSide", .str "InvalidKey", .str "InvalidStep", .str "InvalidTest", .str "InvalidThing", .str "InvalidSetting", .str "InvalidWord", .str "InvalidNumber", .str "InvalidText", .str "InvalidCommand", .str "DuplicateName", .str "SideTaken", .str "TooMany", .str "Full"])) = G6 at *
  refine ⟨_, rfl, p5, rfl, ⟨_, SqL.of ep5⟩, fun D1 hD1 => ?_⟩
  refine lc_list (K := K) (a := p5) (xs := xs5) (fun i Hx => ∃ acc : List V, Hx D1 = some (.lst acc) ∧ acc.length = i ∧ Same G6 (hide D1 Hx) ∧ DpAll K (hide D1 Hx) acc ((cds 0 (List.replicate 16 [dA])).take i))
    ⟨[], upd_same, rfl, by rw [hide_upd]; exact hid_in (Same.refl _) hD1, .nil⟩ (fun i Hx _ q => by
      obtain ⟨_, _, _, e, _⟩ := q
      exact hide_le.seq (e.seq (SqL.of ep5))) ?_ ?_
  · rintro i x H2 hx ⟨acc, hD2, hlen, e2, hd2⟩
    obtain ⟨ys, ds, hds, E1, hy⟩ := M5.all i x hx
    have hi : i < xs5.length := (List.getElem?_eq_some_iff.mp hx).1
    have hy2 := DpAll.mono e2 _ _ hy
    have E2 := (E1.mono e2).mono hide_le
    obtain ⟨C, a', dx, h1, rfl, h3, h4, h5⟩ := id E2.ex
    refine ⟨rfl, _, rfl, a', C, dx, _, _, rfl, T.xs.get h1, (T.no h1).code, h3, h4, rfl, _, rfl, .ref a', 0 + i, ys, ds, D1, _, rfl, E2, hD2, hy2, fun v H3 e3 hv => ?_⟩
    refine ⟨(by show 2 ≤ sizeLine; decide), fun q hq => ?_⟩
    have nq : q ≠ D1 := (ne_of_none (e3 _ _ hD2) hq).symm
    have s4 := same_new hq (.lst [.str (rowAt (0 + i)).1, v])
    refine ⟨acc, s4 _ _ (e3 _ _ hD2), small' (by omega), acc ++ [.ref q], upd_same, by rw [List.length_append, hlen]; rfl, ?_, ?_⟩
    · rw [hide_upd]
      exact e2.trans (hide_mono (e3.trans s4))
    · rw [hide_upd, cds_take hds]
      exact DpAll.app (DpAll.mono (hide_mono (e3.trans s4)) _ _ hd2) (.cons (.lst (SqL.of (hid_same nq)) (.cons (.str _) (.cons (Dp.mono (hide_mono s4) _ _ hv) .nil))) .nil)
  rintro H2 ⟨acc, hD2, hlen, e2, hd2⟩
  rw [lp5] at hlen hd2
  have g2 : Same G6 H2 := e2.trans hide_le
  have daX := Dp.mono g2 _ _ da
  have dl : DpAll K (hide D1 H2) acc (cds 0 (List.replicate 16 [dA])) := hd2
  refine ⟨_, rfl, p6, rfl, ⟨_, SqL.of (g2 _ _ ep6)⟩, fun D2 hD2' => ?_⟩
  refine lc_list (K := K) (a := p6) (xs := nmV 0 16) (fun i Hx => ∃ acc : List V, Hx D2 = some (.lst acc) ∧ acc.length = i ∧ Same H2 (hide D2 Hx) ∧ DpAll K (hide D2 Hx) acc ((cds 0 (List.replicate 16 [dA])).take i))
    ⟨[], upd_same, rfl, by rw [hide_upd]; exact hid_in (Same.refl _) hD2', .nil⟩ (fun i Hx _ q => by
      obtain ⟨_, _, _, e, _⟩ := q
      exact hide_le.seq (e.seq (SqL.of (g2 _ _ ep6)))) ?_ ?_
  · rintro i x H3 hx ⟨acc2, hD3, hlen3, e3, hd3⟩
    obtain ⟨hi, rfl⟩ := nm_get hx
    refine ⟨rfl, _, rfl, _, rfl, (by show 2 ≤ sizeLine; decide), fun q hq => ?_⟩
    have nq : q ≠ D2 := (ne_of_none hD3 hq).symm
    have s4 := same_new hq (.lst [.str (rowAt (0 + i)).1, va])
    refine ⟨acc2, s4 _ _ hD3, small' (by omega), acc2 ++ [.ref q], upd_same, by rw [List.length_append, hlen3]; rfl, ?_, ?_⟩
    · rw [hide_upd]
      exact e3.trans (hide_mono s4)
    · rw [hide_upd, cds_take (rep_get hi)]
      exact DpAll.app (DpAll.mono (hide_mono s4) _ _ hd3) (.cons (.lst (SqL.of (hid_same nq)) (.cons (.str _) (.cons (Dp.mono (e3.trans (hide_mono s4)) _ _ daX) .nil))) .nil)
  rintro H3 ⟨acc2, hD3, hlen3, e3, hd3⟩
  have g3 : Same H2 H3 := e3.trans hide_le
  have dr : DpAll K (hide D2 H3) acc2 (cds 0 (List.replicate 16 [dA])) := hd3
  refine ⟨_, _, .list (cds 0 (List.replicate 16 [dA])), rfl, .lst (SqL.of (g3 _ _ hD2)) (DpAll.mono (hide_le.trans g3) _ _ dl), .lst (SqL.of hD3) (DpAll.mono hide_le _ _ dr), cds_fits (by show 16 < 1000000; decide) (fun ds h => by
    obtain rfl := List.eq_of_mem_replicate h
    exact fA.up), fun G7 g7 => ?_⟩
  refine ⟨_, rfl, ?_⟩
  refine iteF ?_
  have g := g2.trans (g3.trans g7)
  replace M5 := M5.mono g
  replace da := Dp.mono g _ _ da
  replace db := Dp.mono g _ _ db
  have s5 := s.trans g
  replace ep5 := g _ _ ep5
  clear g g2 g3 g7 e2 e3 hd2 hd3 dl dr hD2 hD3 hlen hlen3 daX ep6 s
  -- two values, or none
  have s := Same.refl (G7)
  have L : LotR T (G7) 16 0 [] [] := ⟨Lot.nil, rfl⟩
  refine ⟨_, rfl, _, rfl, (by show 2 ≤ 1000; decide), fun a16 ha => ⟨a16, [va, vb], rfl, rfl, upd_same, fun dx H16 D1 => ⟨rfl, ?_⟩⟩⟩
  obtain ⟨s1, L1⟩ := LotR.add (n := 0) L ("InvalidRow", ["table", "at"]) (.cons da (.cons db .nil)) rfl rfl rfl ha D1
  replace L := L1
  replace da := Dp.mono s1 _ _ da
  replace db := Dp.mono s1 _ _ db
  replace s := s.trans s1
  clear L1 s1 D1 ha
  refine ⟨_, rfl, _, rfl, (by show 2 ≤ 1000; decide), fun a17 ha => ⟨a17, [va, vb], rfl, rfl, upd_same, fun dx H17 D1 => ⟨rfl, ?_⟩⟩⟩
  obtain ⟨s1, L1⟩ := LotR.add (n := 1) L ("Torn", ["one", "other"]) (.cons da (.cons db .nil)) rfl rfl rfl ha D1
  replace L := L1
  replace da := Dp.mono s1 _ _ da
  replace db := Dp.mono s1 _ _ db
  replace s := s.trans s1
  clear L1 s1 D1 ha
  refine ⟨(by show 0 ≤ 1000; decide), fun a18 ha => ⟨a18, [], rfl, rfl, upd_same, fun dx H18 D1 => ⟨rfl, ?_⟩⟩⟩
  obtain ⟨s1, L1⟩ := LotR.add (n := 2) L ("OtherProgram", []) .nil rfl rfl rfl ha D1
  replace L := L1
  replace da := Dp.mono s1 _ _ da
  replace db := Dp.mono s1 _ _ db
  replace s := s.trans s1
  clear L1 s1 D1 ha
  refine ⟨(by show 0 ≤ 1000; decide), fun a19 ha => ⟨a19, [], rfl, rfl, upd_same, fun dx H19 D1 => ⟨rfl, ?_⟩⟩⟩
  obtain ⟨s1, L1⟩ := LotR.add (n := 3) L ("Untold", []) .nil rfl rfl rfl ha D1
  replace L := L1
  replace da := Dp.mono s1 _ _ da
  replace db := Dp.mono s1 _ _ db
  replace s := s.trans s1
  clear L1 s1 D1 ha
  have M : Lot T _ 16 ([.ref a16, .ref a17, .ref a18, .ref a19] : List V) [[dA, dB], [dA, dB], [], []] := L.lot
  clear L
  refine ⟨(by show 4 ≤ sizeLine; decide), fun p7 hp => ?_⟩
  have g := same_new hp (.lst ([.ref a16, .ref a17, .ref a18, .ref a19] : List V))
  have ep7 : (upd H19 p7 (.lst ([.ref a16, .ref a17, .ref a18, .ref a19] : List V))) p7 = some _ := upd_same
  have lp7 : ([.ref a16, .ref a17, .ref a18, .ref a19] : List V).length = 4 := rfl
  replace M := M.mono g
  replace da := Dp.mono g _ _ da
  replace db := Dp.mono g _ _ db
  replace s := s.trans g
  clear g hp
  show tSeq _ _ _ _ (upd H19 p7 (.lst ([.ref a16, .ref a17, .ref a18, .ref a19] : List V)))
  generalize (upd H19 p7 (.lst ([.ref a16, .ref a17, .ref a18, .ref a19] : List V))) = G8 at *
  generalize ([.ref a16, .ref a17, .ref a18, .ref a19] : List V) = xs7 at *
  have M7 := M
  clear M
  replace M5 := M5.mono s
  replace ep5 := s _ _ ep5
  replace s5 := s5.trans s
  clear s
  refine ⟨_, rfl, p7, rfl, ⟨_, SqL.of ep7⟩, fun D1 hD1 => ?_⟩
  refine lc_list (K := K) (a := p7) (xs := xs7) (fun i Hx => ∃ acc : List V, Hx D1 = some (.lst acc) ∧ acc.length = i ∧ Same G8 (hide D1 Hx) ∧ DpAll K (hide D1 Hx) acc ((cds 16 [[dA, dB], [dA, dB], [], []]).take i))
    ⟨[], upd_same, rfl, by rw [hide_upd]; exact hid_in (Same.refl _) hD1, .nil⟩ (fun i Hx _ q => by
      obtain ⟨_, _, _, e, _⟩ := q
      exact hide_le.seq (e.seq (SqL.of ep7))) ?_ ?_
  · rintro i x H2 hx ⟨acc, hD2, hlen, e2, hd2⟩
    obtain ⟨ys, ds, hds, E1, hy⟩ := M7.all i x hx
    have hi : i < xs7.length := (List.getElem?_eq_some_iff.mp hx).1
    have hy2 := DpAll.mono e2 _ _ hy
    have E2 := (E1.mono e2).mono hide_le
    obtain ⟨C, a', dx, h1, rfl, h3, h4, h5⟩ := id E2.ex
    refine ⟨rfl, _, rfl, a', C, dx, _, _, rfl, T.xs.get h1, (T.no h1).code, h3, h4, rfl, _, rfl, .ref a', 16 + i, ys, ds, D1, _, rfl, E2, hD2, hy2, fun v H3 e3 hv => ?_⟩
    refine ⟨(by show 2 ≤ sizeLine; decide), fun q hq => ?_⟩
    have nq : q ≠ D1 := (ne_of_none (e3 _ _ hD2) hq).symm
    have s4 := same_new hq (.lst [.str (rowAt (16 + i)).1, v])
    refine ⟨acc, s4 _ _ (e3 _ _ hD2), small' (by omega), acc ++ [.ref q], upd_same, by rw [List.length_append, hlen]; rfl, ?_, ?_⟩
    · rw [hide_upd]
      exact e2.trans (hide_mono (e3.trans s4))
    · rw [hide_upd, cds_take hds]
      exact DpAll.app (DpAll.mono (hide_mono (e3.trans s4)) _ _ hd2) (.cons (.lst (SqL.of (hid_same nq)) (.cons (.str _) (.cons (Dp.mono (hide_mono s4) _ _ hv) .nil))) .nil)
  rintro H2 ⟨acc, hD2, hlen, e2, hd2⟩
  rw [lp7] at hlen hd2
  have g2 : Same G8 H2 := e2.trans hide_le
  have dl : DpAll K (hide D1 H2) acc (cds 16 [[dA, dB], [dA, dB], [], []]) := hd2
  refine ⟨_, rfl, _, rfl, (by show 2 ≤ sizeLine; decide), fun t1 ht1 => ⟨(by show 2 ≤ sizeLine; decide), fun r1 hr1 => ?_⟩⟩
  refine ⟨_, rfl, _, rfl, (by show 2 ≤ sizeLine; decide), fun t2 ht2 => ⟨(by show 2 ≤ sizeLine; decide), fun r2 hr2 => ?_⟩⟩
  refine ⟨(by show 2 ≤ sizeLine; decide), fun r3 hr3 => ⟨(by show 2 ≤ sizeLine; decide), fun r4 hr4 => ⟨(by show 4 ≤ sizeLine; decide), fun rr hrr => ?_⟩⟩⟩
  have f1 := same_new ht1 (.tup [va, vb])
  have f2 := same_new hr1 (.lst [.str "InvalidRow", .ref t1])
  have f3 := same_new ht2 (.tup [va, vb])
  have f4 := same_new hr2 (.lst [.str "Torn", .ref t2])
  have f5 := same_new hr3 (.lst [.str "OtherProgram", .non])
  have f6 := same_new hr4 (.lst [.str "Untold", .non])
  have f7 := same_new hrr (.lst [.ref r1, .ref r2, .ref r3, .ref r4])
  have f67 := f6.trans f7
  have f57 := f5.trans f67
  have f47 := f4.trans f57
  have f37 := f3.trans f47
  have f27 := f2.trans f37
  have f17 := f1.trans f27
  have da2 := Dp.mono (g2.trans f17) _ _ da
  have db2 := Dp.mono (g2.trans f17) _ _ db
  refine ⟨_, _, .list (cds 16 [[dA, dB], [dA, dB], [], []]), rfl, .lst (SqL.of (f17 _ _ hD2)) (DpAll.mono (hide_le.trans f17) _ _ dl), .lst (SqL.of upd_same)
    (.cons (.lst (SqL.of (f37 _ _ upd_same)) (.cons (.str _) (.cons (.tup (SqT.of (f27 _ _ upd_same)) (.cons da2 (.cons db2 .nil))) .nil)))
    (.cons (.lst (SqL.of (f57 _ _ upd_same)) (.cons (.str _) (.cons (.tup (SqT.of (f47 _ _ upd_same)) (.cons da2 (.cons db2 .nil))) .nil)))
    (.cons (.lst (SqL.of (f67 _ _ upd_same)) (.cons (.str _) (.cons .non .nil))) (.cons (.lst (SqL.of (f7 _ _ upd_same)) (.cons (.str _) (.cons .non .nil))) .nil)))),
    cds_fits (by show 4 < 1000000; decide) (fun ds h => ?_), fun G9 g9 => ?_⟩
  · have two : Fits 3 (.tuple [dA, dB]) := ⟨(by show 2 < 1000000; decide), fun d hd => by
      rcases List.mem_cons.mp hd with rfl | hd
      · exact fA
      · obtain rfl := List.mem_singleton.mp hd
        exact fB⟩
    simp only [List.mem_cons, List.not_mem_nil, or_false] at h
    rcases h with rfl | rfl | rfl | rfl
    · exact two
    · exact two
    · exact True.intro
    · exact True.intro
  refine ⟨_, rfl, ?_⟩
  refine iteF ?_
  have g := g2.trans (f17.trans g9)
  replace M5 := M5.mono g
  replace M7 := M7.mono g
  replace da := Dp.mono g _ _ da
  replace db := Dp.mono g _ _ db
  replace s5 := s5.trans g
  replace ep5 := g _ _ ep5
  replace ep7 := g _ _ ep7
  clear g g2 g9 e2 hd2 dl hD2 hlen f1 f2 f3 f4 f5 f6 f7 f67 f57 f47 f37 f27 f17 da2 db2
  -- what stands above these
  refine ⟨_, rfl, _, rfl, p5, p7, xs5, xs7, rfl, rfl, ep5, ep7, (by rw [lp5, lp7]; decide), fun pc hpc => ?_⟩
  have g := same_new hpc (.lst (xs5 ++ xs7))
  have epc : (upd G9 pc (.lst (xs5 ++ xs7))) pc = some (.lst (xs5 ++ xs7)) := upd_same
  have MM := Lot.app (M5.mono g) (M7.mono g) (by rw [lp5])
  have lpc : (xs5 ++ xs7).length = 20 := by rw [List.length_append, lp5, lp7]
  refine ⟨pc, rfl, ⟨_, SqL.of epc⟩, fun DA hDA => ?_⟩
  refine lc_list (K := K) (a := pc) (xs := xs5 ++ xs7) (fun i Hx => Same (upd G9 pc (.lst (xs5 ++ xs7))) Hx ∧ Hx DA = some (.lst ((List.replicate i true).map V.bl))) ⟨same_new hDA _, upd_same⟩ (fun i Hx _ q => q.1.seq (SqL.of epc)) ?_ ?_
  · rintro i x H2 hx ⟨e2, hD2⟩
    obtain ⟨ys, ds, hds, E1, hy⟩ := MM.all i x hx
    have hi : i < (xs5 ++ xs7).length := (List.getElem?_eq_some_iff.mp hx).1
    have hb : bsL (0 + i) = [true, true, false, false, false] := by
      unfold bsL
      rw [if_pos (by omega)]
    refine ⟨rfl, _, rfl, x, 0 + i, ys, rfl, E1.mono e2, fun q hq => ⟨(by show 5 ≤ sizeLine; decide), fun r hr' => ?_⟩⟩
    have s3 := same_new hq (.lst ((bsL (0 + i)).map V.bl))
    have s4 := same_new hr' (.lst ([true, true, false, false, false].map V.bl))
    refine ⟨.list ([true, true, false, false, false].map PyData.bool), .list ([true, true, false, false, false].map PyData.bool), .lst (SqL.of (s4 _ _ (by rw [upd_same, hb]))) (dp_bools _), .lst (SqL.of upd_same) (dp_bools [true, true, false, false, false]), bases_shaped, bases_shaped, ?_⟩
    rw [bases_eqv]
    refine ⟨_, s4 _ _ (s3 _ _ hD2), ?_, Same.mut (e2.trans (s3.trans s4)) hDA _, ?_⟩
    · rw [List.length_map, List.length_replicate]
      exact small' (by omega)
    · rw [upd_same, List.replicate_succ', List.map_append]
      rfl
  rintro H2 ⟨e2, hD2⟩
  refine ⟨DA, _, rfl, SqL.of hD2, ?_⟩
  rw [show (List.replicate (xs5 ++ xs7).length true).all id = true by simp]
  refine ⟨_, rfl, ?_⟩
  refine iteF ?_
  replace g := g.trans e2
  replace M5 := M5.mono g
  replace M7 := M7.mono g
  replace da := Dp.mono g _ _ da
  replace db := Dp.mono g _ _ db
  replace s5 := s5.trans g
  replace ep5 := g _ _ ep5
  replace ep7 := g _ _ ep7
  clear g e2 hD2 MM lpc epc hDA hpc
  -- those about what is not there
  have s := Same.refl (H2)
  have L : LotR T (H2) 20 0 [] [] := ⟨Lot.nil, rfl⟩
  refine ⟨_, rfl, (by show 1 ≤ 1000; decide), fun a20 ha => ⟨a20, [va], rfl, rfl, upd_same, fun dx H20 D1 => ⟨rfl, ?_⟩⟩⟩
  obtain ⟨s1, L1⟩ := LotR.add (n := 0) L ("UnknownName", ["name"]) (.cons da .nil) rfl rfl rfl ha D1
  replace L := L1
  replace da := Dp.mono s1 _ _ da
  replace db := Dp.mono s1 _ _ db
  replace s := s.trans s1
  clear L1 s1 D1 ha
  refine ⟨_, rfl, (by show 1 ≤ 1000; decide), fun a21 ha => ⟨a21, [va], rfl, rfl, upd_same, fun dx H21 D1 => ⟨rfl, ?_⟩⟩⟩
  obtain ⟨s1, L1⟩ := LotR.add (n := 1) L ("UnknownColumn", ["name"]) (.cons da .nil) rfl rfl rfl ha D1
  replace L := L1
  replace da := Dp.mono s1 _ _ da
  replace db := Dp.mono s1 _ _ db
  replace s := s.trans s1
  clear L1 s1 D1 ha
  refine ⟨_, rfl, (by show 1 ≤ 1000; decide), fun a22 ha => ⟨a22, [va], rfl, rfl, upd_same, fun dx H22 D1 => ⟨rfl, ?_⟩⟩⟩
  obtain ⟨s1, L1⟩ := LotR.add (n := 2) L ("UnknownRow", ["number"]) (.cons da .nil) rfl rfl rfl ha D1
  replace L := L1
  replace da := Dp.mono s1 _ _ da
  replace db := Dp.mono s1 _ _ db
  replace s := s.trans s1
  clear L1 s1 D1 ha
  have M : Lot T _ 20 ([.ref a20, .ref a21, .ref a22] : List V) (List.replicate 3 [dA]) := L.lot
  clear L
  refine ⟨(by show 3 ≤ sizeLine; decide), fun p8 hp => ?_⟩
  have g := same_new hp (.lst ([.ref a20, .ref a21, .ref a22] : List V))
  have ep8 : (upd H22 p8 (.lst ([.ref a20, .ref a21, .ref a22] : List V))) p8 = some _ := upd_same
  have lp8 : ([.ref a20, .ref a21, .ref a22] : List V).length = 3 := rfl
  replace M := M.mono g
  replace da := Dp.mono g _ _ da
  replace db := Dp.mono g _ _ db
  replace s := s.trans g
  clear g hp
  show tSeq _ _ _ _ (upd H22 p8 (.lst ([.ref a20, .ref a21, .ref a22] : List V)))
  generalize (upd H22 p8 (.lst ([.ref a20, .ref a21, .ref a22] : List V))) = G10 at *
  generalize ([.ref a20, .ref a21, .ref a22] : List V) = xs8 at *
  have M8 := M
  clear M
  replace M5 := M5.mono s
  replace M7 := M7.mono s
  replace ep5 := s _ _ ep5
  replace ep7 := s _ _ ep7
  replace s5 := s5.trans s
  clear s
  refine ⟨_, rfl, p8, rfl, ⟨_, SqL.of ep8⟩, fun D1 hD1 => ?_⟩
  refine lc_list (K := K) (a := p8) (xs := xs8) (fun i Hx => ∃ acc : List V, Hx D1 = some (.lst acc) ∧ acc.length = i ∧ Same G10 (hide D1 Hx) ∧ DpAll K (hide D1 Hx) acc ((cds 20 (List.replicate 3 [dA])).take i))
    ⟨[], upd_same, rfl, by rw [hide_upd]; exact hid_in (Same.refl _) hD1, .nil⟩ (fun i Hx _ q => by
      obtain ⟨_, _, _, e, _⟩ := q
      exact hide_le.seq (e.seq (SqL.of ep8))) ?_ ?_
  · rintro i x H2 hx ⟨acc, hD2, hlen, e2, hd2⟩
    obtain ⟨ys, ds, hds, E1, hy⟩ := M8.all i x hx
    have hi : i < xs8.length := (List.getElem?_eq_some_iff.mp hx).1
    have hy2 := DpAll.mono e2 _ _ hy
    have E2 := (E1.mono e2).mono hide_le
    obtain ⟨C, a', dx, h1, rfl, h3, h4, h5⟩ := id E2.ex
    refine ⟨rfl, _, rfl, a', C, dx, _, _, rfl, T.xs.get h1, (T.no h1).code, h3, h4, rfl, _, rfl, .ref a', 20 + i, ys, ds, D1, _, rfl, E2, hD2, hy2, fun v H3 e3 hv => ?_⟩
    refine ⟨(by show 2 ≤ sizeLine; decide), fun q hq => ?_⟩
    have nq : q ≠ D1 := (ne_of_none (e3 _ _ hD2) hq).symm
    have s4 := same_new hq (.lst [.str (rowAt (20 + i)).1, v])
    refine ⟨acc, s4 _ _ (e3 _ _ hD2), small' (by omega), acc ++ [.ref q], upd_same, by rw [List.length_append, hlen]; rfl, ?_, ?_⟩
    · rw [hide_upd]
      exact e2.trans (hide_mono (e3.trans s4))
    · rw [hide_upd, cds_take hds]
      exact DpAll.app (DpAll.mono (hide_mono (e3.trans s4)) _ _ hd2) (.cons (.lst (SqL.of (hid_same nq)) (.cons (.str _) (.cons (Dp.mono (hide_mono s4) _ _ hv) .nil))) .nil)
  rintro H2 ⟨acc, hD2, hlen, e2, hd2⟩
  rw [lp8] at hlen hd2
  have g2 : Same G10 H2 := e2.trans hide_le
  have dl : DpAll K (hide D1 H2) acc (cds 20 (List.replicate 3 [dA])) := hd2
  refine ⟨(by show 3 ≤ sizeLine; decide), fun pn hpn => ⟨pn, rfl, ⟨_, SqL.of upd_same⟩, fun D2 hD2' => ?_⟩⟩
  have gn := same_new hpn (.lst [.str "UnknownName", .str "UnknownColumn", .str "UnknownRow"])
  have epn : (upd H2 pn (.lst [.str "UnknownName", .str "UnknownColumn", .str "UnknownRow"])) pn = some (.lst (nmV 20 3)) := upd_same
  have daX := Dp.mono (g2.trans gn) _ _ da
  refine lc_list (K := K) (a := pn) (xs := nmV 20 3) (fun i Hx => ∃ acc : List V, Hx D2 = some (.lst acc) ∧ acc.length = i ∧ Same (upd H2 pn (.lst [.str "UnknownName", .str "UnknownColumn", .str "UnknownRow"])) (hide D2 Hx) ∧ DpAll K (hide D2 Hx) acc ((cds 20 (List.replicate 3 [dA])).take i))
    ⟨[], upd_same, rfl, by rw [hide_upd]; exact hid_in (Same.refl _) hD2', .nil⟩ (fun i Hx _ q => by
      obtain ⟨_, _, _, e, _⟩ := q
      exact hide_le.seq (e.seq (SqL.of epn))) ?_ ?_
  · rintro i x H3 hx ⟨acc2, hD3, hlen3, e3, hd3⟩
    obtain ⟨hi, rfl⟩ := nm_get hx
    refine ⟨rfl, _, rfl, _, rfl, (by show 2 ≤ sizeLine; decide), fun q hq => ?_⟩
    have nq : q ≠ D2 := (ne_of_none hD3 hq).symm
    have s4 := same_new hq (.lst [.str (rowAt (20 + i)).1, va])
    refine ⟨acc2, s4 _ _ hD3, small' (by omega), acc2 ++ [.ref q], upd_same, by rw [List.length_append, hlen3]; rfl, ?_, ?_⟩
    · rw [hide_upd]
      exact e3.trans (hide_mono s4)
    · rw [hide_upd, cds_take (rep_get hi)]
      exact DpAll.app (DpAll.mono (hide_mono s4) _ _ hd3) (.cons (.lst (SqL.of (hid_same nq)) (.cons (.str _) (.cons (Dp.mono (e3.trans (hide_mono s4)) _ _ daX) .nil))) .nil)
  rintro H3 ⟨acc2, hD3, hlen3, e3, hd3⟩
  have g3 := gn.trans (e3.trans hide_le)
  have dr : DpAll K (hide D2 H3) acc2 (cds 20 (List.replicate 3 [dA])) := hd3
  refine ⟨_, _, .list (cds 20 (List.replicate 3 [dA])), rfl, .lst (SqL.of (g3 _ _ hD2)) (DpAll.mono (hide_le.trans g3) _ _ dl), .lst (SqL.of hD3) (DpAll.mono hide_le _ _ dr), cds_fits (by show 3 < 1000000; decide) (fun ds h => by
    obtain rfl := List.eq_of_mem_replicate h
    exact fA.up), fun G11 g11 => ?_⟩
  refine ⟨_, rfl, ?_⟩
  refine iteF ?_
  have g := g2.trans (g3.trans g11)
  replace M5 := M5.mono g
  replace M7 := M7.mono g
  replace M8 := M8.mono g
  replace da := Dp.mono g _ _ da
  replace db := Dp.mono g _ _ db
  replace s5 := s5.trans g
  replace ep5 := g _ _ ep5
  replace ep7 := g _ _ ep7
  replace ep8 := g _ _ ep8
  clear g g2 g3 g11 e2 e3 hd2 hd3 dl dr hD2 hD3 hlen hlen3 daX epn gn
  refine ⟨_, rfl, p8, rfl, ⟨_, SqL.of ep8⟩, fun DA hDA => ?_⟩
  refine lc_list (K := K) (a := p8) (xs := xs8) (fun i Hx => Same (G11) Hx ∧ Hx DA = some (.lst ((List.replicate i true).map V.bl))) ⟨same_new hDA _, upd_same⟩ (fun i Hx _ q => q.1.seq (SqL.of ep8)) ?_ ?_
  · rintro i x H2 hx ⟨e2, hD2⟩
    obtain ⟨ys, ds, hds, E1, hy⟩ := M8.all i x hx
    have hi : i < (xs8).length := (List.getElem?_eq_some_iff.mp hx).1
    have hb : bsL (20 + i) = [false, false, true, true, false] := by
      unfold bsL
      rw [if_neg (by omega), if_pos (by omega)]
    refine ⟨rfl, _, rfl, x, 20 + i, ys, rfl, E1.mono e2, fun q hq => ⟨(by show 5 ≤ sizeLine; decide), fun r hr' => ?_⟩⟩
    have s3 := same_new hq (.lst ((bsL (20 + i)).map V.bl))
    have s4 := same_new hr' (.lst ([false, false, true, true, false].map V.bl))
    refine ⟨.list ([false, false, true, true, false].map PyData.bool), .list ([false, false, true, true, false].map PyData.bool), .lst (SqL.of (s4 _ _ (by rw [upd_same, hb]))) (dp_bools _), .lst (SqL.of upd_same) (dp_bools [false, false, true, true, false]), bsG_shaped, bsG_shaped, ?_⟩
    rw [bsG_eqv]
    refine ⟨_, s4 _ _ (s3 _ _ hD2), ?_, Same.mut (e2.trans (s3.trans s4)) hDA _, ?_⟩
    · rw [List.length_map, List.length_replicate]
      exact small' (by omega)
    · rw [upd_same, List.replicate_succ', List.map_append]
      rfl
  rintro H2 ⟨g, hD2⟩
  refine ⟨DA, _, rfl, SqL.of hD2, ?_⟩
  rw [show (List.replicate xs8.length true).all id = true by simp]
  refine ⟨_, rfl, ?_⟩
  refine iteF ?_
  replace M5 := M5.mono g
  replace M7 := M7.mono g
  replace M8 := M8.mono g
  replace da := Dp.mono g _ _ da
  replace db := Dp.mono g _ _ db
  replace s5 := s5.trans g
  replace ep5 := g _ _ ep5
  replace ep7 := g _ _ ep7
  replace ep8 := g _ _ ep8
  clear g hD2 hDA
  -- the last one
  have s := Same.refl H2
  have L : LotR T H2 23 0 [] [] := ⟨Lot.nil, rfl⟩
  refine ⟨(by show 0 ≤ 1000; decide), fun a23 ha => ⟨a23, [], rfl, rfl, upd_same, fun dx H23 D1 => ⟨rfl, ?_⟩⟩⟩
  obtain ⟨s1, L1⟩ := LotR.add (n := 0) L ("NothingLeft", []) .nil rfl rfl rfl ha D1
  replace L := L1
  replace da := Dp.mono s1 _ _ da
  replace db := Dp.mono s1 _ _ db
  replace s := s.trans s1
  clear L1 s1 D1 ha
  have M9 : Lot T H23 23 ([.ref a23] : List V) [[]] := L.lot
  clear L
  replace M5 := M5.mono s
  replace M7 := M7.mono s
  replace M8 := M8.mono s
  replace s5 := s5.trans s
  replace ep5 := s _ _ ep5
  replace ep7 := s _ _ ep7
  replace ep8 := s _ _ ep8
  clear s
  obtain ⟨ys, ds, hds, E1, hy⟩ := M9.all 0 (.ref a23) rfl
  obtain ⟨C, a', dx, h1, h2, h3, h4, h5⟩ := id E1.ex
  cases h2
  refine ⟨_, rfl, a23, C, dx, _, _, rfl, T.xs.get h1, (T.no h1).code, h3, h4, rfl, ?_⟩
  refine ⟨rfl, _, rfl, ?_⟩
  rw [show (!decide (V.str (rowAt (23 + 0)).1 = V.str "NothingLeft")) = false by decide +kernel]
  refine iteF ?_
  have hb : bsL (23 + 0) = [false, false, false, true, true] := by decide
  refine ⟨_, rfl, .ref a23, 23 + 0, ys, rfl, E1, fun q hq => ⟨(by show 5 ≤ sizeLine; decide), fun r hr' => ?_⟩⟩
  have g1 := same_new hq (.lst ((bsL (23 + 0)).map V.bl))
  have g2 := same_new hr' (.lst ([false, false, false, true, true].map V.bl))
  refine ⟨.list ([false, false, false, true, true].map PyData.bool), .list ([false, false, false, true, true].map PyData.bool), .lst (SqL.of (g2 _ _ (by rw [upd_same, hb]))) (dp_bools _), .lst (SqL.of upd_same) (dp_bools [false, false, false, true, true]), bsN_shaped, bsN_shaped, ?_⟩
  rw [bsN_eqv]
  refine ⟨_, rfl, ?_⟩
  refine iteF ?_
  have g := g1.trans g2
  replace M5 := M5.mono g
  replace M7 := M7.mono g
  replace M8 := M8.mono g
  replace M9 := M9.mono g
  replace s5 := s5.trans g
  replace ep5 := g _ _ ep5
  replace ep7 := g _ _ ep7
  replace ep8 := g _ _ ep8
  clear g g1 g2 E1 h3 h4
  -- none is under another
  refine ⟨_, rfl, _, rfl, p5, p7, xs5, xs7, rfl, rfl, ep5, ep7, (by rw [lp5, lp7]; decide), fun c1 hc1 => ?_⟩
  have g1 := same_new hc1 (.lst (xs5 ++ xs7))
  refine ⟨_, rfl, c1, p8, xs5 ++ xs7, xs8, rfl, rfl, upd_same, g1 _ _ ep8, (by rw [List.length_append, lp5, lp7, lp8]; decide), fun c2 hc2 => ?_⟩
  have g2 := same_new hc2 (.lst (xs5 ++ xs7 ++ xs8))
  refine ⟨_, rfl, (by show 1 ≤ sizeLine; decide), fun c3 hc3 => ?_⟩
  have g3 := same_new hc3 (.lst [.ref a23])
  refine ⟨c2, c3, xs5 ++ xs7 ++ xs8, [.ref a23], rfl, rfl, g3 _ _ upd_same, upd_same, (by rw [List.length_append, List.length_append, lp5, lp7, lp8]; exact (by decide : 24 ≤ sizeLine)), fun c4 hc4 => ?_⟩
  have g4 := same_new hc4 (.lst (xs5 ++ xs7 ++ xs8 ++ [.ref a23]))
  have g := g1.trans (g2.trans (g3.trans g4))
  have l57 : (xs5 ++ xs7).length = 20 := by rw [List.length_append, lp5, lp7]
  have l578 : (xs5 ++ xs7 ++ xs8).length = 23 := by rw [List.length_append, l57, lp8]
  have MM := Lot.app (Lot.app (Lot.app (M5.mono g) (M7.mono g) (by rw [lp5])) (M8.mono g) (by rw [l57])) (M9.mono g) (by rw [l578])
  refine ⟨c4, xs5 ++ xs7 ++ xs8 ++ [.ref a23], rfl, SqL.of upd_same, (by rw [List.length_append, l578]; rfl), fun i x hx => ?_, fun G12 g12 => ?_⟩
  · obtain ⟨ys, ds, _, E1, _⟩ := MM.all i x hx
    rw [Nat.zero_add] at E1
    exact ⟨ys, E1⟩
  refine ⟨_, rfl, ?_⟩
  refine iteF ?_
  exact ⟨_, _, _, _, _, _, _, _, rfl, B6.mono (s5.trans (g.trans g12))⟩
end
end Bl

namespace Bl
open PySem L2
theorem top_mk {K : PySem.W.Frag} {h : Heap} {mg : Str → Option Value} {fa : Addr} (X : K.In h) (G : h.Ns mainGlobals mg) (hfa : mg "law" = some (.ref fa))
    {a0 : Addr} {od0 an0 : Option Addr} {sl0 : Array (Option Value)} {oc0 kV0 dc0 pm0 cd0 ct0 : Value}
    {a1 : Addr} {od1 an1 : Option Addr} {sl1 : Array (Option Value)} {oc1 kV1 dc1 pm1 cd1 ct1 : Value}
    {a2 : Addr} {od2 an2 : Option Addr} {sl2 : Array (Option Value)} {oc2 kV2 dc2 pm2 cd2 ct2 : Value}
    {a3 : Addr} {od3 an3 : Option Addr} {sl3 : Array (Option Value)} {oc3 kV3 dc3 pm3 cd3 ct3 : Value}
    {a4 : Addr} {od4 an4 : Option Addr} {sl4 : Array (Option Value)} {oc4 kV4 dc4 pm4 cd4 ct4 : Value}
    {a5 : Addr} {od5 an5 : Option Addr} {sl5 : Array (Option Value)} {oc5 kV5 dc5 pm5 cd5 ct5 : Value}
    {a6 : Addr} {od6 an6 : Option Addr} {sl6 : Array (Option Value)} {oc6 kV6 dc6 pm6 cd6 ct6 : Value}
    {a7 : Addr} {od7 an7 : Option Addr} {sl7 : Array (Option Value)} {oc7 kV7 dc7 pm7 cd7 ct7 : Value}
    {a8 : Addr} {od8 an8 : Option Addr} {sl8 : Array (Option Value)} {oc8 kV8 dc8 pm8 cd8 ct8 : Value}
    {C_LotsError : Addr}
    {C_Missing : Addr}
    {C_InvalidName : Addr}
    {f_InvalidName : Addr} {od_InvalidName an_InvalidName : Option Addr} {sl_InvalidName : Array (Option Value)} {oc_InvalidName kV_InvalidName dc_InvalidName pm_InvalidName cd_InvalidName ct_InvalidName : Value}
    {C_InvalidColumn : Addr}
    {f_InvalidColumn : Addr} {od_InvalidColumn an_InvalidColumn : Option Addr} {sl_InvalidColumn : Array (Option Value)} {oc_InvalidColumn kV_InvalidColumn dc_InvalidColumn pm_InvalidColumn cd_InvalidColumn ct_InvalidColumn : Value}
    {C_InvalidSide : Addr}
    {f_InvalidSide : Addr} {od_InvalidSide an_InvalidSide : Option Addr} {sl_InvalidSide : Array (Option Value)} {oc_InvalidSide kV_InvalidSide dc_InvalidSide pm_InvalidSide cd_InvalidSide ct_InvalidSide : Value}
    {C_InvalidKey : Addr}
    {f_InvalidKey : Addr} {od_InvalidKey an_InvalidKey : Option Addr} {sl_InvalidKey : Array (Option Value)} {oc_InvalidKey kV_InvalidKey dc_InvalidKey pm_InvalidKey cd_InvalidKey ct_InvalidKey : Value}
    {C_InvalidStep : Addr}
    {f_InvalidStep : Addr} {od_InvalidStep an_InvalidStep : Option Addr} {sl_InvalidStep : Array (Option Value)} {oc_InvalidStep kV_InvalidStep dc_InvalidStep pm_InvalidStep cd_InvalidStep ct_InvalidStep : Value}
    {C_InvalidTest : Addr}
    {f_InvalidTest : Addr} {od_InvalidTest an_InvalidTest : Option Addr} {sl_InvalidTest : Array (Option Value)} {oc_InvalidTest kV_InvalidTest dc_InvalidTest pm_InvalidTest cd_InvalidTest ct_InvalidTest : Value}
    {C_InvalidThing : Addr}
    {f_InvalidThing : Addr} {od_InvalidThing an_InvalidThing : Option Addr} {sl_InvalidThing : Array (Option Value)} {oc_InvalidThing kV_InvalidThing dc_InvalidThing pm_InvalidThing cd_InvalidThing ct_InvalidThing : Value}
    {C_InvalidRow : Addr}
    {f_InvalidRow : Addr} {od_InvalidRow an_InvalidRow : Option Addr} {sl_InvalidRow : Array (Option Value)} {oc_InvalidRow kV_InvalidRow dc_InvalidRow pm_InvalidRow cd_InvalidRow ct_InvalidRow : Value}
    {C_InvalidSetting : Addr}
    {f_InvalidSetting : Addr} {od_InvalidSetting an_InvalidSetting : Option Addr} {sl_InvalidSetting : Array (Option Value)} {oc_InvalidSetting kV_InvalidSetting dc_InvalidSetting pm_InvalidSetting cd_InvalidSetting ct_InvalidSetting : Value}
    {C_InvalidWord : Addr}
    {f_InvalidWord : Addr} {od_InvalidWord an_InvalidWord : Option Addr} {sl_InvalidWord : Array (Option Value)} {oc_InvalidWord kV_InvalidWord dc_InvalidWord pm_InvalidWord cd_InvalidWord ct_InvalidWord : Value}
    {C_InvalidNumber : Addr}
    {f_InvalidNumber : Addr} {od_InvalidNumber an_InvalidNumber : Option Addr} {sl_InvalidNumber : Array (Option Value)} {oc_InvalidNumber kV_InvalidNumber dc_InvalidNumber pm_InvalidNumber cd_InvalidNumber ct_InvalidNumber : Value}
    {C_InvalidText : Addr}
    {f_InvalidText : Addr} {od_InvalidText an_InvalidText : Option Addr} {sl_InvalidText : Array (Option Value)} {oc_InvalidText kV_InvalidText dc_InvalidText pm_InvalidText cd_InvalidText ct_InvalidText : Value}
    {C_InvalidCommand : Addr}
    {f_InvalidCommand : Addr} {od_InvalidCommand an_InvalidCommand : Option Addr} {sl_InvalidCommand : Array (Option Value)} {oc_InvalidCommand kV_InvalidCommand dc_InvalidCommand pm_InvalidCommand cd_InvalidCommand ct_InvalidCommand : Value}
    {C_DuplicateName : Addr}
    {f_DuplicateName : Addr} {od_DuplicateName an_DuplicateName : Option Addr} {sl_DuplicateName : Array (Option Value)} {oc_DuplicateName kV_DuplicateName dc_DuplicateName pm_DuplicateName cd_DuplicateName ct_DuplicateName : Value}
    {C_OtherProgram : Addr}
    {f_OtherProgram : Addr} {od_OtherProgram an_OtherProgram : Option Addr} {sl_OtherProgram : Array (Option Value)} {oc_OtherProgram kV_OtherProgram dc_OtherProgram pm_OtherProgram cd_OtherProgram ct_OtherProgram : Value}
    {C_SideTaken : Addr}
    {f_SideTaken : Addr} {od_SideTaken an_SideTaken : Option Addr} {sl_SideTaken : Array (Option Value)} {oc_SideTaken kV_SideTaken dc_SideTaken pm_SideTaken cd_SideTaken ct_SideTaken : Value}
    {C_Torn : Addr}
    {f_Torn : Addr} {od_Torn an_Torn : Option Addr} {sl_Torn : Array (Option Value)} {oc_Torn kV_Torn dc_Torn pm_Torn cd_Torn ct_Torn : Value}
    {C_TooMany : Addr}
    {f_TooMany : Addr} {od_TooMany an_TooMany : Option Addr} {sl_TooMany : Array (Option Value)} {oc_TooMany kV_TooMany dc_TooMany pm_TooMany cd_TooMany ct_TooMany : Value}
    {C_Full : Addr}
    {f_Full : Addr} {od_Full an_Full : Option Addr} {sl_Full : Array (Option Value)} {oc_Full kV_Full dc_Full pm_Full cd_Full ct_Full : Value}
    {C_Untold : Addr}
    {f_Untold : Addr} {od_Untold an_Untold : Option Addr} {sl_Untold : Array (Option Value)} {oc_Untold kV_Untold dc_Untold pm_Untold cd_Untold ct_Untold : Value}
    {C_UnknownName : Addr}
    {f_UnknownName : Addr} {od_UnknownName an_UnknownName : Option Addr} {sl_UnknownName : Array (Option Value)} {oc_UnknownName kV_UnknownName dc_UnknownName pm_UnknownName cd_UnknownName ct_UnknownName : Value}
    {C_UnknownColumn : Addr}
    {f_UnknownColumn : Addr} {od_UnknownColumn an_UnknownColumn : Option Addr} {sl_UnknownColumn : Array (Option Value)} {oc_UnknownColumn kV_UnknownColumn dc_UnknownColumn pm_UnknownColumn cd_UnknownColumn ct_UnknownColumn : Value}
    {C_UnknownRow : Addr}
    {f_UnknownRow : Addr} {od_UnknownRow an_UnknownRow : Option Addr} {sl_UnknownRow : Array (Option Value)} {oc_UnknownRow kV_UnknownRow dc_UnknownRow pm_UnknownRow cd_UnknownRow ct_UnknownRow : Value}
    {C_NothingLeft : Addr}
    {f_NothingLeft : Addr} {od_NothingLeft an_NothingLeft : Option Addr} {sl_NothingLeft : Array (Option Value)} {oc_NothingLeft kV_NothingLeft dc_NothingLeft pm_NothingLeft cd_NothingLeft ct_NothingLeft : Value}
    (A0 : PySem.W.nsIn K mainGlobals "_law_box" = some (some (.ref a0))) (L0 : K.lookup a0 = some ⟨oc0, od0, .func (PySem.W.fnOf "_law_box" "_law_box" (defArgs s_box) (defBody s_box) (defScope s_box) .none kV0 dc0 pm0 an0 cd0 ct0), sl0⟩) (C0 : PySem.W.codeIn K cd0 "_law_box" = true) (K0 : PySem.W.keepIn K (.ref a0) = true)
    (A1 : PySem.W.nsIn K mainGlobals "_law_pull" = some (some (.ref a1))) (L1 : K.lookup a1 = some ⟨oc1, od1, .func (PySem.W.fnOf "_law_pull" "_law_pull" (defArgs s_pull) (defBody s_pull) (defScope s_pull) .none kV1 dc1 pm1 an1 cd1 ct1), sl1⟩) (C1 : PySem.W.codeIn K cd1 "_law_pull" = true) (K1 : PySem.W.keepIn K (.ref a1) = true)
    (A2 : PySem.W.nsIn K mainGlobals "_law_of" = some (some (.ref a2))) (L2 : K.lookup a2 = some ⟨oc2, od2, .func (PySem.W.fnOf "_law_of" "_law_of" (defArgs s_of) (defBody s_of) (defScope s_of) .none kV2 dc2 pm2 an2 cd2 ct2), sl2⟩) (C2 : PySem.W.codeIn K cd2 "_law_of" = true) (K2 : PySem.W.keepIn K (.ref a2) = true)
    (A3 : PySem.W.nsIn K mainGlobals "_law_same" = some (some (.ref a3))) (L3 : K.lookup a3 = some ⟨oc3, od3, .func (PySem.W.fnOf "_law_same" "_law_same" (defArgs s_same) (defBody s_same) (defScope s_same) .none kV3 dc3 pm3 an3 cd3 ct3), sl3⟩) (C3 : PySem.W.codeIn K cd3 "_law_same" = true) (K3 : PySem.W.keepIn K (.ref a3) = true)
    (A4 : PySem.W.nsIn K mainGlobals "_law_field" = some (some (.ref a4))) (L4 : K.lookup a4 = some ⟨oc4, od4, .func (PySem.W.fnOf "_law_field" "_law_field" (defArgs s_field) (defBody s_field) (defScope s_field) .none kV4 dc4 pm4 an4 cd4 ct4), sl4⟩) (C4 : PySem.W.codeIn K cd4 "_law_field" = true) (K4 : PySem.W.keepIn K (.ref a4) = true)
    (A5 : PySem.W.nsIn K mainGlobals "_law_odd" = some (some (.ref a5))) (L5 : K.lookup a5 = some ⟨oc5, od5, .func (PySem.W.fnOf "_law_odd" "_law_odd" (defArgs s_odd) (defBody s_odd) (defScope s_odd) .none kV5 dc5 pm5 an5 cd5 ct5), sl5⟩) (C5 : PySem.W.codeIn K cd5 "_law_odd" = true) (K5 : PySem.W.keepIn K (.ref a5) = true)
    (A6 : PySem.W.nsIn K mainGlobals "_law_bases" = some (some (.ref a6))) (L6 : K.lookup a6 = some ⟨oc6, od6, .func (PySem.W.fnOf "_law_bases" "_law_bases" (defArgs s_bases) (defBody s_bases) (defScope s_bases) .none kV6 dc6 pm6 an6 cd6 ct6), sl6⟩) (C6 : PySem.W.codeIn K cd6 "_law_bases" = true) (K6 : PySem.W.keepIn K (.ref a6) = true)
    (A7 : PySem.W.nsIn K mainGlobals "_law_apart" = some (some (.ref a7))) (L7 : K.lookup a7 = some ⟨oc7, od7, .func (PySem.W.fnOf "_law_apart" "_law_apart" (defArgs s_apart) (defBody s_apart) (defScope s_apart) .none kV7 dc7 pm7 an7 cd7 ct7), sl7⟩) (C7 : PySem.W.codeIn K cd7 "_law_apart" = true) (K7 : PySem.W.keepIn K (.ref a7) = true)
    (A8 : PySem.W.nsIn K mainGlobals "law" = some (some (.ref a8))) (L8 : K.lookup a8 = some ⟨oc8, od8, .func (PySem.W.fnOf "law" "law" (defArgs s_law) (defBody s_law) (defScope s_law) .none kV8 dc8 pm8 an8 cd8 ct8), sl8⟩) (C8 : PySem.W.codeIn K cd8 "law" = true) (K8 : PySem.W.keepIn K (.ref a8) = true)
    (AC_LotsError : PySem.W.nsIn K mainGlobals "LotsError" = some (some (.ref C_LotsError)))
    (AC_Missing : PySem.W.nsIn K mainGlobals "Missing" = some (some (.ref C_Missing)))
    (AC_InvalidName : PySem.W.nsIn K mainGlobals "InvalidName" = some (some (.ref C_InvalidName)))
    (XB_InvalidName : xcB K veM "ValueError.__new__" C_InvalidName = true) (IC_InvalidName : PySem.W.findIn K (.ref C_InvalidName) "__init__" = some (some (.ref f_InvalidName))) (TI_InvalidName : PySem.W.typeIn K (.ref f_InvalidName) = some (.type "function")) (LI_InvalidName : K.lookup f_InvalidName = some ⟨oc_InvalidName, od_InvalidName, .func (PySem.W.fnOf "__init__" "InvalidName.__init__" (defArgs si_InvalidName) (defBody si_InvalidName) (defScope si_InvalidName) .none kV_InvalidName dc_InvalidName pm_InvalidName an_InvalidName cd_InvalidName ct_InvalidName), sl_InvalidName⟩) (CI_InvalidName : PySem.W.codeIn K cd_InvalidName "InvalidName.__init__" = true) (KI_InvalidName : PySem.W.keepIn K (.ref f_InvalidName) = true)
    (AC_InvalidColumn : PySem.W.nsIn K mainGlobals "InvalidColumn" = some (some (.ref C_InvalidColumn)))
    (XB_InvalidColumn : xcB K veM "ValueError.__new__" C_InvalidColumn = true) (IC_InvalidColumn : PySem.W.findIn K (.ref C_InvalidColumn) "__init__" = some (some (.ref f_InvalidColumn))) (TI_InvalidColumn : PySem.W.typeIn K (.ref f_InvalidColumn) = some (.type "function")) (LI_InvalidColumn : K.lookup f_InvalidColumn = some ⟨oc_InvalidColumn, od_InvalidColumn, .func (PySem.W.fnOf "__init__" "InvalidColumn.__init__" (defArgs si_InvalidColumn) (defBody si_InvalidColumn) (defScope si_InvalidColumn) .none kV_InvalidColumn dc_InvalidColumn pm_InvalidColumn an_InvalidColumn cd_InvalidColumn ct_InvalidColumn), sl_InvalidColumn⟩) (CI_InvalidColumn : PySem.W.codeIn K cd_InvalidColumn "InvalidColumn.__init__" = true) (KI_InvalidColumn : PySem.W.keepIn K (.ref f_InvalidColumn) = true)
    (AC_InvalidSide : PySem.W.nsIn K mainGlobals "InvalidSide" = some (some (.ref C_InvalidSide)))
    (XB_InvalidSide : xcB K veM "ValueError.__new__" C_InvalidSide = true) (IC_InvalidSide : PySem.W.findIn K (.ref C_InvalidSide) "__init__" = some (some (.ref f_InvalidSide))) (TI_InvalidSide : PySem.W.typeIn K (.ref f_InvalidSide) = some (.type "function")) (LI_InvalidSide : K.lookup f_InvalidSide = some ⟨oc_InvalidSide, od_InvalidSide, .func (PySem.W.fnOf "__init__" "InvalidSide.__init__" (defArgs si_InvalidSide) (defBody si_InvalidSide) (defScope si_InvalidSide) .none kV_InvalidSide dc_InvalidSide pm_InvalidSide an_InvalidSide cd_InvalidSide ct_InvalidSide), sl_InvalidSide⟩) (CI_InvalidSide : PySem.W.codeIn K cd_InvalidSide "InvalidSide.__init__" = true) (KI_InvalidSide : PySem.W.keepIn K (.ref f_InvalidSide) = true)
    (AC_InvalidKey : PySem.W.nsIn K mainGlobals "InvalidKey" = some (some (.ref C_InvalidKey)))
    (XB_InvalidKey : xcB K veM "ValueError.__new__" C_InvalidKey = true) (IC_InvalidKey : PySem.W.findIn K (.ref C_InvalidKey) "__init__" = some (some (.ref f_InvalidKey))) (TI_InvalidKey : PySem.W.typeIn K (.ref f_InvalidKey) = some (.type "function")) (LI_InvalidKey : K.lookup f_InvalidKey = some ⟨oc_InvalidKey, od_InvalidKey, .func (PySem.W.fnOf "__init__" "InvalidKey.__init__" (defArgs si_InvalidKey) (defBody si_InvalidKey) (defScope si_InvalidKey) .none kV_InvalidKey dc_InvalidKey pm_InvalidKey an_InvalidKey cd_InvalidKey ct_InvalidKey), sl_InvalidKey⟩) (CI_InvalidKey : PySem.W.codeIn K cd_InvalidKey "InvalidKey.__init__" = true) (KI_InvalidKey : PySem.W.keepIn K (.ref f_InvalidKey) = true)
    (AC_InvalidStep : PySem.W.nsIn K mainGlobals "InvalidStep" = some (some (.ref C_InvalidStep)))
    (XB_InvalidStep : xcB K veM "ValueError.__new__" C_InvalidStep = true) (IC_InvalidStep : PySem.W.findIn K (.ref C_InvalidStep) "__init__" = some (some (.ref f_InvalidStep))) (TI_InvalidStep : PySem.W.typeIn K (.ref f_InvalidStep) = some (.type "function")) (LI_InvalidStep : K.lookup f_InvalidStep = some ⟨oc_InvalidStep, od_InvalidStep, .func (PySem.W.fnOf "__init__" "InvalidStep.__init__" (defArgs si_InvalidStep) (defBody si_InvalidStep) (defScope si_InvalidStep) .none kV_InvalidStep dc_InvalidStep pm_InvalidStep an_InvalidStep cd_InvalidStep ct_InvalidStep), sl_InvalidStep⟩) (CI_InvalidStep : PySem.W.codeIn K cd_InvalidStep "InvalidStep.__init__" = true) (KI_InvalidStep : PySem.W.keepIn K (.ref f_InvalidStep) = true)
    (AC_InvalidTest : PySem.W.nsIn K mainGlobals "InvalidTest" = some (some (.ref C_InvalidTest)))
    (XB_InvalidTest : xcB K veM "ValueError.__new__" C_InvalidTest = true) (IC_InvalidTest : PySem.W.findIn K (.ref C_InvalidTest) "__init__" = some (some (.ref f_InvalidTest))) (TI_InvalidTest : PySem.W.typeIn K (.ref f_InvalidTest) = some (.type "function")) (LI_InvalidTest : K.lookup f_InvalidTest = some ⟨oc_InvalidTest, od_InvalidTest, .func (PySem.W.fnOf "__init__" "InvalidTest.__init__" (defArgs si_InvalidTest) (defBody si_InvalidTest) (defScope si_InvalidTest) .none kV_InvalidTest dc_InvalidTest pm_InvalidTest an_InvalidTest cd_InvalidTest ct_InvalidTest), sl_InvalidTest⟩) (CI_InvalidTest : PySem.W.codeIn K cd_InvalidTest "InvalidTest.__init__" = true) (KI_InvalidTest : PySem.W.keepIn K (.ref f_InvalidTest) = true)
    (AC_InvalidThing : PySem.W.nsIn K mainGlobals "InvalidThing" = some (some (.ref C_InvalidThing)))
    (XB_InvalidThing : xcB K veM "ValueError.__new__" C_InvalidThing = true) (IC_InvalidThing : PySem.W.findIn K (.ref C_InvalidThing) "__init__" = some (some (.ref f_InvalidThing))) (TI_InvalidThing : PySem.W.typeIn K (.ref f_InvalidThing) = some (.type "function")) (LI_InvalidThing : K.lookup f_InvalidThing = some ⟨oc_InvalidThing, od_InvalidThing, .func (PySem.W.fnOf "__init__" "InvalidThing.__init__" (defArgs si_InvalidThing) (defBody si_InvalidThing) (defScope si_InvalidThing) .none kV_InvalidThing dc_InvalidThing pm_InvalidThing an_InvalidThing cd_InvalidThing ct_InvalidThing), sl_InvalidThing⟩) (CI_InvalidThing : PySem.W.codeIn K cd_InvalidThing "InvalidThing.__init__" = true) (KI_InvalidThing : PySem.W.keepIn K (.ref f_InvalidThing) = true)
    (AC_InvalidRow : PySem.W.nsIn K mainGlobals "InvalidRow" = some (some (.ref C_InvalidRow)))
    (XB_InvalidRow : xcB K veM "ValueError.__new__" C_InvalidRow = true) (IC_InvalidRow : PySem.W.findIn K (.ref C_InvalidRow) "__init__" = some (some (.ref f_InvalidRow))) (TI_InvalidRow : PySem.W.typeIn K (.ref f_InvalidRow) = some (.type "function")) (LI_InvalidRow : K.lookup f_InvalidRow = some ⟨oc_InvalidRow, od_InvalidRow, .func (PySem.W.fnOf "__init__" "InvalidRow.__init__" (defArgs si_InvalidRow) (defBody si_InvalidRow) (defScope si_InvalidRow) .none kV_InvalidRow dc_InvalidRow pm_InvalidRow an_InvalidRow cd_InvalidRow ct_InvalidRow), sl_InvalidRow⟩) (CI_InvalidRow : PySem.W.codeIn K cd_InvalidRow "InvalidRow.__init__" = true) (KI_InvalidRow : PySem.W.keepIn K (.ref f_InvalidRow) = true)
    (AC_InvalidSetting : PySem.W.nsIn K mainGlobals "InvalidSetting" = some (some (.ref C_InvalidSetting)))
    (XB_InvalidSetting : xcB K veM "ValueError.__new__" C_InvalidSetting = true) (IC_InvalidSetting : PySem.W.findIn K (.ref C_InvalidSetting) "__init__" = some (some (.ref f_InvalidSetting))) (TI_InvalidSetting : PySem.W.typeIn K (.ref f_InvalidSetting) = some (.type "function")) (LI_InvalidSetting : K.lookup f_InvalidSetting = some ⟨oc_InvalidSetting, od_InvalidSetting, .func (PySem.W.fnOf "__init__" "InvalidSetting.__init__" (defArgs si_InvalidSetting) (defBody si_InvalidSetting) (defScope si_InvalidSetting) .none kV_InvalidSetting dc_InvalidSetting pm_InvalidSetting an_InvalidSetting cd_InvalidSetting ct_InvalidSetting), sl_InvalidSetting⟩) (CI_InvalidSetting : PySem.W.codeIn K cd_InvalidSetting "InvalidSetting.__init__" = true) (KI_InvalidSetting : PySem.W.keepIn K (.ref f_InvalidSetting) = true)
    (AC_InvalidWord : PySem.W.nsIn K mainGlobals "InvalidWord" = some (some (.ref C_InvalidWord)))
    (XB_InvalidWord : xcB K veM "ValueError.__new__" C_InvalidWord = true) (IC_InvalidWord : PySem.W.findIn K (.ref C_InvalidWord) "__init__" = some (some (.ref f_InvalidWord))) (TI_InvalidWord : PySem.W.typeIn K (.ref f_InvalidWord) = some (.type "function")) (LI_InvalidWord : K.lookup f_InvalidWord = some ⟨oc_InvalidWord, od_InvalidWord, .func (PySem.W.fnOf "__init__" "InvalidWord.__init__" (defArgs si_InvalidWord) (defBody si_InvalidWord) (defScope si_InvalidWord) .none kV_InvalidWord dc_InvalidWord pm_InvalidWord an_InvalidWord cd_InvalidWord ct_InvalidWord), sl_InvalidWord⟩) (CI_InvalidWord : PySem.W.codeIn K cd_InvalidWord "InvalidWord.__init__" = true) (KI_InvalidWord : PySem.W.keepIn K (.ref f_InvalidWord) = true)
    (AC_InvalidNumber : PySem.W.nsIn K mainGlobals "InvalidNumber" = some (some (.ref C_InvalidNumber)))
    (XB_InvalidNumber : xcB K veM "ValueError.__new__" C_InvalidNumber = true) (IC_InvalidNumber : PySem.W.findIn K (.ref C_InvalidNumber) "__init__" = some (some (.ref f_InvalidNumber))) (TI_InvalidNumber : PySem.W.typeIn K (.ref f_InvalidNumber) = some (.type "function")) (LI_InvalidNumber : K.lookup f_InvalidNumber = some ⟨oc_InvalidNumber, od_InvalidNumber, .func (PySem.W.fnOf "__init__" "InvalidNumber.__init__" (defArgs si_InvalidNumber) (defBody si_InvalidNumber) (defScope si_InvalidNumber) .none kV_InvalidNumber dc_InvalidNumber pm_InvalidNumber an_InvalidNumber cd_InvalidNumber ct_InvalidNumber), sl_InvalidNumber⟩) (CI_InvalidNumber : PySem.W.codeIn K cd_InvalidNumber "InvalidNumber.__init__" = true) (KI_InvalidNumber : PySem.W.keepIn K (.ref f_InvalidNumber) = true)
    (AC_InvalidText : PySem.W.nsIn K mainGlobals "InvalidText" = some (some (.ref C_InvalidText)))
    (XB_InvalidText : xcB K veM "ValueError.__new__" C_InvalidText = true) (IC_InvalidText : PySem.W.findIn K (.ref C_InvalidText) "__init__" = some (some (.ref f_InvalidText))) (TI_InvalidText : PySem.W.typeIn K (.ref f_InvalidText) = some (.type "function")) (LI_InvalidText : K.lookup f_InvalidText = some ⟨oc_InvalidText, od_InvalidText, .func (PySem.W.fnOf "__init__" "InvalidText.__init__" (defArgs si_InvalidText) (defBody si_InvalidText) (defScope si_InvalidText) .none kV_InvalidText dc_InvalidText pm_InvalidText an_InvalidText cd_InvalidText ct_InvalidText), sl_InvalidText⟩) (CI_InvalidText : PySem.W.codeIn K cd_InvalidText "InvalidText.__init__" = true) (KI_InvalidText : PySem.W.keepIn K (.ref f_InvalidText) = true)
    (AC_InvalidCommand : PySem.W.nsIn K mainGlobals "InvalidCommand" = some (some (.ref C_InvalidCommand)))
    (XB_InvalidCommand : xcB K veM "ValueError.__new__" C_InvalidCommand = true) (IC_InvalidCommand : PySem.W.findIn K (.ref C_InvalidCommand) "__init__" = some (some (.ref f_InvalidCommand))) (TI_InvalidCommand : PySem.W.typeIn K (.ref f_InvalidCommand) = some (.type "function")) (LI_InvalidCommand : K.lookup f_InvalidCommand = some ⟨oc_InvalidCommand, od_InvalidCommand, .func (PySem.W.fnOf "__init__" "InvalidCommand.__init__" (defArgs si_InvalidCommand) (defBody si_InvalidCommand) (defScope si_InvalidCommand) .none kV_InvalidCommand dc_InvalidCommand pm_InvalidCommand an_InvalidCommand cd_InvalidCommand ct_InvalidCommand), sl_InvalidCommand⟩) (CI_InvalidCommand : PySem.W.codeIn K cd_InvalidCommand "InvalidCommand.__init__" = true) (KI_InvalidCommand : PySem.W.keepIn K (.ref f_InvalidCommand) = true)
    (AC_DuplicateName : PySem.W.nsIn K mainGlobals "DuplicateName" = some (some (.ref C_DuplicateName)))
    (XB_DuplicateName : xcB K veM "ValueError.__new__" C_DuplicateName = true) (IC_DuplicateName : PySem.W.findIn K (.ref C_DuplicateName) "__init__" = some (some (.ref f_DuplicateName))) (TI_DuplicateName : PySem.W.typeIn K (.ref f_DuplicateName) = some (.type "function")) (LI_DuplicateName : K.lookup f_DuplicateName = some ⟨oc_DuplicateName, od_DuplicateName, .func (PySem.W.fnOf "__init__" "DuplicateName.__init__" (defArgs si_DuplicateName) (defBody si_DuplicateName) (defScope si_DuplicateName) .none kV_DuplicateName dc_DuplicateName pm_DuplicateName an_DuplicateName cd_DuplicateName ct_DuplicateName), sl_DuplicateName⟩) (CI_DuplicateName : PySem.W.codeIn K cd_DuplicateName "DuplicateName.__init__" = true) (KI_DuplicateName : PySem.W.keepIn K (.ref f_DuplicateName) = true)
    (AC_OtherProgram : PySem.W.nsIn K mainGlobals "OtherProgram" = some (some (.ref C_OtherProgram)))
    (XB_OtherProgram : xcB K veM "ValueError.__new__" C_OtherProgram = true) (IC_OtherProgram : PySem.W.findIn K (.ref C_OtherProgram) "__init__" = some (some (.ref f_OtherProgram))) (TI_OtherProgram : PySem.W.typeIn K (.ref f_OtherProgram) = some (.type "function")) (LI_OtherProgram : K.lookup f_OtherProgram = some ⟨oc_OtherProgram, od_OtherProgram, .func (PySem.W.fnOf "__init__" "OtherProgram.__init__" (defArgs si_OtherProgram) (defBody si_OtherProgram) (defScope si_OtherProgram) .none kV_OtherProgram dc_OtherProgram pm_OtherProgram an_OtherProgram cd_OtherProgram ct_OtherProgram), sl_OtherProgram⟩) (CI_OtherProgram : PySem.W.codeIn K cd_OtherProgram "OtherProgram.__init__" = true) (KI_OtherProgram : PySem.W.keepIn K (.ref f_OtherProgram) = true)
    (AC_SideTaken : PySem.W.nsIn K mainGlobals "SideTaken" = some (some (.ref C_SideTaken)))
    (XB_SideTaken : xcB K veM "ValueError.__new__" C_SideTaken = true) (IC_SideTaken : PySem.W.findIn K (.ref C_SideTaken) "__init__" = some (some (.ref f_SideTaken))) (TI_SideTaken : PySem.W.typeIn K (.ref f_SideTaken) = some (.type "function")) (LI_SideTaken : K.lookup f_SideTaken = some ⟨oc_SideTaken, od_SideTaken, .func (PySem.W.fnOf "__init__" "SideTaken.__init__" (defArgs si_SideTaken) (defBody si_SideTaken) (defScope si_SideTaken) .none kV_SideTaken dc_SideTaken pm_SideTaken an_SideTaken cd_SideTaken ct_SideTaken), sl_SideTaken⟩) (CI_SideTaken : PySem.W.codeIn K cd_SideTaken "SideTaken.__init__" = true) (KI_SideTaken : PySem.W.keepIn K (.ref f_SideTaken) = true)
    (AC_Torn : PySem.W.nsIn K mainGlobals "Torn" = some (some (.ref C_Torn)))
    (XB_Torn : xcB K veM "ValueError.__new__" C_Torn = true) (IC_Torn : PySem.W.findIn K (.ref C_Torn) "__init__" = some (some (.ref f_Torn))) (TI_Torn : PySem.W.typeIn K (.ref f_Torn) = some (.type "function")) (LI_Torn : K.lookup f_Torn = some ⟨oc_Torn, od_Torn, .func (PySem.W.fnOf "__init__" "Torn.__init__" (defArgs si_Torn) (defBody si_Torn) (defScope si_Torn) .none kV_Torn dc_Torn pm_Torn an_Torn cd_Torn ct_Torn), sl_Torn⟩) (CI_Torn : PySem.W.codeIn K cd_Torn "Torn.__init__" = true) (KI_Torn : PySem.W.keepIn K (.ref f_Torn) = true)
    (AC_TooMany : PySem.W.nsIn K mainGlobals "TooMany" = some (some (.ref C_TooMany)))
    (XB_TooMany : xcB K veM "ValueError.__new__" C_TooMany = true) (IC_TooMany : PySem.W.findIn K (.ref C_TooMany) "__init__" = some (some (.ref f_TooMany))) (TI_TooMany : PySem.W.typeIn K (.ref f_TooMany) = some (.type "function")) (LI_TooMany : K.lookup f_TooMany = some ⟨oc_TooMany, od_TooMany, .func (PySem.W.fnOf "__init__" "TooMany.__init__" (defArgs si_TooMany) (defBody si_TooMany) (defScope si_TooMany) .none kV_TooMany dc_TooMany pm_TooMany an_TooMany cd_TooMany ct_TooMany), sl_TooMany⟩) (CI_TooMany : PySem.W.codeIn K cd_TooMany "TooMany.__init__" = true) (KI_TooMany : PySem.W.keepIn K (.ref f_TooMany) = true)
    (AC_Full : PySem.W.nsIn K mainGlobals "Full" = some (some (.ref C_Full)))
    (XB_Full : xcB K veM "ValueError.__new__" C_Full = true) (IC_Full : PySem.W.findIn K (.ref C_Full) "__init__" = some (some (.ref f_Full))) (TI_Full : PySem.W.typeIn K (.ref f_Full) = some (.type "function")) (LI_Full : K.lookup f_Full = some ⟨oc_Full, od_Full, .func (PySem.W.fnOf "__init__" "Full.__init__" (defArgs si_Full) (defBody si_Full) (defScope si_Full) .none kV_Full dc_Full pm_Full an_Full cd_Full ct_Full), sl_Full⟩) (CI_Full : PySem.W.codeIn K cd_Full "Full.__init__" = true) (KI_Full : PySem.W.keepIn K (.ref f_Full) = true)
    (AC_Untold : PySem.W.nsIn K mainGlobals "Untold" = some (some (.ref C_Untold)))
    (XB_Untold : xcB K veM "ValueError.__new__" C_Untold = true) (IC_Untold : PySem.W.findIn K (.ref C_Untold) "__init__" = some (some (.ref f_Untold))) (TI_Untold : PySem.W.typeIn K (.ref f_Untold) = some (.type "function")) (LI_Untold : K.lookup f_Untold = some ⟨oc_Untold, od_Untold, .func (PySem.W.fnOf "__init__" "Untold.__init__" (defArgs si_Untold) (defBody si_Untold) (defScope si_Untold) .none kV_Untold dc_Untold pm_Untold an_Untold cd_Untold ct_Untold), sl_Untold⟩) (CI_Untold : PySem.W.codeIn K cd_Untold "Untold.__init__" = true) (KI_Untold : PySem.W.keepIn K (.ref f_Untold) = true)
    (AC_UnknownName : PySem.W.nsIn K mainGlobals "UnknownName" = some (some (.ref C_UnknownName)))
    (XB_UnknownName : xcB K leM "LookupError.__new__" C_UnknownName = true) (IC_UnknownName : PySem.W.findIn K (.ref C_UnknownName) "__init__" = some (some (.ref f_UnknownName))) (TI_UnknownName : PySem.W.typeIn K (.ref f_UnknownName) = some (.type "function")) (LI_UnknownName : K.lookup f_UnknownName = some ⟨oc_UnknownName, od_UnknownName, .func (PySem.W.fnOf "__init__" "UnknownName.__init__" (defArgs si_UnknownName) (defBody si_UnknownName) (defScope si_UnknownName) .none kV_UnknownName dc_UnknownName pm_UnknownName an_UnknownName cd_UnknownName ct_UnknownName), sl_UnknownName⟩) (CI_UnknownName : PySem.W.codeIn K cd_UnknownName "UnknownName.__init__" = true) (KI_UnknownName : PySem.W.keepIn K (.ref f_UnknownName) = true)
    (AC_UnknownColumn : PySem.W.nsIn K mainGlobals "UnknownColumn" = some (some (.ref C_UnknownColumn)))
    (XB_UnknownColumn : xcB K leM "LookupError.__new__" C_UnknownColumn = true) (IC_UnknownColumn : PySem.W.findIn K (.ref C_UnknownColumn) "__init__" = some (some (.ref f_UnknownColumn))) (TI_UnknownColumn : PySem.W.typeIn K (.ref f_UnknownColumn) = some (.type "function")) (LI_UnknownColumn : K.lookup f_UnknownColumn = some ⟨oc_UnknownColumn, od_UnknownColumn, .func (PySem.W.fnOf "__init__" "UnknownColumn.__init__" (defArgs si_UnknownColumn) (defBody si_UnknownColumn) (defScope si_UnknownColumn) .none kV_UnknownColumn dc_UnknownColumn pm_UnknownColumn an_UnknownColumn cd_UnknownColumn ct_UnknownColumn), sl_UnknownColumn⟩) (CI_UnknownColumn : PySem.W.codeIn K cd_UnknownColumn "UnknownColumn.__init__" = true) (KI_UnknownColumn : PySem.W.keepIn K (.ref f_UnknownColumn) = true)
    (AC_UnknownRow : PySem.W.nsIn K mainGlobals "UnknownRow" = some (some (.ref C_UnknownRow)))
    (XB_UnknownRow : xcB K leM "LookupError.__new__" C_UnknownRow = true) (IC_UnknownRow : PySem.W.findIn K (.ref C_UnknownRow) "__init__" = some (some (.ref f_UnknownRow))) (TI_UnknownRow : PySem.W.typeIn K (.ref f_UnknownRow) = some (.type "function")) (LI_UnknownRow : K.lookup f_UnknownRow = some ⟨oc_UnknownRow, od_UnknownRow, .func (PySem.W.fnOf "__init__" "UnknownRow.__init__" (defArgs si_UnknownRow) (defBody si_UnknownRow) (defScope si_UnknownRow) .none kV_UnknownRow dc_UnknownRow pm_UnknownRow an_UnknownRow cd_UnknownRow ct_UnknownRow), sl_UnknownRow⟩) (CI_UnknownRow : PySem.W.codeIn K cd_UnknownRow "UnknownRow.__init__" = true) (KI_UnknownRow : PySem.W.keepIn K (.ref f_UnknownRow) = true)
    (AC_NothingLeft : PySem.W.nsIn K mainGlobals "NothingLeft" = some (some (.ref C_NothingLeft)))
    (XB_NothingLeft : xcB K ieM "IndexError.__new__" C_NothingLeft = true) (IC_NothingLeft : PySem.W.findIn K (.ref C_NothingLeft) "__init__" = some (some (.ref f_NothingLeft))) (TI_NothingLeft : PySem.W.typeIn K (.ref f_NothingLeft) = some (.type "function")) (LI_NothingLeft : K.lookup f_NothingLeft = some ⟨oc_NothingLeft, od_NothingLeft, .func (PySem.W.fnOf "__init__" "NothingLeft.__init__" (defArgs si_NothingLeft) (defBody si_NothingLeft) (defScope si_NothingLeft) .none kV_NothingLeft dc_NothingLeft pm_NothingLeft an_NothingLeft cd_NothingLeft ct_NothingLeft), sl_NothingLeft⟩) (CI_NothingLeft : PySem.W.codeIn K cd_NothingLeft "NothingLeft.__init__" = true) (KI_NothingLeft : PySem.W.keepIn K (.ref f_NothingLeft) = true)
    (G0 : PySem.W.specialIn K (.builtin "object.__class__") "__get__" = some (some (.builtin "getset_descriptor.__get__"))) (G1 : PySem.W.takesIn K (.builtin "object.__class__") = some true)
    (G2 : k24 K [C_InvalidName, C_InvalidColumn, C_InvalidSide, C_InvalidKey, C_InvalidStep, C_InvalidTest, C_InvalidThing, C_InvalidSetting, C_InvalidWord, C_InvalidNumber, C_InvalidText, C_InvalidCommand, C_DuplicateName, C_SideTaken, C_TooMany, C_Full, C_InvalidRow, C_Torn, C_OtherProgram, C_Untold, C_UnknownName, C_UnknownColumn, C_UnknownRow, C_NothingLeft] = true) (G3 : b24 K [C_InvalidName, C_InvalidColumn, C_InvalidSide, C_InvalidKey, C_InvalidStep, C_InvalidTest, C_InvalidThing, C_InvalidSetting, C_InvalidWord, C_InvalidNumber, C_InvalidText, C_InvalidCommand, C_DuplicateName, C_SideTaken, C_TooMany, C_Full, C_InvalidRow, C_Torn, C_OtherProgram, C_Untold, C_UnknownName, C_UnknownColumn, C_UnknownRow, C_NothingLeft] C_LotsError C_Missing = true) (G4 : n24 K [C_InvalidName, C_InvalidColumn, C_InvalidSide, C_InvalidKey, C_InvalidStep, C_InvalidTest, C_InvalidThing, C_InvalidSetting, C_InvalidWord, C_InvalidNumber, C_InvalidText, C_InvalidCommand, C_DuplicateName, C_SideTaken, C_TooMany, C_Full, C_InvalidRow, C_Torn, C_OtherProgram, C_Untold, C_UnknownName, C_UnknownColumn, C_UnknownRow, C_NothingLeft] = true)
    (Z0 : PySem.W.nsIn K mainGlobals "IndexError" = some none)
    (Z1 : PySem.W.nsIn K mainGlobals "LookupError" = some none)
    (Z2 : PySem.W.nsIn K mainGlobals "ValueError" = some none)
    (Z3 : PySem.W.nsIn K mainGlobals "abs" = some none)
    (Z4 : PySem.W.nsIn K mainGlobals "all" = some none)
    (Z5 : PySem.W.nsIn K mainGlobals "bool" = some none)
    (Z6 : PySem.W.nsIn K mainGlobals "int" = some none)
    (Z7 : PySem.W.nsIn K mainGlobals "isinstance" = some none)
    (Z8 : PySem.W.nsIn K mainGlobals "len" = some none)
    (Z9 : PySem.W.nsIn K mainGlobals "list" = some none)
    (Z10 : PySem.W.nsIn K mainGlobals "range" = some none)
    (Z11 : PySem.W.nsIn K mainGlobals "str" = some none)
    (Z12 : PySem.W.nsIn K mainGlobals "tuple" = some none)
    (Z13 : PySem.W.nsIn K mainGlobals "zip" = some none) :
    ∃ T : Top K mg, T.a_law = fa ∧ ∀ (s : Shared) (v : Value), BindsTo s T.d_law ⟨[v], []⟩ [("_law_script", v)] := by
  have e : a8 = fa := (Value.ref.inj (Option.some.inj (hfa.symm.trans (PySem.W.mg_of X G A8)))).symm
  subst e
  exact ⟨{
    a_box := a0, d_box := PySem.W.fnOf "_law_box" "_law_box" (defArgs s_box) (defBody s_box) (defScope s_box) .none kV0 dc0 pm0 an0 cd0 ct0, F_box := fun_mk (st := s_box) L0 C0 K0, m_box := PySem.W.mg_of X G A0, b_box := (fun_mk (st := s_box) L0 C0 K0).binds (ps := ["_law_script"]) fun _ _ _ _ _ _ us hl => match us, hl with | [_], _ => rfl,
    a_pull := a1, d_pull := PySem.W.fnOf "_law_pull" "_law_pull" (defArgs s_pull) (defBody s_pull) (defScope s_pull) .none kV1 dc1 pm1 an1 cd1 ct1, F_pull := fun_mk (st := s_pull) L1 C1 K1, m_pull := PySem.W.mg_of X G A1, b_pull := (fun_mk (st := s_pull) L1 C1 K1).binds (ps := ["_law_box_here", "_law_many"]) fun _ _ _ _ _ _ us hl => match us, hl with | [_, _], _ => rfl,
    a_of := a2, d_of := PySem.W.fnOf "_law_of" "_law_of" (defArgs s_of) (defBody s_of) (defScope s_of) .none kV2 dc2 pm2 an2 cd2 ct2, F_of := fun_mk (st := s_of) L2 C2 K2, m_of := PySem.W.mg_of X G A2, b_of := (fun_mk (st := s_of) L2 C2 K2).binds (ps := ["_law_box_here", "_law_some"]) fun _ _ _ _ _ _ us hl => match us, hl with | [_, _], _ => rfl,
    a_same := a3, d_same := PySem.W.fnOf "_law_same" "_law_same" (defArgs s_same) (defBody s_same) (defScope s_same) .none kV3 dc3 pm3 an3 cd3 ct3, F_same := fun_mk (st := s_same) L3 C3 K3, m_same := PySem.W.mg_of X G A3, b_same := (fun_mk (st := s_same) L3 C3 K3).binds (ps := ["_law_found", "_law_due"]) fun _ _ _ _ _ _ us hl => match us, hl with | [_, _], _ => rfl,
    a_field := a4, d_field := PySem.W.fnOf "_law_field" "_law_field" (defArgs s_field) (defBody s_field) (defScope s_field) .none kV4 dc4 pm4 an4 cd4 ct4, F_field := fun_mk (st := s_field) L4 C4 K4, m_field := PySem.W.mg_of X G A4, b_field := (fun_mk (st := s_field) L4 C4 K4).binds (ps := ["_law_e"]) fun _ _ _ _ _ _ us hl => match us, hl with | [_], _ => rfl,
    a_odd := a5, d_odd := PySem.W.fnOf "_law_odd" "_law_odd" (defArgs s_odd) (defBody s_odd) (defScope s_odd) .none kV5 dc5 pm5 an5 cd5 ct5, F_odd := fun_mk (st := s_odd) L5 C5 K5, m_odd := PySem.W.mg_of X G A5, b_odd := (fun_mk (st := s_odd) L5 C5 K5).binds (ps := ["_law_box_here", "_law_more"]) fun _ _ _ _ _ _ us hl => match us, hl with | [_, _], _ => rfl,
    a_bases := a6, d_bases := PySem.W.fnOf "_law_bases" "_law_bases" (defArgs s_bases) (defBody s_bases) (defScope s_bases) .none kV6 dc6 pm6 an6 cd6 ct6, F_bases := fun_mk (st := s_bases) L6 C6 K6, m_bases := PySem.W.mg_of X G A6, b_bases := (fun_mk (st := s_bases) L6 C6 K6).binds (ps := ["_law_e"]) fun _ _ _ _ _ _ us hl => match us, hl with | [_], _ => rfl,
    a_apart := a7, d_apart := PySem.W.fnOf "_law_apart" "_law_apart" (defArgs s_apart) (defBody s_apart) (defScope s_apart) .none kV7 dc7 pm7 an7 cd7 ct7, F_apart := fun_mk (st := s_apart) L7 C7 K7, m_apart := PySem.W.mg_of X G A7, b_apart := (fun_mk (st := s_apart) L7 C7 K7).binds (ps := ["_law_lots"]) fun _ _ _ _ _ _ us hl => match us, hl with | [_], _ => rfl,
    a_law := a8, d_law := PySem.W.fnOf "law" "law" (defArgs s_law) (defBody s_law) (defScope s_law) .none kV8 dc8 pm8 an8 cd8 ct8, F_law := fun_mk (st := s_law) L8 C8 K8, m_law := PySem.W.mg_of X G A8, b_law := (fun_mk (st := s_law) L8 C8 K8).binds (ps := ["_law_script"]) fun _ _ _ _ _ _ us hl => match us, hl with | [_], _ => rfl,
    C_LotsError := C_LotsError, mc_LotsError := PySem.W.mg_of X G AC_LotsError,
    C_Missing := C_Missing, mc_Missing := PySem.W.mg_of X G AC_Missing,
    C_InvalidName := C_InvalidName, mc_InvalidName := PySem.W.mg_of X G AC_InvalidName,
    x_InvalidName := xc_ve XB_InvalidName, f_InvalidName := f_InvalidName, di_InvalidName := PySem.W.fnOf "__init__" "InvalidName.__init__" (defArgs si_InvalidName) (defBody si_InvalidName) (defScope si_InvalidName) .none kV_InvalidName dc_InvalidName pm_InvalidName an_InvalidName cd_InvalidName ct_InvalidName, iC_InvalidName := IC_InvalidName, tI_InvalidName := TI_InvalidName, Fi_InvalidName := fun_mk (st := si_InvalidName) LI_InvalidName CI_InvalidName KI_InvalidName, bi_InvalidName := (fun_mk (st := si_InvalidName) LI_InvalidName CI_InvalidName KI_InvalidName).binds (ps := ["self", "given"]) fun _ _ _ _ _ _ us hl => match us, hl with | [_, _], _ => rfl,
    C_InvalidColumn := C_InvalidColumn, mc_InvalidColumn := PySem.W.mg_of X G AC_InvalidColumn,
    x_InvalidColumn := xc_ve XB_InvalidColumn, f_InvalidColumn := f_InvalidColumn, di_InvalidColumn := PySem.W.fnOf "__init__" "InvalidColumn.__init__" (defArgs si_InvalidColumn) (defBody si_InvalidColumn) (defScope si_InvalidColumn) .none kV_InvalidColumn dc_InvalidColumn pm_InvalidColumn an_InvalidColumn cd_InvalidColumn ct_InvalidColumn, iC_InvalidColumn := IC_InvalidColumn, tI_InvalidColumn := TI_InvalidColumn, Fi_InvalidColumn := fun_mk (st := si_InvalidColumn) LI_InvalidColumn CI_InvalidColumn KI_InvalidColumn, bi_InvalidColumn := (fun_mk (st := si_InvalidColumn) LI_InvalidColumn CI_InvalidColumn KI_InvalidColumn).binds (ps := ["self", "at"]) fun _ _ _ _ _ _ us hl => match us, hl with | [_, _], _ => rfl,
    C_InvalidSide := C_InvalidSide, mc_InvalidSide := PySem.W.mg_of X G AC_InvalidSide,
    x_InvalidSide := xc_ve XB_InvalidSide, f_InvalidSide := f_InvalidSide, di_InvalidSide := PySem.W.fnOf "__init__" "InvalidSide.__init__" (defArgs si_InvalidSide) (defBody si_InvalidSide) (defScope si_InvalidSide) .none kV_InvalidSide dc_InvalidSide pm_InvalidSide an_InvalidSide cd_InvalidSide ct_InvalidSide, iC_InvalidSide := IC_InvalidSide, tI_InvalidSide := TI_InvalidSide, Fi_InvalidSide := fun_mk (st := si_InvalidSide) LI_InvalidSide CI_InvalidSide KI_InvalidSide, bi_InvalidSide := (fun_mk (st := si_InvalidSide) LI_InvalidSide CI_InvalidSide KI_InvalidSide).binds (ps := ["self", "at"]) fun _ _ _ _ _ _ us hl => match us, hl with | [_, _], _ => rfl,
    C_InvalidKey := C_InvalidKey, mc_InvalidKey := PySem.W.mg_of X G AC_InvalidKey,
    x_InvalidKey := xc_ve XB_InvalidKey, f_InvalidKey := f_InvalidKey, di_InvalidKey := PySem.W.fnOf "__init__" "InvalidKey.__init__" (defArgs si_InvalidKey) (defBody si_InvalidKey) (defScope si_InvalidKey) .none kV_InvalidKey dc_InvalidKey pm_InvalidKey an_InvalidKey cd_InvalidKey ct_InvalidKey, iC_InvalidKey := IC_InvalidKey, tI_InvalidKey := TI_InvalidKey, Fi_InvalidKey := fun_mk (st := si_InvalidKey) LI_InvalidKey CI_InvalidKey KI_InvalidKey, bi_InvalidKey := (fun_mk (st := si_InvalidKey) LI_InvalidKey CI_InvalidKey KI_InvalidKey).binds (ps := ["self", "given"]) fun _ _ _ _ _ _ us hl => match us, hl with | [_, _], _ => rfl,
    C_InvalidStep := C_InvalidStep, mc_InvalidStep := PySem.W.mg_of X G AC_InvalidStep,
    x_InvalidStep := xc_ve XB_InvalidStep, f_InvalidStep := f_InvalidStep, di_InvalidStep := PySem.W.fnOf "__init__" "InvalidStep.__init__" (defArgs si_InvalidStep) (defBody si_InvalidStep) (defScope si_InvalidStep) .none kV_InvalidStep dc_InvalidStep pm_InvalidStep an_InvalidStep cd_InvalidStep ct_InvalidStep, iC_InvalidStep := IC_InvalidStep, tI_InvalidStep := TI_InvalidStep, Fi_InvalidStep := fun_mk (st := si_InvalidStep) LI_InvalidStep CI_InvalidStep KI_InvalidStep, bi_InvalidStep := (fun_mk (st := si_InvalidStep) LI_InvalidStep CI_InvalidStep KI_InvalidStep).binds (ps := ["self", "at"]) fun _ _ _ _ _ _ us hl => match us, hl with | [_, _], _ => rfl,
    C_InvalidTest := C_InvalidTest, mc_InvalidTest := PySem.W.mg_of X G AC_InvalidTest,
    x_InvalidTest := xc_ve XB_InvalidTest, f_InvalidTest := f_InvalidTest, di_InvalidTest := PySem.W.fnOf "__init__" "InvalidTest.__init__" (defArgs si_InvalidTest) (defBody si_InvalidTest) (defScope si_InvalidTest) .none kV_InvalidTest dc_InvalidTest pm_InvalidTest an_InvalidTest cd_InvalidTest ct_InvalidTest, iC_InvalidTest := IC_InvalidTest, tI_InvalidTest := TI_InvalidTest, Fi_InvalidTest := fun_mk (st := si_InvalidTest) LI_InvalidTest CI_InvalidTest KI_InvalidTest, bi_InvalidTest := (fun_mk (st := si_InvalidTest) LI_InvalidTest CI_InvalidTest KI_InvalidTest).binds (ps := ["self", "given"]) fun _ _ _ _ _ _ us hl => match us, hl with | [_, _], _ => rfl,
    C_InvalidThing := C_InvalidThing, mc_InvalidThing := PySem.W.mg_of X G AC_InvalidThing,
    x_InvalidThing := xc_ve XB_InvalidThing, f_InvalidThing := f_InvalidThing, di_InvalidThing := PySem.W.fnOf "__init__" "InvalidThing.__init__" (defArgs si_InvalidThing) (defBody si_InvalidThing) (defScope si_InvalidThing) .none kV_InvalidThing dc_InvalidThing pm_InvalidThing an_InvalidThing cd_InvalidThing ct_InvalidThing, iC_InvalidThing := IC_InvalidThing, tI_InvalidThing := TI_InvalidThing, Fi_InvalidThing := fun_mk (st := si_InvalidThing) LI_InvalidThing CI_InvalidThing KI_InvalidThing, bi_InvalidThing := (fun_mk (st := si_InvalidThing) LI_InvalidThing CI_InvalidThing KI_InvalidThing).binds (ps := ["self", "given"]) fun _ _ _ _ _ _ us hl => match us, hl with | [_, _], _ => rfl,
    C_InvalidRow := C_InvalidRow, mc_InvalidRow := PySem.W.mg_of X G AC_InvalidRow,
    x_InvalidRow := xc_ve XB_InvalidRow, f_InvalidRow := f_InvalidRow, di_InvalidRow := PySem.W.fnOf "__init__" "InvalidRow.__init__" (defArgs si_InvalidRow) (defBody si_InvalidRow) (defScope si_InvalidRow) .none kV_InvalidRow dc_InvalidRow pm_InvalidRow an_InvalidRow cd_InvalidRow ct_InvalidRow, iC_InvalidRow := IC_InvalidRow, tI_InvalidRow := TI_InvalidRow, Fi_InvalidRow := fun_mk (st := si_InvalidRow) LI_InvalidRow CI_InvalidRow KI_InvalidRow, bi_InvalidRow := (fun_mk (st := si_InvalidRow) LI_InvalidRow CI_InvalidRow KI_InvalidRow).binds (ps := ["self", "table", "at"]) fun _ _ _ _ _ _ us hl => match us, hl with | [_, _, _], _ => rfl,
    C_InvalidSetting := C_InvalidSetting, mc_InvalidSetting := PySem.W.mg_of X G AC_InvalidSetting,
    x_InvalidSetting := xc_ve XB_InvalidSetting, f_InvalidSetting := f_InvalidSetting, di_InvalidSetting := PySem.W.fnOf "__init__" "InvalidSetting.__init__" (defArgs si_InvalidSetting) (defBody si_InvalidSetting) (defScope si_InvalidSetting) .none kV_InvalidSetting dc_InvalidSetting pm_InvalidSetting an_InvalidSetting cd_InvalidSetting ct_InvalidSetting, iC_InvalidSetting := IC_InvalidSetting, tI_InvalidSetting := TI_InvalidSetting, Fi_InvalidSetting := fun_mk (st := si_InvalidSetting) LI_InvalidSetting CI_InvalidSetting KI_InvalidSetting, bi_InvalidSetting := (fun_mk (st := si_InvalidSetting) LI_InvalidSetting CI_InvalidSetting KI_InvalidSetting).binds (ps := ["self", "given"]) fun _ _ _ _ _ _ us hl => match us, hl with | [_, _], _ => rfl,
    C_InvalidWord := C_InvalidWord, mc_InvalidWord := PySem.W.mg_of X G AC_InvalidWord,
    x_InvalidWord := xc_ve XB_InvalidWord, f_InvalidWord := f_InvalidWord, di_InvalidWord := PySem.W.fnOf "__init__" "InvalidWord.__init__" (defArgs si_InvalidWord) (defBody si_InvalidWord) (defScope si_InvalidWord) .none kV_InvalidWord dc_InvalidWord pm_InvalidWord an_InvalidWord cd_InvalidWord ct_InvalidWord, iC_InvalidWord := IC_InvalidWord, tI_InvalidWord := TI_InvalidWord, Fi_InvalidWord := fun_mk (st := si_InvalidWord) LI_InvalidWord CI_InvalidWord KI_InvalidWord, bi_InvalidWord := (fun_mk (st := si_InvalidWord) LI_InvalidWord CI_InvalidWord KI_InvalidWord).binds (ps := ["self", "given"]) fun _ _ _ _ _ _ us hl => match us, hl with | [_, _], _ => rfl,
    C_InvalidNumber := C_InvalidNumber, mc_InvalidNumber := PySem.W.mg_of X G AC_InvalidNumber,
    x_InvalidNumber := xc_ve XB_InvalidNumber, f_InvalidNumber := f_InvalidNumber, di_InvalidNumber := PySem.W.fnOf "__init__" "InvalidNumber.__init__" (defArgs si_InvalidNumber) (defBody si_InvalidNumber) (defScope si_InvalidNumber) .none kV_InvalidNumber dc_InvalidNumber pm_InvalidNumber an_InvalidNumber cd_InvalidNumber ct_InvalidNumber, iC_InvalidNumber := IC_InvalidNumber, tI_InvalidNumber := TI_InvalidNumber, Fi_InvalidNumber := fun_mk (st := si_InvalidNumber) LI_InvalidNumber CI_InvalidNumber KI_InvalidNumber, bi_InvalidNumber := (fun_mk (st := si_InvalidNumber) LI_InvalidNumber CI_InvalidNumber KI_InvalidNumber).binds (ps := ["self", "given"]) fun _ _ _ _ _ _ us hl => match us, hl with | [_, _], _ => rfl,
    C_InvalidText := C_InvalidText, mc_InvalidText := PySem.W.mg_of X G AC_InvalidText,
    x_InvalidText := xc_ve XB_InvalidText, f_InvalidText := f_InvalidText, di_InvalidText := PySem.W.fnOf "__init__" "InvalidText.__init__" (defArgs si_InvalidText) (defBody si_InvalidText) (defScope si_InvalidText) .none kV_InvalidText dc_InvalidText pm_InvalidText an_InvalidText cd_InvalidText ct_InvalidText, iC_InvalidText := IC_InvalidText, tI_InvalidText := TI_InvalidText, Fi_InvalidText := fun_mk (st := si_InvalidText) LI_InvalidText CI_InvalidText KI_InvalidText, bi_InvalidText := (fun_mk (st := si_InvalidText) LI_InvalidText CI_InvalidText KI_InvalidText).binds (ps := ["self", "line"]) fun _ _ _ _ _ _ us hl => match us, hl with | [_, _], _ => rfl,
    C_InvalidCommand := C_InvalidCommand, mc_InvalidCommand := PySem.W.mg_of X G AC_InvalidCommand,
    x_InvalidCommand := xc_ve XB_InvalidCommand, f_InvalidCommand := f_InvalidCommand, di_InvalidCommand := PySem.W.fnOf "__init__" "InvalidCommand.__init__" (defArgs si_InvalidCommand) (defBody si_InvalidCommand) (defScope si_InvalidCommand) .none kV_InvalidCommand dc_InvalidCommand pm_InvalidCommand an_InvalidCommand cd_InvalidCommand ct_InvalidCommand, iC_InvalidCommand := IC_InvalidCommand, tI_InvalidCommand := TI_InvalidCommand, Fi_InvalidCommand := fun_mk (st := si_InvalidCommand) LI_InvalidCommand CI_InvalidCommand KI_InvalidCommand, bi_InvalidCommand := (fun_mk (st := si_InvalidCommand) LI_InvalidCommand CI_InvalidCommand KI_InvalidCommand).binds (ps := ["self", "at"]) fun _ _ _ _ _ _ us hl => match us, hl with | [_, _], _ => rfl,
    C_DuplicateName := C_DuplicateName, mc_DuplicateName := PySem.W.mg_of X G AC_DuplicateName,
    x_DuplicateName := xc_ve XB_DuplicateName, f_DuplicateName := f_DuplicateName, di_DuplicateName := PySem.W.fnOf "__init__" "DuplicateName.__init__" (defArgs si_DuplicateName) (defBody si_DuplicateName) (defScope si_DuplicateName) .none kV_DuplicateName dc_DuplicateName pm_DuplicateName an_DuplicateName cd_DuplicateName ct_DuplicateName, iC_DuplicateName := IC_DuplicateName, tI_DuplicateName := TI_DuplicateName, Fi_DuplicateName := fun_mk (st := si_DuplicateName) LI_DuplicateName CI_DuplicateName KI_DuplicateName, bi_DuplicateName := (fun_mk (st := si_DuplicateName) LI_DuplicateName CI_DuplicateName KI_DuplicateName).binds (ps := ["self", "name"]) fun _ _ _ _ _ _ us hl => match us, hl with | [_, _], _ => rfl,
    C_OtherProgram := C_OtherProgram, mc_OtherProgram := PySem.W.mg_of X G AC_OtherProgram,
    x_OtherProgram := xc_ve XB_OtherProgram, f_OtherProgram := f_OtherProgram, di_OtherProgram := PySem.W.fnOf "__init__" "OtherProgram.__init__" (defArgs si_OtherProgram) (defBody si_OtherProgram) (defScope si_OtherProgram) .none kV_OtherProgram dc_OtherProgram pm_OtherProgram an_OtherProgram cd_OtherProgram ct_OtherProgram, iC_OtherProgram := IC_OtherProgram, tI_OtherProgram := TI_OtherProgram, Fi_OtherProgram := fun_mk (st := si_OtherProgram) LI_OtherProgram CI_OtherProgram KI_OtherProgram, bi_OtherProgram := (fun_mk (st := si_OtherProgram) LI_OtherProgram CI_OtherProgram KI_OtherProgram).binds (ps := ["self"]) fun _ _ _ _ _ _ us hl => match us, hl with | [_], _ => rfl,
    C_SideTaken := C_SideTaken, mc_SideTaken := PySem.W.mg_of X G AC_SideTaken,
    x_SideTaken := xc_ve XB_SideTaken, f_SideTaken := f_SideTaken, di_SideTaken := PySem.W.fnOf "__init__" "SideTaken.__init__" (defArgs si_SideTaken) (defBody si_SideTaken) (defScope si_SideTaken) .none kV_SideTaken dc_SideTaken pm_SideTaken an_SideTaken cd_SideTaken ct_SideTaken, iC_SideTaken := IC_SideTaken, tI_SideTaken := TI_SideTaken, Fi_SideTaken := fun_mk (st := si_SideTaken) LI_SideTaken CI_SideTaken KI_SideTaken, bi_SideTaken := (fun_mk (st := si_SideTaken) LI_SideTaken CI_SideTaken KI_SideTaken).binds (ps := ["self", "taken"]) fun _ _ _ _ _ _ us hl => match us, hl with | [_, _], _ => rfl,
    C_Torn := C_Torn, mc_Torn := PySem.W.mg_of X G AC_Torn,
    x_Torn := xc_ve XB_Torn, f_Torn := f_Torn, di_Torn := PySem.W.fnOf "__init__" "Torn.__init__" (defArgs si_Torn) (defBody si_Torn) (defScope si_Torn) .none kV_Torn dc_Torn pm_Torn an_Torn cd_Torn ct_Torn, iC_Torn := IC_Torn, tI_Torn := TI_Torn, Fi_Torn := fun_mk (st := si_Torn) LI_Torn CI_Torn KI_Torn, bi_Torn := (fun_mk (st := si_Torn) LI_Torn CI_Torn KI_Torn).binds (ps := ["self", "one", "other"]) fun _ _ _ _ _ _ us hl => match us, hl with | [_, _, _], _ => rfl,
    C_TooMany := C_TooMany, mc_TooMany := PySem.W.mg_of X G AC_TooMany,
    x_TooMany := xc_ve XB_TooMany, f_TooMany := f_TooMany, di_TooMany := PySem.W.fnOf "__init__" "TooMany.__init__" (defArgs si_TooMany) (defBody si_TooMany) (defScope si_TooMany) .none kV_TooMany dc_TooMany pm_TooMany an_TooMany cd_TooMany ct_TooMany, iC_TooMany := IC_TooMany, tI_TooMany := TI_TooMany, Fi_TooMany := fun_mk (st := si_TooMany) LI_TooMany CI_TooMany KI_TooMany, bi_TooMany := (fun_mk (st := si_TooMany) LI_TooMany CI_TooMany KI_TooMany).binds (ps := ["self", "most"]) fun _ _ _ _ _ _ us hl => match us, hl with | [_, _], _ => rfl,
    C_Full := C_Full, mc_Full := PySem.W.mg_of X G AC_Full,
    x_Full := xc_ve XB_Full, f_Full := f_Full, di_Full := PySem.W.fnOf "__init__" "Full.__init__" (defArgs si_Full) (defBody si_Full) (defScope si_Full) .none kV_Full dc_Full pm_Full an_Full cd_Full ct_Full, iC_Full := IC_Full, tI_Full := TI_Full, Fi_Full := fun_mk (st := si_Full) LI_Full CI_Full KI_Full, bi_Full := (fun_mk (st := si_Full) LI_Full CI_Full KI_Full).binds (ps := ["self", "most"]) fun _ _ _ _ _ _ us hl => match us, hl with | [_, _], _ => rfl,
    C_Untold := C_Untold, mc_Untold := PySem.W.mg_of X G AC_Untold,
    x_Untold := xc_ve XB_Untold, f_Untold := f_Untold, di_Untold := PySem.W.fnOf "__init__" "Untold.__init__" (defArgs si_Untold) (defBody si_Untold) (defScope si_Untold) .none kV_Untold dc_Untold pm_Untold an_Untold cd_Untold ct_Untold, iC_Untold := IC_Untold, tI_Untold := TI_Untold, Fi_Untold := fun_mk (st := si_Untold) LI_Untold CI_Untold KI_Untold, bi_Untold := (fun_mk (st := si_Untold) LI_Untold CI_Untold KI_Untold).binds (ps := ["self"]) fun _ _ _ _ _ _ us hl => match us, hl with | [_], _ => rfl,
    C_UnknownName := C_UnknownName, mc_UnknownName := PySem.W.mg_of X G AC_UnknownName,
    x_UnknownName := xc_le XB_UnknownName, f_UnknownName := f_UnknownName, di_UnknownName := PySem.W.fnOf "__init__" "UnknownName.__init__" (defArgs si_UnknownName) (defBody si_UnknownName) (defScope si_UnknownName) .none kV_UnknownName dc_UnknownName pm_UnknownName an_UnknownName cd_UnknownName ct_UnknownName, iC_UnknownName := IC_UnknownName, tI_UnknownName := TI_UnknownName, Fi_UnknownName := fun_mk (st := si_UnknownName) LI_UnknownName CI_UnknownName KI_UnknownName, bi_UnknownName := (fun_mk (st := si_UnknownName) LI_UnknownName CI_UnknownName KI_UnknownName).binds (ps := ["self", "name"]) fun _ _ _ _ _ _ us hl => match us, hl with | [_, _], _ => rfl,
    C_UnknownColumn := C_UnknownColumn, mc_UnknownColumn := PySem.W.mg_of X G AC_UnknownColumn,
    x_UnknownColumn := xc_le XB_UnknownColumn, f_UnknownColumn := f_UnknownColumn, di_UnknownColumn := PySem.W.fnOf "__init__" "UnknownColumn.__init__" (defArgs si_UnknownColumn) (defBody si_UnknownColumn) (defScope si_UnknownColumn) .none kV_UnknownColumn dc_UnknownColumn pm_UnknownColumn an_UnknownColumn cd_UnknownColumn ct_UnknownColumn, iC_UnknownColumn := IC_UnknownColumn, tI_UnknownColumn := TI_UnknownColumn, Fi_UnknownColumn := fun_mk (st := si_UnknownColumn) LI_UnknownColumn CI_UnknownColumn KI_UnknownColumn, bi_UnknownColumn := (fun_mk (st := si_UnknownColumn) LI_UnknownColumn CI_UnknownColumn KI_UnknownColumn).binds (ps := ["self", "name"]) fun _ _ _ _ _ _ us hl => match us, hl with | [_, _], _ => rfl,
    C_UnknownRow := C_UnknownRow, mc_UnknownRow := PySem.W.mg_of X G AC_UnknownRow,
    x_UnknownRow := xc_le XB_UnknownRow, f_UnknownRow := f_UnknownRow, di_UnknownRow := PySem.W.fnOf "__init__" "UnknownRow.__init__" (defArgs si_UnknownRow) (defBody si_UnknownRow) (defScope si_UnknownRow) .none kV_UnknownRow dc_UnknownRow pm_UnknownRow an_UnknownRow cd_UnknownRow ct_UnknownRow, iC_UnknownRow := IC_UnknownRow, tI_UnknownRow := TI_UnknownRow, Fi_UnknownRow := fun_mk (st := si_UnknownRow) LI_UnknownRow CI_UnknownRow KI_UnknownRow, bi_UnknownRow := (fun_mk (st := si_UnknownRow) LI_UnknownRow CI_UnknownRow KI_UnknownRow).binds (ps := ["self", "number"]) fun _ _ _ _ _ _ us hl => match us, hl with | [_, _], _ => rfl,
    C_NothingLeft := C_NothingLeft, mc_NothingLeft := PySem.W.mg_of X G AC_NothingLeft,
    x_NothingLeft := xc_ie XB_NothingLeft, f_NothingLeft := f_NothingLeft, di_NothingLeft := PySem.W.fnOf "__init__" "NothingLeft.__init__" (defArgs si_NothingLeft) (defBody si_NothingLeft) (defScope si_NothingLeft) .none kV_NothingLeft dc_NothingLeft pm_NothingLeft an_NothingLeft cd_NothingLeft ct_NothingLeft, iC_NothingLeft := IC_NothingLeft, tI_NothingLeft := TI_NothingLeft, Fi_NothingLeft := fun_mk (st := si_NothingLeft) LI_NothingLeft CI_NothingLeft KI_NothingLeft, bi_NothingLeft := (fun_mk (st := si_NothingLeft) LI_NothingLeft CI_NothingLeft KI_NothingLeft).binds (ps := ["self"]) fun _ _ _ _ _ _ us hl => match us, hl with | [_], _ => rfl,
    hG := ⟨G0, G1⟩, hK := G2, hB := G3, hN := G4,
    z_IndexError := PySem.W.mg_none_of X G Z0,
    z_LookupError := PySem.W.mg_none_of X G Z1,
    z_ValueError := PySem.W.mg_none_of X G Z2,
    z_abs := PySem.W.mg_none_of X G Z3,
    z_all := PySem.W.mg_none_of X G Z4,
    z_bool := PySem.W.mg_none_of X G Z5,
    z_int := PySem.W.mg_none_of X G Z6,
    z_isinstance := PySem.W.mg_none_of X G Z7,
    z_len := PySem.W.mg_none_of X G Z8,
    z_list := PySem.W.mg_none_of X G Z9,
    z_range := PySem.W.mg_none_of X G Z10,
    z_str := PySem.W.mg_none_of X G Z11,
    z_tuple := PySem.W.mg_none_of X G Z12,
    z_zip := PySem.W.mg_none_of X G Z13 }, rfl, fun s v => .of_eq rfl⟩
theorem all_mk {l : PySem.W.OpenLaw} {w : World} {K : PySem.W.Frag} {mg : Str → Option Value} {fa : Addr}
    (h : ∃ T : Top K mg, T.a_law = fa ∧ ∀ (s : Shared) (v : Value), BindsTo s T.d_law ⟨[v], []⟩ [("_law_script", v)]) :
    ∃ fd : FuncData, (∀ (s : Shared) (v : Value), BindsTo s fd ⟨[v], []⟩ [("_law_script", v)]) ∧ ∀ base : Heap, K.In base → base.Ns mainGlobals mg → FnOk l.prog w K mg base CX0 9 fa fd ["_law_script"] (spLaw K) := by
  obtain ⟨T, rfl, hb⟩ := h
  exact ⟨T.d_law, hb, fun base _ _ => ok_law T⟩
theorem walk {l : PySem.W.OpenLaw} {q : Program} {loose : List Str} {XP : (Str → Option Value) → Heap → Prop} {YP : World → Heap → Prop} {d : DefRec} {K : Params → PySem.W.Frag} (hn : l.most = some 63) (hdf : d.params.defaults = [])
    (hY : ∀ (w : World) (h : Heap), YP w h → (K w.params).In h)
    (F : ∀ (w : World) (mg : Str → Option Value) (fa : Addr) (h : Heap), (K w.params).In h → h.Ns mainGlobals mg → mg d.name = some (.ref fa) →
      ∃ fd : FuncData, (∀ (s : Shared) (u : Value), BindsTo s fd ⟨[u], []⟩ [("_law_script", u)]) ∧ ∀ base : Heap, (K w.params).In base → base.Ns mainGlobals mg → FnOk l.prog w (K w.params) mg base CX0 9 fa fd ["_law_script"] (spLaw (K w.params))) :
    PySem.W.WalkO q loose XP YP l.row.toRowW d [] (fun f vs => PySem.call f vs) :=
  L2.walk_of (n := 63) (k := 9) (x := "_law_script") (CX := fun _ => CX0) (sp := fun w => spLaw (K w.params)) hn (by decide) hdf ⟨rfl, by decide, by decide⟩ hY F (fun _ _ a ns hl _ hS => ⟨a, ns, rfl, hS, hl, fun _ => rfl⟩) fun _ _ _ _ _ z => z
end Bl
open PySem PySem.W PyProof.Rows
set_option maxRecDepth 100000 in
set_option maxHeartbeats 0 in
theorem PySem.Challenge.cw_bothlots_k64_errors_and_classes_holds : PySem.Challenge.rw_bothlots_k64_errors_and_classes.Holds := by
  w_on; o_law; k_head; (case hw => w_witness2)
  k_fill
  refine Bl.walk (l := PySem.Challenge.rw_bothlots_k64_errors_and_classes) rfl rfl (fun w h Y => PySem.W.kIn_of Y) ?F
  case F =>
    intro w mg fa h KX G hmg
    refine Bl.all_mk ?H
    refine' Bl.top_mk KX G hmg ?A0 ?L0 ?C0 ?K0 ?A1 ?L1 ?C1 ?K1 ?A2 ?L2 ?C2 ?K2 ?A3 ?L3 ?C3 ?K3 ?A4 ?L4 ?C4 ?K4 ?A5 ?L5 ?C5 ?K5 ?A6 ?L6 ?C6 ?K6 ?A7 ?L7 ?C7 ?K7 ?A8 ?L8 ?C8 ?K8 ?AC_LotsError ?AC_Missing ?AC_InvalidName ?XB_InvalidName ?IC_InvalidName ?TI_InvalidName ?LI_InvalidName ?CI_InvalidName ?KI_InvalidName ?AC_InvalidColumn ?XB_InvalidColumn ?IC_InvalidColumn ?TI_InvalidColumn ?LI_InvalidColumn ?CI_InvalidColumn ?KI_InvalidColumn ?AC_InvalidSide ?XB_InvalidSide ?IC_InvalidSide ?TI_InvalidSide ?LI_InvalidSide ?CI_InvalidSide ?KI_InvalidSide ?AC_InvalidKey ?XB_InvalidKey ?IC_InvalidKey ?TI_InvalidKey ?LI_InvalidKey ?CI_InvalidKey ?KI_InvalidKey ?AC_InvalidStep ?XB_InvalidStep ?IC_InvalidStep ?TI_InvalidStep ?LI_InvalidStep ?CI_InvalidStep ?KI_InvalidStep ?AC_InvalidTest ?XB_InvalidTest ?IC_InvalidTest ?TI_InvalidTest ?LI_InvalidTest ?CI_InvalidTest ?KI_InvalidTest ?AC_InvalidThing ?XB_InvalidThing ?IC_InvalidThing ?TI_InvalidThing ?LI_InvalidThing ?CI_InvalidThing ?KI_InvalidThing ?AC_InvalidRow ?XB_InvalidRow ?IC_InvalidRow ?TI_InvalidRow ?LI_InvalidRow ?CI_InvalidRow ?KI_InvalidRow ?AC_InvalidSetting ?XB_InvalidSetting ?IC_InvalidSetting ?TI_InvalidSetting ?LI_InvalidSetting ?CI_InvalidSetting ?KI_InvalidSetting ?AC_InvalidWord ?XB_InvalidWord ?IC_InvalidWord ?TI_InvalidWord ?LI_InvalidWord ?CI_InvalidWord ?KI_InvalidWord ?AC_InvalidNumber ?XB_InvalidNumber ?IC_InvalidNumber ?TI_InvalidNumber ?LI_InvalidNumber ?CI_InvalidNumber ?KI_InvalidNumber ?AC_InvalidText ?XB_InvalidText ?IC_InvalidText ?TI_InvalidText ?LI_InvalidText ?CI_InvalidText ?KI_InvalidText ?AC_InvalidCommand ?XB_InvalidCommand ?IC_InvalidCommand ?TI_InvalidCommand ?LI_InvalidCommand ?CI_InvalidCommand ?KI_InvalidCommand ?AC_DuplicateName ?XB_DuplicateName ?IC_DuplicateName ?TI_DuplicateName ?LI_DuplicateName ?CI_DuplicateName ?KI_DuplicateName ?AC_OtherProgram ?XB_OtherProgram ?IC_OtherProgram ?TI_OtherProgram ?LI_OtherProgram ?CI_OtherProgram ?KI_OtherProgram ?AC_SideTaken ?XB_SideTaken ?IC_SideTaken ?TI_SideTaken ?LI_SideTaken ?CI_SideTaken ?KI_SideTaken ?AC_Torn ?XB_Torn ?IC_Torn ?TI_Torn ?LI_Torn ?CI_Torn ?KI_Torn ?AC_TooMany ?XB_TooMany ?IC_TooMany ?TI_TooMany ?LI_TooMany ?CI_TooMany ?KI_TooMany ?AC_Full ?XB_Full ?IC_Full ?TI_Full ?LI_Full ?CI_Full ?KI_Full ?AC_Untold ?XB_Untold ?IC_Untold ?TI_Untold ?LI_Untold ?CI_Untold ?KI_Untold ?AC_UnknownName ?XB_UnknownName ?IC_UnknownName ?TI_UnknownName ?LI_UnknownName ?CI_UnknownName ?KI_UnknownName ?AC_UnknownColumn ?XB_UnknownColumn ?IC_UnknownColumn ?TI_UnknownColumn ?LI_UnknownColumn ?CI_UnknownColumn ?KI_UnknownColumn ?AC_UnknownRow ?XB_UnknownRow ?IC_UnknownRow ?TI_UnknownRow ?LI_UnknownRow ?CI_UnknownRow ?KI_UnknownRow ?AC_NothingLeft ?XB_NothingLeft ?IC_NothingLeft ?TI_NothingLeft ?LI_NothingLeft ?CI_NothingLeft ?KI_NothingLeft ?G0 ?G1 ?G2 ?G3 ?G4 ?Z0 ?Z1 ?Z2 ?Z3 ?Z4 ?Z5 ?Z6 ?Z7 ?Z8 ?Z9 ?Z10 ?Z11 ?Z12 ?Z13
    (case A0 => k_is)
    (case L0 => k_is)
    (case C0 => k_is)
    (case K0 => k_is)
    (case A1 => k_is)
    (case L1 => k_is)
    (case C1 => k_is)
    (case K1 => k_is)
    (case A2 => k_is)
    (case L2 => k_is)
    (case C2 => k_is)
    (case K2 => k_is)
    (case A3 => k_is)
    (case L3 => k_is)
    (case C3 => k_is)
    (case K3 => k_is)
    (case A4 => k_is)
    (case L4 => k_is)
    (case C4 => k_is)
    (case K4 => k_is)
    (case A5 => k_is)
    (case L5 => k_is)
    (case C5 => k_is)
    (case K5 => k_is)
    (case A6 => k_is)
    (case L6 => k_is)
    (case C6 => k_is)
    (case K6 => k_is)
    (case A7 => k_is)
    (case L7 => k_is)
    (case C7 => k_is)
    (case K7 => k_is)
    (case A8 => k_is)
    (case L8 => k_is)
    (case C8 => k_is)
    (case K8 => k_is)
    (case AC_LotsError => k_is)
    (case AC_Missing => k_is)
    (case AC_InvalidName => k_is)
    (case XB_InvalidName => kernel_rfl)
    (case IC_InvalidName => k_is)
    (case TI_InvalidName => k_is)
    (case LI_InvalidName => k_is)
    (case CI_InvalidName => k_is)
    (case KI_InvalidName => k_is)
    (case AC_InvalidColumn => k_is)
    (case XB_InvalidColumn => kernel_rfl)
    (case IC_InvalidColumn => k_is)
    (case TI_InvalidColumn => k_is)
    (case LI_InvalidColumn => k_is)
    (case CI_InvalidColumn => k_is)
    (case KI_InvalidColumn => k_is)
    (case AC_InvalidSide => k_is)
    (case XB_InvalidSide => kernel_rfl)
    (case IC_InvalidSide => k_is)
    (case TI_InvalidSide => k_is)
    (case LI_InvalidSide => k_is)
    (case CI_InvalidSide => k_is)
    (case KI_InvalidSide => k_is)
    (case AC_InvalidKey => k_is)
    (case XB_InvalidKey => kernel_rfl)
    (case IC_InvalidKey => k_is)
    (case TI_InvalidKey => k_is)
    (case LI_InvalidKey => k_is)
    (case CI_InvalidKey => k_is)
    (case KI_InvalidKey => k_is)
    (case AC_InvalidStep => k_is)
    (case XB_InvalidStep => kernel_rfl)
    (case IC_InvalidStep => k_is)
    (case TI_InvalidStep => k_is)
    (case LI_InvalidStep => k_is)
    (case CI_InvalidStep => k_is)
    (case KI_InvalidStep => k_is)
    (case AC_InvalidTest => k_is)
    (case XB_InvalidTest => kernel_rfl)
    (case IC_InvalidTest => k_is)
    (case TI_InvalidTest => k_is)
    (case LI_InvalidTest => k_is)
    (case CI_InvalidTest => k_is)
    (case KI_InvalidTest => k_is)
    (case AC_InvalidThing => k_is)
    (case XB_InvalidThing => kernel_rfl)
    (case IC_InvalidThing => k_is)
    (case TI_InvalidThing => k_is)
    (case LI_InvalidThing => k_is)
    (case CI_InvalidThing => k_is)
    (case KI_InvalidThing => k_is)
    (case AC_InvalidRow => k_is)
    (case XB_InvalidRow => kernel_rfl)
    (case IC_InvalidRow => k_is)
    (case TI_InvalidRow => k_is)
    (case LI_InvalidRow => k_is)
    (case CI_InvalidRow => k_is)
    (case KI_InvalidRow => k_is)
    (case AC_InvalidSetting => k_is)
    (case XB_InvalidSetting => kernel_rfl)
    (case IC_InvalidSetting => k_is)
    (case TI_InvalidSetting => k_is)
    (case LI_InvalidSetting => k_is)
    (case CI_InvalidSetting => k_is)
    (case KI_InvalidSetting => k_is)
    (case AC_InvalidWord => k_is)
    (case XB_InvalidWord => kernel_rfl)
    (case IC_InvalidWord => k_is)
    (case TI_InvalidWord => k_is)
    (case LI_InvalidWord => k_is)
    (case CI_InvalidWord => k_is)
    (case KI_InvalidWord => k_is)
    (case AC_InvalidNumber => k_is)
    (case XB_InvalidNumber => kernel_rfl)
    (case IC_InvalidNumber => k_is)
    (case TI_InvalidNumber => k_is)
    (case LI_InvalidNumber => k_is)
    (case CI_InvalidNumber => k_is)
    (case KI_InvalidNumber => k_is)
    (case AC_InvalidText => k_is)
    (case XB_InvalidText => kernel_rfl)
    (case IC_InvalidText => k_is)
    (case TI_InvalidText => k_is)
    (case LI_InvalidText => k_is)
    (case CI_InvalidText => k_is)
    (case KI_InvalidText => k_is)
    (case AC_InvalidCommand => k_is)
    (case XB_InvalidCommand => kernel_rfl)
    (case IC_InvalidCommand => k_is)
    (case TI_InvalidCommand => k_is)
    (case LI_InvalidCommand => k_is)
    (case CI_InvalidCommand => k_is)
    (case KI_InvalidCommand => k_is)
    (case AC_DuplicateName => k_is)
    (case XB_DuplicateName => kernel_rfl)
    (case IC_DuplicateName => k_is)
    (case TI_DuplicateName => k_is)
    (case LI_DuplicateName => k_is)
    (case CI_DuplicateName => k_is)
    (case KI_DuplicateName => k_is)
    (case AC_OtherProgram => k_is)
    (case XB_OtherProgram => kernel_rfl)
    (case IC_OtherProgram => k_is)
    (case TI_OtherProgram => k_is)
    (case LI_OtherProgram => k_is)
    (case CI_OtherProgram => k_is)
    (case KI_OtherProgram => k_is)
    (case AC_SideTaken => k_is)
    (case XB_SideTaken => kernel_rfl)
    (case IC_SideTaken => k_is)
    (case TI_SideTaken => k_is)
    (case LI_SideTaken => k_is)
    (case CI_SideTaken => k_is)
    (case KI_SideTaken => k_is)
    (case AC_Torn => k_is)
    (case XB_Torn => kernel_rfl)
    (case IC_Torn => k_is)
    (case TI_Torn => k_is)
    (case LI_Torn => k_is)
    (case CI_Torn => k_is)
    (case KI_Torn => k_is)
    (case AC_TooMany => k_is)
    (case XB_TooMany => kernel_rfl)
    (case IC_TooMany => k_is)
    (case TI_TooMany => k_is)
    (case LI_TooMany => k_is)
    (case CI_TooMany => k_is)
    (case KI_TooMany => k_is)
    (case AC_Full => k_is)
    (case XB_Full => kernel_rfl)
    (case IC_Full => k_is)
    (case TI_Full => k_is)
    (case LI_Full => k_is)
    (case CI_Full => k_is)
    (case KI_Full => k_is)
    (case AC_Untold => k_is)
    (case XB_Untold => kernel_rfl)
    (case IC_Untold => k_is)
    (case TI_Untold => k_is)
    (case LI_Untold => k_is)
    (case CI_Untold => k_is)
    (case KI_Untold => k_is)
    (case AC_UnknownName => k_is)
    (case XB_UnknownName => kernel_rfl)
    (case IC_UnknownName => k_is)
    (case TI_UnknownName => k_is)
    (case LI_UnknownName => k_is)
    (case CI_UnknownName => k_is)
    (case KI_UnknownName => k_is)
    (case AC_UnknownColumn => k_is)
    (case XB_UnknownColumn => kernel_rfl)
    (case IC_UnknownColumn => k_is)
    (case TI_UnknownColumn => k_is)
    (case LI_UnknownColumn => k_is)
    (case CI_UnknownColumn => k_is)
    (case KI_UnknownColumn => k_is)
    (case AC_UnknownRow => k_is)
    (case XB_UnknownRow => kernel_rfl)
    (case IC_UnknownRow => k_is)
    (case TI_UnknownRow => k_is)
    (case LI_UnknownRow => k_is)
    (case CI_UnknownRow => k_is)
    (case KI_UnknownRow => k_is)
    (case AC_NothingLeft => k_is)
    (case XB_NothingLeft => kernel_rfl)
    (case IC_NothingLeft => k_is)
    (case TI_NothingLeft => k_is)
    (case LI_NothingLeft => k_is)
    (case CI_NothingLeft => k_is)
    (case KI_NothingLeft => k_is)
    (case G0 => k_is)
    (case G1 => k_is)
    (case G2 => kernel_rfl)
    (case G3 => kernel_rfl)
    (case G4 => kernel_rfl)
    (case Z0 => k_is)
    (case Z1 => k_is)
    (case Z2 => k_is)
    (case Z3 => k_is)
    (case Z4 => k_is)
    (case Z5 => k_is)
    (case Z6 => k_is)
    (case Z7 => k_is)
    (case Z8 => k_is)
    (case Z9 => k_is)
    (case Z10 => k_is)
    (case Z11 => k_is)
    (case Z12 => k_is)
    (case Z13 => k_is)

