import PyProof.Rows.All
import Wide.All
import OpenK.AllK
import Wide.FinOn
import HandS.ForMost
import HandS.Codes
import HandS.IsInst
import HandS.TupAny
import HandS.Style
import HandS.Walk
import HandS.Zip
import HandS.EndBits
import HandS.Dict
import HandS.More
import PyProof.CollectIter
import PyProof.WalksMore
import HandS.NoneIn
import HandS.Text
import HandS.ForExc
import HandS.ExcInit
import KE.KExcInit
import KE.KExcIs
import HandS.Lambda
import HandS.EndTab
import HandS.HotCalls
import HandS.ExcField
import HandS.TryMany
import HandS.Slots
import HandS.SlotsOwn
import HandS.Star
import HandS.ClsMeth
import HandS.Strs
import HandS.DeepEq
import KE.KDictKeyed
import KE.KeyNested
import HandS.SetFor
import HandS.GenList
import HandS.GenYield
import PyProof.GenComp
import OpenK.KOps
import OpenK.KMeth
import HandS.Words
import KE.KDflt
import HandS.Deep
import HandS.Iter
import KE.DataFind
import HandS.DictComp
import HandS.Property
import HandS.MakeKwOnly
import HandS.CallLocal
import HandS.List
import KE.GoesEnum
import KE.GoesMore
import HandS.FStr
import HandS.Defaults
import HandS.EndOwn
import KE.OsRunLaw
import KE.KStateDown
import HandS.Head0
import HandS.Head1
import HandS.Head2
import PySem.Challenge.RW_bothlots_k05_columns_refused
set_option Elab.async false
set_option linter.all false
set_option maxRecDepth 100000
set_option maxHeartbeats 4000000
namespace Bl
open PySem PySem.W PySem.Calls PyProof.Rows
abbrev headR : OpenRow := OpenLaw.row PySem.Challenge.rw_bothlots_k05_columns_refused
abbrev headQ : Program := view headR.prog [121]
def headN0 : List PySem.Str := [.ofString "_wall", .ofString "LETTERS", .ofString "LONGEST_NAME", .ofString "is_name", .ofString "is_number", .ofString "is_column", .ofString "MOST_COLUMNS", .ofString "MOST_TICKS", .ofString "MOST_SIDES", .ofString "MOST_OF_SIDE", .ofString "MOST_TAGS", .ofString "KINDS", .ofString "is_tags", .ofString "is_column_of", .ofString "wrong_column", .ofString "is_side", .ofString "wrong_side", .ofString "is_key", .ofString "is_anchor", .ofString "columns_of_side", .ofString "LotsError", .ofString "Missing", .ofString "InvalidColumn", .ofString "InvalidSide", .ofString "InvalidKey", .ofString "InvalidStep", .ofString "InvalidTest", .ofString "InvalidText", .ofString "TooMany", .ofString "NothingLeft", .ofString "DEEPEST", .ofString "PARTS", .ofString "is_test", .ofString "_is_test_within", .ofString "test_text", .ofString "read_test", .ofString "_read_from", .ofString "_read_leaf", .ofString "MOST_TWICE", .ofString "MOST_MIXED"]
def headN1 : List PySem.Str := [.ofString "LEAST_MODULUS", .ofString "MOST_MODULUS", .ofString "MOST_SHARE", .ofString "MOST_LIMIT", .ofString "WAYS", .ofString "STAGES", .ofString "Standing", .ofString "_keep_stands", .ofString "_join_stands", .ofString "_fan_stands", .ofString "_sort_stands", .ofString "_once_stands", .ofString "_near_stands", .ofString "_all_stands", .ofString "_mix_stands", .ofString "_twice_stands", .ofString "_cut_stands", .ofString "_are_rests", .ofString "_rounds_stands", .ofString "_throw_stands", .ofString "_mark_stands", .ofString "_before_stands", .ofString "_share_stands", .ofString "_groups_stands", .ofString "CUTS_steps", .ofString "STANDS", .ofString "DIGITS", .ofString "MOST_DIGITS", .ofString "write_lines", .ofString "_column_words", .ofString "_kind_word", .ofString "_step_line", .ofString "_rests_word", .ofString "read_lines", .ofString "Parts", .ofString "_read_columns", .ofString "_read_column", .ofString "_read_step", .ofString "_are_columns", .ofString "_read_keep"]
def headN2 : List PySem.Str := [.ofString "_read_join", .ofString "_read_sort", .ofString "_read_once", .ofString "_read_near", .ofString "_read_all", .ofString "_read_twice", .ofString "_read_cut", .ofString "read_number", .ofString "_read_numbers", .ofString "_read_rests", .ofString "_read_rounds", .ofString "_read_throw", .ofString "_read_mark", .ofString "_read_groups", .ofString "_read_by_columns", .ofString "_read_before", .ofString "_read_share", .ofString "CUTS_lines", .ofString "READERS", .ofString "Program", .ofString "_count_looks", .ofString "_count_tags", .ofString "_law_box", .ofString "_law_pull", .ofString "_law_of", .ofString "_law_names", .ofString "_law_same", .ofString "_law_field", .ofString "_law_got", .ofString "_law_all_got", .ofString "_law_mixed", .ofString "_law_main", .ofString "_law_bad_column"]
def headN : List PySem.Str := headN0 ++ (headN1 ++ (headN2))
end Bl
section
open PySem PySem.W PyProof.Rows
local macro_rules
  | `(tactic| o_headL (kHook $K $as $e)) => `(tactic| assumption)
set_option maxHeartbeats 0 in
theorem Bl.pre (h0 : Bl.headR.Holds) : PySem.Challenge.rw_bothlots_k05_columns_refused.Holds := by
  w_on; o_law; k_headL
end
namespace Bl
open PySem PySem.W PyProof.Rows
set_option maxHeartbeats 0 in
theorem said : headR.wellSaid = true := by decide +kernel
set_option maxHeartbeats 0 in
theorem bareR : headR.prog.bare := ⟨rfl, rfl, rfl, rfl, rfl, by decide +kernel⟩
noncomputable section
def p0 : Params := { strHash := fun _ => 0, shareClass := fun _ => 0, mergeTok := fun t => t, idOf := fun _ => 0, idOfShared := fun _ _ => 0, followText := fun _ => false, idOfImm := fun _ => 0 }
def hA : List Addr := (Bl.pre.heap_39 p0).map (·.1)
theorem hE : ∀ P, hA = (Bl.pre.heap_39 P).map (·.1) := fun _ => by kernel_rfl
abbrev hH : Hook := kHook Bl.pre.heap_39 hA hE
def hOb (s : SharedT) : hH.α := hA.map (HandSHeadRun.getT s)
set_option maxHeartbeats 0 in
theorem run0 (w : World) : HandSHeadRun.RunEq headR headQ hH hOb 9000 headN (w.withFollow "special-get-raises" false) := by
  intro os; kernel_rfl
set_option maxHeartbeats 0 in
theorem run1 (w : World) : HandSHeadRun.RunEq headR headQ hH hOb 9000 headN (w.withFollow "special-get-raises" true) := by
  intro os; kernel_rfl
end
end Bl

namespace Bl
open PySem L2
theorem same_new {H : Hp} {p : Addr} (h : H p = none) (o : HO) : Same H (upd H p o) := fun b u q => by
  rw [upd_ne (ne_of_none q h)]
  exact q
theorem Same.tup {K : PySem.W.Frag} {H H' : Hp} {a : Addr} {xs : List V} (e : Same H H') (h : SqT K H a xs) : SqT K H' a xs := by
  rcases h with (h | ⟨o, h⟩) | h
  · exact .inl (.inl (e _ _ h))
  · exact .inl (.inr ⟨o, e _ _ h⟩)
  · exact .inr h
/-- the heap without what stands at p -/
def hide (p : Addr) (H : Hp) : Hp := fun b => if b = p then none else H b
theorem hide_ne {p b : Addr} {H : Hp} (h : b ≠ p) : hide p H b = H b := if_neg h
theorem hide_at {p : Addr} {H : Hp} : hide p H p = none := if_pos rfl
theorem hide_le {p : Addr} {H : Hp} : Same (hide p H) H := fun b o h => by
  by_cases e : b = p
  · subst e
    rw [hide_at] at h
    cases h
  · rw [hide_ne e] at h
    exact h
theorem hide_upd {p : Addr} {H : Hp} {o : HO} : hide p (upd H p o) = hide p H := by
  funext b
  by_cases e : b = p
  · rw [e, hide_at, hide_at]
  · rw [hide_ne e, hide_ne e, upd_ne e]
theorem hide_new {p q : Addr} {H : Hp} {o : HO} (h : q ≠ p) : hide p (upd H q o) = upd (hide p H) q o := by
  funext b
  by_cases e : b = p
  · rw [e, hide_at, upd_ne (Ne.symm h), hide_at]
  · rw [hide_ne e]
    by_cases f : b = q
    · rw [f, upd_same, upd_same]
    · rw [upd_ne f, upd_ne f, hide_ne e]
theorem hide_free {p q : Addr} {H : Hp} (h : H q = none) : hide p H q = none := by
  by_cases e : q = p
  · rw [e, hide_at]
  · rw [hide_ne e]
    exact h
theorem hide_mono {p : Addr} {H H' : Hp} (e : Same H H') : Same (hide p H) (hide p H') := fun b o h => by
  by_cases f : b = p
  · subst f
    rw [hide_at] at h
    cases h
  · rw [hide_ne f] at h ⊢
    exact e b o h
/-- all that was tracked, but what stands at p, is as it was -/
abbrev But (p : Addr) (H H' : Hp) : Prop := Same (hide p H) (hide p H')
theorem But.put {p : Addr} {H H1 : Hp} {o : HO} (a : But p H H1) : But p H (upd H1 p o) := by
  unfold But
  rw [hide_upd]
  exact a
theorem But.of {p : Addr} {H H1 : Hp} (a : Same H H1) : But p H H1 := hide_mono a
theorem But.new {p q : Addr} {H H1 : Hp} (a : But p H H1) (h : H1 q = none) (o : HO) : But p H (upd H1 q o) := Same.trans a (hide_mono (same_new h o))
/-- the law's box of draws -/
def boxL (l : Addr) (i w m c : Int) : List V := [.ref l, .int i, .int w, .int m, .int c]
structure BoxAt (H : Hp) (p l : Addr) : Prop where
  ex : ∃ (ns : List Int) (i w m c : Int), H p = some (.lst (boxL l i w m c)) ∧ hide p H l = some (.lst (ns.map V.int)) ∧ 0 ≤ i ∧ 0 ≤ m ∧ m < 2147483629
theorem BoxAt.mono {H H' : Hp} {p l : Addr} (b : BoxAt H p l) (e : Same H H') : BoxAt H' p l := by
  obtain ⟨ns, i, w, m, c, hp, hl, r⟩ := b
  exact ⟨ns, i, w, m, c, e _ _ hp, hide_mono e _ _ hl, r⟩
theorem BoxAt.new {H : Hp} {p q l : Addr} (b : BoxAt H p l) (h : H q = none) (o : HO) : BoxAt (upd H q o) p l := b.mono (same_new h o)
theorem BoxAt.ne {H : Hp} {p q l : Addr} (b : BoxAt H p l) (h : H q = none) : q ≠ p := by
  obtain ⟨ns, i, w, m, c, hp, _⟩ := b
  exact (ne_of_none hp h).symm
theorem BoxAt.nl {H : Hp} {p q l : Addr} (b : BoxAt H p l) (h : H q = none) : q ≠ l := by
  obtain ⟨ns, i, w, m, c, hp, hl, _⟩ := b
  exact (ne_of_none (hide_le _ _ hl) h).symm
/-- an object that is neither the box nor its cells may change -/
theorem BoxAt.mut {H : Hp} {p q l : Addr} (b : BoxAt H p l) (h : q ≠ p) (h2 : q ≠ l) (o : HO) : BoxAt (upd H q o) p l := by
  obtain ⟨ns, i, w, m, c, hp, hl, r⟩ := b
  exact ⟨ns, i, w, m, c, by rw [upd_ne h.symm]; exact hp, by rw [hide_new h, upd_ne h2.symm]; exact hl, r⟩
/-- an object that was not there may change -/
theorem But.mut {p q : Addr} {H H1 : Hp} (a : But p H H1) (h : H q = none) (o : HO) : But p H (upd H1 q o) := fun b u e => by
  have n1 : b ≠ p := by
    rintro rfl
    rw [hide_at] at e
    cases e
  have e1 := a b u e
  rw [hide_ne n1] at e e1 ⊢
  rw [upd_ne (ne_of_none e h)]
  exact e1
theorem Same.mut {q : Addr} {H H1 : Hp} (a : Same H H1) (h : H q = none) (o : HO) : Same H (upd H1 q o) := fun b u e => by
  rw [upd_ne (ne_of_none e h)]
  exact a b u e
/-- a new object is no box -/
theorem hid_same {p q : Addr} {H : Hp} {o : HO} (h : q ≠ p) : hide p (upd H q o) q = some o := by
  rw [hide_ne h, upd_same]
def spPull (K : PySem.W.Frag) : Sp := fun vs H Q _ => ∃ (p l : Addr) (n : Int), vs = [.ref p, .int n] ∧ BoxAt H p l ∧ 0 < n ∧ n < 1073741824 ∧
  ∀ (d : Int) (H' : Hp), 0 ≤ d → d < n → BoxAt H' p l → But p H H' → Q (.int d) H'
/-- an item of a list, of a tuple, of a text -/
def spOf (K : PySem.W.Frag) : Sp := fun vs H Q _ => ∃ (p l : Addr) (v : V), vs = [.ref p, v] ∧ BoxAt H p l ∧
  ((∃ a xs, v = .ref a ∧ (SqL K (hide p H) a xs ∨ SqT K (hide p H) a xs) ∧ 0 < xs.length ∧ xs.length < 1000000 ∧ ∀ (i : Nat) (x : V) (H' : Hp), xs[i]? = some x → BoxAt H' p l → But p H H' → Q x H') ∨
    ∃ z : Str, v = .str z ∧ 0 < z.length ∧ z.length < 1000000 ∧ ∀ (c : Nat) (H' : Hp), c ∈ z.cps.toList → BoxAt H' p l → But p H H' → Q (.str ⟨#[c]⟩) H')
theorem atI_int {ns : List Int} {i : Int} (h0 : 0 ≤ i) (h : i < ns.length) : ∃ v : Int, atI (ns.map V.int) i = some (.int v) := by
  obtain ⟨n, rfl⟩ := Int.eq_ofNat_of_zero_le h0
  have hk : n < ns.length := by omega
  exact ⟨ns[n], atI_nat (by rw [List.getElem?_map, List.getElem?_eq_getElem hk] <;> rfl)⟩
theorem atI_some {xs : List V} {i : Int} (h0 : 0 ≤ i) (h : i < xs.length) : ∃ (n : Nat) (v : V), xs[n]? = some v ∧ atI xs i = some v := by
  obtain ⟨n, rfl⟩ := Int.eq_ofNat_of_zero_le h0
  have hk : n < xs.length := by omega
  exact ⟨n, xs[n], List.getElem?_eq_getElem hk, atI_nat (List.getElem?_eq_getElem hk)⟩
theorem mod_lt' {a b : Int} (h : 0 < b) : 0 ≤ a % b ∧ a % b < b := ⟨Int.emod_nonneg a (by omega), Int.emod_lt_of_pos a h⟩
theorem small {n : Nat} (h : n ≤ 1000000) : n ≤ sizeLine := Nat.le_trans h (by decide)
theorem small' {n : Nat} (h : n < 1000000) : n < sizeLine := Nat.lt_of_lt_of_le h (by decide)
theorem cutV_63 {ns : List Int} (h : ns.length ≤ 63) : cutV (ns.map V.int) none (some 63) = ns.map V.int := by
  unfold cutV
  rw [HT.sIx_none, show ((some 63 : Option Int)) = some ((63 : Nat) : Int) from rfl, HT.sIx_nat, List.length_map, List.drop_zero, List.take_of_length_le (by rw [List.length_map]; omega)]
mutual
theorem Dp.mono {K : PySem.W.Frag} {H H' : Hp} (e : Same H H') : ∀ (d : PyData) (v : V), Dp K H v d → Dp K H' v d
  | .none, _, h => by cases h; exact .non
  | .bool _, _, h => by cases h; exact .bl _
  | .int _, _, h => by cases h; exact .int _
  | .str _, _, h => by cases h; exact .str _
  | .list ds, _, h => by
    cases h with
    | lst hs ha => exact .lst (e.seq hs) (DpAll.mono e ds _ ha)
  | .tuple ds, _, h => by
    cases h with
    | tup hs ha => exact .tup (Same.tup e hs) (DpAll.mono e ds _ ha)
  | .dict _, _, h => by cases h
theorem DpAll.mono {K : PySem.W.Frag} {H H' : Hp} (e : Same H H') : ∀ (ds : List PyData) (vs : List V), DpAll K H vs ds → DpAll K H' vs ds
  | [], _, h => by cases h; exact .nil
  | d :: ds, _, h => by
    cases h with
    | cons h1 h2 => exact .cons (Dp.mono e d _ h1) (DpAll.mono e ds _ h2)
end
theorem DpAll.len {K : PySem.W.Frag} {H : Hp} : ∀ {ds : List PyData} {vs : List V}, DpAll K H vs ds → vs.length = ds.length
  | [], _, h => by cases h; rfl
  | _ :: _, _, h => by
    cases h with
    | cons _ h2 => rw [List.length_cons, List.length_cons, DpAll.len h2]
theorem DpAll.get {K : PySem.W.Frag} {H : Hp} : ∀ {ds : List PyData} {vs : List V} {i : Nat} {v : V}, DpAll K H vs ds → vs[i]? = some v → ∃ d, ds[i]? = some d ∧ Dp K H v d
  | [], _, _, _, h, e => by cases h; simp at e
  | d :: ds, _, 0, v, h, e => by
    cases h with
    | cons h1 h2 =>
      simp at e
      subst e
      exact ⟨d, rfl, h1⟩
  | d :: ds, _, i + 1, v, h, e => by
    cases h with
    | cons h1 h2 => exact DpAll.get (i := i) h2 (by simpa using e)
theorem DpAll.app {K : PySem.W.Frag} {H : Hp} : ∀ {ds es : List PyData} {vs us : List V}, DpAll K H vs ds → DpAll K H us es → DpAll K H (vs ++ us) (ds ++ es)
  | [], _, _, _, h, k => by cases h; exact k
  | _ :: _, _, _, _, h, k => by
    cases h with
    | cons h1 h2 => exact .cons h1 (DpAll.app h2 k)
theorem tyL {K : PySem.W.Frag} {H : Hp} {a : Addr} {xs : List V} (h : SqL K H a xs) : TyX K H (.ref a) (.type "list") := by
  rcases h with (h | ⟨o, h⟩) | ⟨o, _, _, h, hc, _⟩
  · exact .base (.lst h)
  · exact .base (.frz h)
  · exact .kList h hc
theorem tyT {K : PySem.W.Frag} {H : Hp} {a : Addr} {xs : List V} (h : SqT K H a xs) : TyX K H (.ref a) (.type "tuple") := by
  rcases h with (h | ⟨o, h⟩) | ⟨o, _, _, h, hc, _⟩
  · exact .base (.tup h)
  · exact .fTuple h
  · exact .kTuple h hc
/-- the built-in type's name -/
def tyN : PyData → String
  | .none => "NoneType"
  | .bool _ => "bool"
  | .int _ => "int"
  | .str _ => "str"
  | .list _ => "list"
  | .tuple _ => "tuple"
  | .dict _ => "dict"
theorem Dp.ty {K : PySem.W.Frag} {H : Hp} : ∀ {d : PyData} {v : V}, Dp K H v d → TyX K H v (.type (tyN d))
  | .none, _, h => by cases h; exact .base .non
  | .bool _, _, h => by cases h; exact .base (.bl _)
  | .int _, _, h => by cases h; exact .base (.int _)
  | .str _, _, h => by cases h; exact .base (.str _)
  | .list ds, _, h => by
    cases h with
    | lst hs _ => exact tyL hs
  | .tuple ds, _, h => by
    cases h with
    | tup hs _ => exact tyT hs
  | .dict _, _, h => by cases h
def isD (T : String) (d : PyData) : Bool := (kitB (tyN d) T).getD false
theorem kit_d {K : PySem.W.Frag} {T : String} {d : PyData} (h : ∀ d : PyData, (kitB (tyN d) T).isSome = true) : PySem.W.kitOne K (.type (tyN d)) (.type T) = some (isD T d) := by
  refine kit_ty ?_
  have := h d
  unfold isD
  cases e : kitB (tyN d) T with
  | none => rw [e] at this; cases this
  | some b => rfl
theorem some_str (d : PyData) : (kitB (tyN d) "str").isSome = true := by cases d <;> (dsimp only [tyN]; decide +kernel)
theorem some_int (d : PyData) : (kitB (tyN d) "int").isSome = true := by cases d <;> (dsimp only [tyN]; decide +kernel)
theorem some_bool (d : PyData) : (kitB (tyN d) "bool").isSome = true := by cases d <;> (dsimp only [tyN]; decide +kernel)
theorem some_list (d : PyData) : (kitB (tyN d) "list").isSome = true := by cases d <;> (dsimp only [tyN]; decide +kernel)
theorem some_tuple (d : PyData) : (kitB (tyN d) "tuple").isSome = true := by cases d <;> (dsimp only [tyN]; decide +kernel)
theorem isStr_eq (d : PyData) : isD "str" d = (match d with | .str _ => true | _ => false) := by cases d <;> (dsimp only [isD, tyN]; decide +kernel)
theorem isInt_eq (d : PyData) : isD "int" d = (match d with | .int _ => true | .bool _ => true | _ => false) := by cases d <;> (dsimp only [isD, tyN]; decide +kernel)
theorem isBool_eq (d : PyData) : isD "bool" d = (match d with | .bool _ => true | _ => false) := by cases d <;> (dsimp only [isD, tyN]; decide +kernel)
/-- nested less than n deep, without dicts -/
def Fits : Nat → PyData → Prop
  | 0, _ => False
  | _ + 1, .none => True
  | _ + 1, .bool _ => True
  | _ + 1, .int _ => True
  | _ + 1, .str _ => True
  | n + 1, .list ds => ds.length < 1000000 ∧ ∀ d ∈ ds, Fits n d
  | n + 1, .tuple ds => ds.length < 1000000 ∧ ∀ d ∈ ds, Fits n d
  | _ + 1, .dict _ => False
/-- names -/
def alpha : List Nat := [97, 98, 99, 100, 101, 102, 103, 104, 105, 106, 107, 108, 109, 110, 111, 112, 113, 114, 115, 116, 117, 118, 119, 120, 121, 122]
def nameB (z : Str) : Bool := decide (1 ≤ z.length) && decide (z.length ≤ 6) && z.cps.toList.all (fun c => decide (c ∈ alpha))
theorem alpha_eq : ("abcdefghijklmnopqrstuvwxyz" : Str).cps.toList = alpha := by decide +kernel
/-- what two same data are told -/
def spSame (K : PySem.W.Frag) (n : Nat) : Sp := fun vs H Q _ => ∃ (x y : V) (d : PyData), vs = [x, y] ∧ Dp K H x d ∧ Dp K H y d ∧ Fits n d ∧ ∀ H', Same H H' → Q (.bl true) H'
end Bl
namespace Bl
open PySem L2
end Bl
namespace Bl
open PySem L2
end Bl
namespace Bl
end Bl
namespace Bl
end Bl
namespace Bl
end Bl
namespace Bl
open PySem L2
open SX (S)
def own : List Nat := [111, 119, 110]
def name4 : List Nat := [110, 97, 109, 101]
def tick4 : List Nat := [116, 105, 99, 107]
def worth5 : List Nat := [119, 111, 114, 116, 104]
theorem own_eq : ("own" : Str) = S own := by decide +kernel
theorem name4_eq : ("name" : Str) = S name4 := by decide +kernel
theorem tick4_eq : ("tick" : Str) = S tick4 := by decide +kernel
theorem worth5_eq : ("worth" : Str) = S worth5 := by decide +kernel
structure NameL (z : List Nat) : Prop where
  pos : 1 ≤ z.length
  six : z.length ≤ 6
  low : ∀ c ∈ z, c ∈ alpha
  no : z ≠ own ∧ z ≠ name4 ∧ z ≠ tick4 ∧ z ≠ worth5
theorem NameL.nameB {z : List Nat} (h : NameL z) : nameB (S z) = true := by
  unfold Bl.nameB
  rw [SX.S_len, decide_eq_true h.pos, decide_eq_true h.six, Bool.true_and, Bool.true_and, List.all_eq_true]
  intro c hc
  exact decide_eq_true (h.low c (by simpa [S] using hc))
theorem cut_pre {a : List Nat} {k : Nat} (h : k ≤ a.length) : cutS (S a) none (some (k : Int)) = S (a.take k) := by
  unfold cutS
  rw [HT.sIx_none, HT.sIx_nat, SX.S_len, List.drop_zero, Nat.sub_zero, Nat.min_eq_left h]
theorem cut_suf {a : List Nat} {k : Nat} (h : k ≤ a.length) : cutS (S a) (some (k : Int)) none = S (a.drop k) := by
  unfold cutS
  rw [HT.sIx_none, HT.sIx_nat, SX.S_len, Nat.min_eq_left h]
  have e : ((S a).cps.toList.drop k).take (a.length - k) = a.drop k := by
    show (a.toArray.toList.drop k).take (a.length - k) = a.drop k
    rw [List.toList_toArray, List.take_of_length_le (by rw [List.length_drop]; exact Nat.le_refl _)]
  rw [e]
theorem cutV_pre {xs : List V} {k : Nat} : cutV xs none (some (k : Int)) = xs.take k := by
  unfold cutV
  rw [HT.sIx_none, HT.sIx_nat, List.drop_zero, Nat.sub_zero]
  by_cases h : k ≤ xs.length
  · rw [Nat.min_eq_left h]
  · rw [Nat.min_eq_right (by omega), List.take_of_length_le (Nat.le_refl _), List.take_of_length_le (by omega)]
theorem alpha_nd : alpha.Nodup := by decide
/-- the k-th word -/
def wd (st : List Nat) (sp f k : Nat) : List Nat := st.take sp ++ alpha.getD ((f + 7 * k) % 26) 0 :: st.drop sp
theorem wd_len {st : List Nat} {sp f k : Nat} : (wd st sp f k).length = st.length + 1 := by
  unfold wd
  rw [List.length_append, List.length_cons, List.length_take, List.length_drop]
  omega
theorem alpha_at (i : Nat) (h : i < 26) : alpha[i]? = some (alpha.getD i 0) := by
  have h2 : i < alpha.length := h
  rw [List.getD_eq_getElem?_getD, List.getElem?_eq_getElem h2]
  rfl
theorem alpha_mem (i : Nat) (h : i < 26) : alpha.getD i 0 ∈ alpha := List.mem_of_getElem? (alpha_at i h)
theorem wd_low {st : List Nat} {sp f k : Nat} (hs : ∀ c ∈ st, c ∈ alpha) : ∀ c ∈ wd st sp f k, c ∈ alpha := by
  intro c hc
  unfold wd at hc
  rcases List.mem_append.mp hc with h | h
  · exact hs c (List.mem_of_mem_take h)
  · rcases List.mem_cons.mp h with h | h
    · rw [h]
      exact alpha_mem _ (Nat.mod_lt _ (by decide))
    · exact hs c (List.mem_of_mem_drop h)
theorem wd_inj {st : List Nat} {sp f k j : Nat} (hk : k < 14) (hj : j < 14) (e : wd st sp f k = wd st sp f j) : k = j := by
  unfold wd at e
  have e1 := List.append_cancel_left e
  have e2 : alpha.getD ((f + 7 * k) % 26) 0 = alpha.getD ((f + 7 * j) % 26) 0 := (List.cons.inj e1).1
  have h1 : (f + 7 * k) % 26 < 26 := Nat.mod_lt _ (by decide)
  have h2 : (f + 7 * j) % 26 < 26 := Nat.mod_lt _ (by decide)
  have e3 : alpha[(f + 7 * k) % 26]? = alpha[(f + 7 * j) % 26]? := by rw [alpha_at _ h1, alpha_at _ h2, e2]
  have e4 : (f + 7 * k) % 26 = (f + 7 * j) % 26 := (List.getElem?_inj (by show _ < 26; exact h1) alpha_nd).mp e3
  omega
theorem nd_map {α : Type} {g : Nat → α} : ∀ n : Nat, (∀ i j, i < n → j < n → g i = g j → i = j) → ((List.range n).map g).Nodup := by
  intro n h
  rw [List.Nodup, List.pairwise_map]
  refine List.Pairwise.imp_of_mem ?_ (List.nodup_range (n := n))
  intro a b ha hb hab e
  exact hab (h a b (List.mem_range.mp ha) (List.mem_range.mp hb) e)
theorem one_out {α : Type} [DecidableEq α] (o : α) : ∀ {l : List α}, l.Nodup → l.length ≤ (l.filter fun z => decide (z ≠ o)).length + 1
  | [], _ => Nat.zero_le _
  | z :: l, h => by
    have h2 := List.nodup_cons.mp h
    by_cases e : z = o
    · subst e
      have e2 : (l.filter fun y => decide (y ≠ z)) = l := List.filter_eq_self.mpr fun y hy => decide_eq_true (by rintro rfl; exact h2.1 hy)
      rw [List.filter_cons_of_neg (by simp), e2, List.length_cons]
      exact Nat.le_refl _
    · rw [List.filter_cons_of_pos (by simpa using e), List.length_cons, List.length_cons]
      have := one_out o h2.2
      omega
/-- the list of the forbidden words, as the law writes it -/
def bads : List V := [.str "own", .str "name", .str "tick", .str "worth"]
theorem inV_bads (z : List Nat) : inV (.str (S z)) bads = decide (z = own ∨ z = name4 ∨ z = tick4 ∨ z = worth5) := by
  have h : ∀ (o : List Nat), eqV (.str (S o)) (.str (S z)) = decide (z = o) := fun o => by
    show (S o == S z) = decide (z = o)
    rw [SX.S_beq_eq]
    by_cases e : o = z
    · rw [decide_eq_true e, decide_eq_true e.symm]
    · rw [decide_eq_false e, decide_eq_false (Ne.symm e)]
  show (eqV (.str "own") (.str (S z)) || (eqV (.str "name") (.str (S z)) || (eqV (.str "tick") (.str (S z)) || (eqV (.str "worth") (.str (S z)) || false)))) = _
  rw [own_eq, name4_eq, tick4_eq, worth5_eq, h, h, h, h, Bool.or_false, Bool.decide_or, Bool.decide_or, Bool.decide_or]
def keepB (z : List Nat) : Bool := !decide (z = own ∨ z = name4 ∨ z = tick4 ∨ z = worth5)
theorem keep_own {z : List Nat} (h : z.length = 1 ∨ z.length = 2 ∨ z.length = 3 ∨ z.length = 6) : keepB z = decide (z ≠ own) := by
  unfold keepB
  have h1 : z ≠ name4 := by rintro rfl; revert h; decide
  have h2 : z ≠ tick4 := by rintro rfl; revert h; decide
  have h3 : z ≠ worth5 := by rintro rfl; revert h; decide
  simp [h1, h2, h3]
/-- the words drawn, those let, the first n of them -/
def wds (st : List Nat) (sp f n : Nat) : List (List Nat) := (List.range n).map (wd st sp f)
theorem wds_names {st : List Nat} {sp f n : Nat} (hn : n ≤ 12) (hs : ∀ c ∈ st, c ∈ alpha) (hl : st.length = 0 ∨ st.length = 1 ∨ st.length = 2 ∨ st.length = 5) :
    (((wds st sp f (n + 2)).filter keepB).take n).length = n ∧ (∀ z ∈ ((wds st sp f (n + 2)).filter keepB).take n, NameL z) ∧ (((wds st sp f (n + 2)).filter keepB).take n).Nodup ∧
      (∀ z ∈ ((wds st sp f (n + 2)).filter keepB).take n, z.length = st.length + 1) := by
  have hlen : ∀ z ∈ wds st sp f (n + 2), z.length = st.length + 1 := fun z hz => by
    obtain ⟨k, _, rfl⟩ := List.mem_map.mp hz
    exact wd_len
  have nd : (wds st sp f (n + 2)).Nodup := nd_map _ fun i j hi hj e => wd_inj (by omega) (by omega) e
  have ef : (wds st sp f (n + 2)).filter keepB = (wds st sp f (n + 2)).filter fun z => decide (z ≠ own) :=
    List.filter_congr fun z hz => keep_own (by rw [hlen z hz]; omega)
  have h1 := one_out own nd
  have h2 : (wds st sp f (n + 2)).length = n + 2 := by unfold wds; rw [List.length_map, List.length_range]
  have mem : ∀ z ∈ ((wds st sp f (n + 2)).filter keepB).take n, z ∈ wds st sp f (n + 2) ∧ keepB z = true := fun z hz => List.mem_filter.mp (List.mem_of_mem_take hz)
  refine ⟨?_, fun z hz => ?_, (nd.sublist List.filter_sublist).sublist (List.take_sublist _ _), fun z hz => hlen z (mem z hz).1⟩
  · rw [List.length_take, ef]
    omega
  · obtain ⟨hm, hk⟩ := mem z hz
    have hlz := hlen z hm
    obtain ⟨k, _, rfl⟩ := List.mem_map.mp hm
    refine ⟨by omega, by omega, wd_low hs, ?_⟩
    unfold keepB at hk
    simpa using hk
theorem joinL_one : ∀ cs : List Nat, TL.joinL [] (cs.map fun c => [c]) = cs
  | [] => rfl
  | [c] => rfl
  | c :: d :: r => by
    show [c] ++ ([] ++ TL.joinL [] ((d :: r).map fun c => [c])) = c :: d :: r
    rw [joinL_one (d :: r)]
    rfl
theorem join_one (cs : List Nat) : Txt.join ("" : Str) (cs.map fun c => S [c]) = S cs := by
  have e : (cs.map fun c => S [c]) = (cs.map fun c => [c]).map S := by rw [List.map_map]; rfl
  rw [e, show ("" : Str) = S [] by decide +kernel, SX.join_S, joinL_one]
def nameV (z : List Nat) : V := .str (S z)
/-- n names -/
def spNames (K : PySem.W.Frag) : Sp := fun vs H Q _ => ∃ (p l : Addr) (n : Nat), vs = [.ref p, .int (n : Int)] ∧ BoxAt H p l ∧ 1 ≤ n ∧ n ≤ 12 ∧
  ∀ (q : Addr) (zs : List (List Nat)) (H' : Hp), zs.length = n → (∀ z ∈ zs, NameL z) → zs.Nodup → (∃ m, ∀ z ∈ zs, z.length = m) → hide p H q = none → q ≠ p → H' q = some (.lst (zs.map nameV)) → BoxAt H' p l → But p H H' → Q (.ref q) H'
end Bl
namespace Bl
open PySem L2
open SX (S)
end Bl
namespace Bl
open PySem L2 PyProof.Rows
end Bl
namespace Bl
open PySem L2
open SX (S)
theorem dot_eq : ("." : Str) = S [46] := by decide +kernel
def colB (z : Str) : Bool := decide ((Txt.split z ".").length ≤ 2) && (Txt.split z ".").all nameB
theorem split_dot (a : List Nat) : Txt.split (S a) "." = (TL.spl [46] 0 [] a).map S := by
  rw [dot_eq]
  exact SX.split_S (by decide) (by decide)
theorem split_one {a : List Nat} (h : 46 ∉ a) : Txt.split (S a) "." = [S a] := by
  rw [split_dot, show TL.spl [46] 0 [] a = [a] from SX.spl_join (c := 46) (sep := []) (parts := [a]) (by simp) (by simpa using h)]
  rfl
theorem split_two {a b : List Nat} (h : 46 ∉ a) (k : 46 ∉ b) : Txt.split (S (a ++ 46 :: b)) "." = [S a, S b] := by
  rw [split_dot, show TL.spl [46] 0 [] (a ++ 46 :: b) = [a, b] from SX.spl_join (c := 46) (sep := []) (parts := [a, b]) (by simp) (by simp [h, k])]
  rfl
theorem no_dot {z : List Nat} (h : NameL z) : 46 ∉ z := fun hm => absurd (h.low 46 hm) (by decide)
theorem col_one {z : List Nat} (h : NameL z) : colB (S z) = true := by
  unfold colB
  rw [split_one (no_dot h)]
  simp [NameL.nameB h]
theorem col_two {y z : List Nat} (h : NameL y) (k : NameL z) : colB (S (y ++ 46 :: z)) = true := by
  unfold colB
  rw [split_two (no_dot h) (no_dot k)]
  simp [NameL.nameB h, NameL.nameB k]
/-- a drawn test is one, if it is not too deep -/
structure Words (w0 w1 w2 w3 w4 : List Nat) : Prop where
  a : NameL w0
  b : NameL w1
  c : NameL w2
  d : NameL w3
  e : NameL w4
theorem Words.col {w0 w1 w2 w3 w4 : List Nat} (W : Words w0 w1 w2 w3 w4) {c : List Nat} (h : c ∈ [w0, w1, w2 ++ 46 :: w0]) : colB (S c) = true ∧ c.length ≤ 13 := by
  have h0 := W.a.six
  have h1 := W.b.six
  have h2 := W.c.six
  rcases List.mem_cons.mp h with rfl | h
  · exact ⟨col_one W.a, by omega⟩
  rcases List.mem_cons.mp h with rfl | h
  · exact ⟨col_one W.b, by omega⟩
  obtain rfl := List.mem_singleton.mp h
  refine ⟨col_two W.c W.a, ?_⟩
  rw [List.length_append, List.length_cons]
  omega
end Bl
namespace Bl
open PySem L2 PySem.Spec PyProof.Rows
/-- what a store asks of a class's line -/
structure MroOk (mro : List Value) : Prop where
  ne : mro.isEmpty = false
  ob : mro.contains (.type "object") = true
  pass : ∀ self : Value, PySem.refuseLoop self "__setattr__" mro = pure ()
theorem MroOk.own {c : Addr} {l : List Value} (h : MroOk l) : MroOk (.ref c :: l) := ⟨rfl, by rw [List.contains_cons, h.ob, Bool.or_true], fun self => by
  rw [PySem.refuseLoop_ref]
  exact h.pass self⟩
def veM : List Value := [.type "ValueError", .type "Exception", .type "BaseException", .type "object"]
def ieM : List Value := [.type "IndexError", .type "LookupError", .type "Exception", .type "BaseException", .type "object"]
/-- what the written part says of such a class -/
structure XC (K : PySem.W.Frag) (C : Addr) : Prop where
  cls : ∃ (B newId initId : String) (bmB : List Value) (nm q : Str) (N : Addr) (bs bm : List Value) (sn : List Str) (sub : List Value) (ab : Bool) (col : Option Bool) (dd : Option Addr) (k0 k1 k2 k3 k5 : Option Value),
    ExcBaseFacts B newId initId bmB ∧ (∀ T : String, bm.contains (.type T) = bmB.contains (.type T)) ∧ MroOk (.ref C :: bm) ∧ K.lookup C = some (excClassObj nm q C N bs bm true sn sub ab col dd k0 k1 k2 k3 k5 newId)
  sa : PySem.W.findIn K (.ref C) "__setattr__" = some (some (.builtin "object.__setattr__"))
  ga : PySem.W.findIn K (.ref C) "__getattribute__" = some (some (.builtin "BaseException.__getattribute__"))
  gg : PySem.W.findIn K (.ref C) "__getattr__" = some none
  ca : PySem.W.findIn K (.ref C) "__class__" = some (some (.builtin "object.__class__"))
  kC : PySem.W.keepIn K (.ref C) = true
  exC : PySem.W.subIn K (.ref C) (.type "BaseException") = some true
  mo : PySem.W.mroIn K C (.type "object") = some true
section
variable {prog : Program} {w : World} {A : Around} {R : Result → Shared → Prop} {hp : Heap} {g : Array GenState} {d : Drawn} {t : Nat} {os : OsState} {K : PySem.W.Frag} {name : Str} {tk : Tok} {v : Value} {x C dx : Addr} {fv : Array Value} {cd : ClassData}
open Builtin Builtin.ObjectAttr PySem.Calls
/-- the way to the store itself -/
theorem xo_way {od : Option Obj} {ox : Obj} (X : K.In hp) (I : PySem.W.InstAt hp x ox C od) (hcd : PySem.W.clsIn K C = some cd) (hm : MroOk cd.mro) (ha : PySem.W.findIn K (.ref C) name = some none)
    (hs : wpAny (model prog w) A.in1 (storeInOwnDict (.ref x) (.ref C) (.str name tk) name v false) (fun fin s' => match fin with
      | .done f => R (.ok f) s'
      | .again c' => c'.quiet = true ∧ codeAny (model prog w) A c' R s') (fun e s' => R (.error e) s') ⟨hp, g, d, t, os⟩) :
    codeAny (model prog w) A (.call (.builtin "object.__setattr__") ⟨[.ref x, .str name tk, v], []⟩) R ⟨hp, g, d, t, os⟩ := by
  have SF := F.store_object
  have inst : PySem.W.Looks (model prog w) hp (isInstance (.ref x) (.type "object")) true :=
    I.type.andThen (PySem.W.looks_mroIn X (by
      unfold PySem.W.mroIn
      rw [hcd, Option.bind_some, if_neg (by rw [hm.ne]; decide), hm.ob]))
  refine codeAny_call_builtin SF.slot.plain SF.entry ?_
  refine @PySem.W.check_slot (model prog w) _ _ ⟨hp, g, d, t, os⟩ "object.__setattr__" "object" "__setattr__" (.ref x)
    [.str name tk, v] [] _ SF.kind SF.split inst (SF.args (.ref x) (.str name tk) v) ?_
  have line : PySem.W.Looks (model prog w) hp (mroOf (.ref C)) cd.mro :=
    (PySem.W.looks_clsIn X hcd).andThen .now
  have taker : PySem.W.Looks (model prog w) hp (storeTaker? none) none := PySem.W.Looks.now
  rw [PySem.W.osa_eq, PySem.refuse_eq]
  refine wpAny_bind (wpAny_bind ?_)
  refine I.type.at (wpAny_bind (line.at ?_))
  rw [hm.pass]
  refine wpAny_pure (wpAny_bind (I.type.at (wpAny_bind ?_)))
  exact (PySem.W.looks_findIn X ha).at (wpAny_bind (taker.at hs))
/-- the first field: the object's dict is laid -/
theorem xo_new (X : K.In hp) (hx : hp.get? x = some { cls := .ref C, data := .fields fv }) (hcd : PySem.W.clsIn K C = some cd) (hm : MroOk cd.mro)
    (hh : cd.hasDict = true) (ha : PySem.W.findIn K (.ref C) name = some none)
    (hq : ∀ h' tk' dx, (∀ b o, b ≠ x → hp.get? b = some o → h'.get? b = some o) → hp.objs.size ≤ dx → dx ≠ x →
      h'.get? x = some { cls := .ref C, dict := some dx, data := .fields fv } → h'.Ns1 dx (fun y => if y = name then some v else none) →
      R (.ok (.ret .none)) ⟨h', g, d, tk', os⟩) :
    codeAny (model prog w) A (.call (.builtin "object.__setattr__") ⟨[.ref x, .str name tk, v], []⟩) R ⟨hp, g, d, t, os⟩ := by
  have away : x ≠ hp.objs.size := Nat.ne_of_lt (Heap.lt_size hx)
  refine xo_way (od := none) X ⟨hx, rfl, rfl, trivial⟩ hcd hm ha ?_
  have look : PySem.W.Looks (model prog w) hp (classData C) cd := PySem.W.looks_clsIn X hcd
  obtain ⟨nm, bs, mro, ns, qn, hd, sn, sb, ab, col, del⟩ := cd
  dsimp only at hh
  subst hh
  unfold storeInOwnDict ownDictForStores
  repeat (first
    | with_reducible refine HandSPX.store_in_new ?_ ?_
    | with_reducible refine wpAny_loadPart_at hx ?_
    | with_reducible refine look.at ?_
    | wp_step)
  · exact ⟨_, #[], _,
      (Heap.get?_update_ne _ _ _ _ away.symm).trans (Heap.get?_push_at rfl rfl),
      rfl, fun e he => absurd he (by simp), fun _ => rfl⟩
  · intro h' tk' hn' hs
    have there : (hp.push { cls := .type "dict", data := .dict #[] }).get? x = some { cls := .ref C, data := .fields fv } :=
      Heap.get?_push_of_some _ hx
    refine hq h' tk' hp.objs.size (fun b o hb ho => ?_) (Nat.le_refl _) away.symm ?_ hn'
    · refine (hs.2 b (Nat.ne_of_lt (Heap.lt_size ho))).trans ?_
      exact (Heap.get?_update_ne _ _ _ _ hb).trans (Heap.get?_push_of_some _ ho)
    · exact (hs.2 x away).trans (Heap.get?_update_self _ there rfl)
/-- a further field -/
theorem xo_old {m0 : Str → Option Value} {nl : List Str} (X : K.In hp) (hx : hp.get? x = some { cls := .ref C, dict := some dx, data := .fields fv })
    (hns : hp.Ns1 dx m0) (hw : Within m0 nl) (hz : nl.length ≤ 1000) (hcd : PySem.W.clsIn K C = some cd) (hm : MroOk cd.mro)
    (hh : cd.hasDict = true) (ha : PySem.W.findIn K (.ref C) name = some none)
    (hq : ∀ h' tk', (∀ b o, b ≠ dx → hp.get? b = some o → h'.get? b = some o) → h'.Ns1 dx (fun y => if y = name then some v else m0 y) →
      R (.ok (.ret .none)) ⟨h', g, d, tk', os⟩) :
    codeAny (model prog w) A (.call (.builtin "object.__setattr__") ⟨[.ref x, .str name tk, v], []⟩) R ⟨hp, g, d, t, os⟩ := by
  obtain ⟨oD, esD, epD, hoD, hdD, _⟩ := hns.count hw
  refine xo_way (od := some oD) X ⟨hx, rfl, rfl, hoD⟩ hcd hm ha ?_
  have look : PySem.W.Looks (model prog w) hp (classData C) cd := PySem.W.looks_clsIn X hcd
  obtain ⟨nm, bs, mro, ns, qn, hd, sn, sb, ab, col, del⟩ := cd
  dsimp only at hh
  subst hh
  unfold storeInOwnDict ownDictForStores
  repeat (first
    | with_reducible refine PySem.OEX.store_in_old hns hw hz ?_
    | with_reducible refine wpAny_loadPart_at hx ?_
    | with_reducible refine look.at ?_
    | wp_step)
  exact fun h' tk' hn' hs => hq h' tk' (fun b o hb ho => (hs.2 b hb).trans ho) hn'
end
theorem XC.clsIn {K : PySem.W.Frag} {C : Addr} (T : XC K C) : ∃ cd : ClassData, PySem.W.clsIn K C = some cd ∧ MroOk cd.mro ∧ cd.hasDict = true := by
  obtain ⟨B, newId, initId, bmB, nm, q, N, bs, bm, sn, sub, ab, col, dd, k0, k1, k2, k3, k5, F, hT, hm, hC⟩ := T.cls
  refine ⟨{ name := nm, bases := bs, mro := .ref C :: bm, ns := N, qualname := q, hasDict := true, slotNames := sn, subclasses := sub, abstract := ab, collection := col, hasDel := false }, ?_, hm, rfl⟩
  unfold PySem.W.clsIn
  rw [hC]
section
variable {X : Cx} {pins : List (Addr × Obj)} {σ : L2.St} {H : Hp} {s : Shared} {a C dx : Addr} {f : Str} {y : V} {u : Value} {fs : List (Str × V)} {Q : Unit → Shared → Prop} {E : Value → Shared → Prop} {A : Around}
theorem xst_new (T : XC X.K C) (I : Inv X pins σ H s) (e : H a = some (exo a C none)) (hno : PySem.W.findIn X.K (.ref C) f = some none) (ry : RelV y u)
    (h : ∀ dx s', H dx = none → dx ≠ a → Inv X pins σ (upd (upd H dx (exd dx [(f, y)])) a (exo a C (some dx))) s' → Q () s') : wpAny (model X.prog X.w) A (setAttr (.ref a) f u) Q E s := by
  obtain ⟨cd, hcd, hm, hh⟩ := T.clsIn
  obtain ⟨t1, ho⟩ := exo_at I.hok e
  obtain ⟨hp, g, d, t, os⟩ := s
  refine PySem.W.set_plain I.kIn (od := none) ⟨ho, rfl, rfl, trivial⟩ T.sa ?_
  refine xo_new I.kIn ho hcd hm hh hno fun h' tk' dx k big ne hx hn => ?_
  have free : H dx = none := I.hok.fresh big
  have old : ∀ {b : Addr} {ob : Obj}, hp.get? b = some ob → b ≠ dx := fun q =>
    Nat.ne_of_lt (Nat.lt_of_lt_of_le (Heap.lt_size q) big)
  have other : ∀ {b : Addr}, H b = none → b ≠ a := fun q z => by
    subst z
    rw [e] at q
    cases q
  have here : ∀ {b : Addr} {ob : HO}, H b = some ob → ob ≠ exo a C none → upd (upd H dx (exd dx [(f, y)])) a (exo a C (some dx)) b = some ob := fun q z => by
    rw [upd_ne (by rintro rfl; rw [e] at q; exact z (Option.some.inj q).symm), upd_ne (ne_of_none q free)]
    exact q
  refine h dx _ free ne (I.un (t' := tk') ⟨?_, ?_, ?_, ?_, ?_, ?_, ?_⟩ ?_)
  · exact fun b ob q n _ _ => k b ob (other n) q
  · exact fun b ob q n _ _ => ⟨ob.slots, k b ob (other n) q⟩
  · intro b ob q n _
    rw [upd_ne (other n), upd_ne (old q)]
    exact n
  · intro b ob q _
    by_cases hb : b = a
    · subst hb
      exact ⟨_, hx⟩
    · exact ⟨ob, k b ob hb q⟩
  · exact fun b xs q => here q exo_tup.symm
  · exact fun b ob v q => here q exo_frz.symm
  · exact fun b ps q => ⟨#[], by rw [here q exo_tbl.symm]; simp⟩
  · intro b ob q
    by_cases hb : b = a
    · subst hb
      rw [upd_same] at q
      cases q
      exact exo_ok hx
    · rw [upd_ne hb] at q
      by_cases hd : b = dx
      · subst hd
        rw [upd_same] at q
        cases q
        exact exd_ok hn (relO_put (fs := []) ry fun _ => True.intro)
      · rw [upd_ne hd] at q
        refine (I.hok b ob q).stay (fun c v hc z => k c v ?_ z) (fun c hc => here hc exo_own.symm) (fun c xs hc => here hc exo_tup.symm)
        rcases hc with rfl | hc
        · exact hb
        · exact at_ne e hc exo_own
theorem xst_old (T : XC X.K C) (I : Inv X pins σ H s) (e : H a = some (exo a C (some dx))) (ed : H dx = some (exd dx fs)) (hl : fs.length ≤ 900)
    (hno : PySem.W.findIn X.K (.ref C) f = some none) (ry : RelV y u)
    (h : ∀ s', Inv X pins σ (upd H dx (exd dx ((f, y) :: fs))) s' → Q () s') : wpAny (model X.prog X.w) A (setAttr (.ref a) f u) Q E s := by
  obtain ⟨cd, hcd, hm, hh⟩ := T.clsIn
  obtain ⟨t1, ho⟩ := exo_at I.hok e
  obtain ⟨mA, hns, rel⟩ := exd_at I.hok ed
  have hw := within_of rel
  obtain ⟨hp, g, d, t, os⟩ := s
  obtain ⟨oD, _, _, hoD, _, _⟩ := hns.count hw
  refine PySem.W.set_plain I.kIn (od := some oD) ⟨ho, rfl, rfl, hoD⟩ T.sa ?_
  refine xo_old I.kIn ho hns hw (by rw [List.length_map]; omega) hcd hm hh hno fun h' tk' k hn => ?_
  obtain ⟨o, es, ep, eo, er⟩ := id hn
  exact h _ (I.write (t' := tk') (x := dx) (e := dx) (by rw [ed]; exact True.intro) (.inl rfl) k ⟨o, eo⟩ (exd_ok hn (relO_put ry rel)))
end
/-- self.f = e -/
def tXst (K : PySem.W.Frag) (f : Str) (to te : TE) : TS := fun D σ H => te σ H fun y H1 => to σ H1 fun x H2 => ∃ a C : Addr, x = .ref a ∧ XC K C ∧ PySem.W.findIn K (.ref C) f = some none ∧
  ((H2 a = some (exo a C none) ∧ ∀ dx, H2 dx = none → dx ≠ a → D.nx σ (upd (upd H2 dx (exd dx [(f, y)])) a (exo a C (some dx)))) ∨
    ∃ (dx : Addr) (fs : List (Str × V)), H2 a = some (exo a C (some dx)) ∧ H2 dx = some (exd dx fs) ∧ fs.length ≤ 900 ∧ D.nx σ (upd H2 dx (exd dx ((f, y) :: fs))))
section
variable {X : Cx} {o e : Expr} {es : List Expr} {to te : TE} {ta : TA} {f x : Str} {p p' pos : Pos} {CX : CXT} {C fI : Addr} {k : Nat} {fd : FuncData} {ps : List Str} {sp : Sp}
theorem ps_xst (ho : PE X o to) (he : PE X e te) (hs : swapsWith e (some (.Attribute o f p')) pos.line X.env = pure false := by rfl) : PS X (.Assign [.Attribute o f p'] e pos) (tXst X.K f to te) := by
  refine ⟨fun pins s σ H D I h => ?_⟩
  refine plainObj_wpAny_Assign_Attribute ?_ hs
  refine thn (he.run pins s σ H _ I h) fun v s1 ⟨y, H1, I1, r1, q1⟩ => ?_
  refine thn (ho.run pins s1 σ H1 _ I1 q1) fun u s2 ⟨x, H2, I2, r2, a, C, ex, T, hno, q⟩ => ?_
  subst ex
  obtain rfl : u = Value.ref a := r2
  rcases q with ⟨ea, q⟩ | ⟨dx, fs, ea, ed, hl, q⟩
  · exact xst_new T I2 ea hno r1 fun dx s' n ne J => ⟨σ, _, J, q dx n ne⟩
  · exact xst_old T I2 ea ed hl hno r1 fun s' J => ⟨σ, _, J, q⟩
end
def xcB (K : PySem.W.Frag) (bmB : List Value) (newId : String) (C : Addr) : Bool :=
  PySem.W.excInitIn K C bmB newId && (PySem.W.hasDictIn K C && (decide (PySem.W.findIn K (.ref C) "__setattr__" = some (some (.builtin "object.__setattr__"))) && (decide (PySem.W.findIn K (.ref C) "__getattribute__" = some (some (.builtin "BaseException.__getattribute__"))) &&
    (decide (PySem.W.findIn K (.ref C) "__getattr__" = some none) && (decide (PySem.W.findIn K (.ref C) "__class__" = some (some (.builtin "object.__class__"))) && PySem.W.keepIn K (.ref C))))))
theorem xc_of {K : PySem.W.Frag} {C : Addr} {B newId initId : String} {bmB : List Value} (F : ExcBaseFacts B newId initId bmB) (hob : bmB.contains (.type "object") = true) (hbx : bmB.contains (.type "BaseException") = true)
    (hp : ∀ self : Value, PySem.refuseLoop self "__setattr__" bmB = pure ()) (h : xcB K bmB newId C = true) : XC K C := by
  unfold xcB at h
  simp only [Bool.and_eq_true, decide_eq_true_eq] at h
  obtain ⟨h1, h2, h3, h4, h5, h6, h7⟩ := h
  unfold PySem.W.excInitIn at h1
  split at h1
  case h_2 => cases h1
  rename_i dd cd sl ho
  split at h1
  case h_2 => cases h1
  rename_i C' bm k0 k1 k2 k3 n k5 hm hs
  simp only [Bool.and_eq_true, beq_iff_eq, Bool.not_eq_true'] at h1
  obtain ⟨⟨⟨e1, e2⟩, hdel⟩, ht⟩ := h1
  subst e1 e2
  obtain ⟨nm, bs, mro, ns, qn, hd, sn, sub, ab, col, del⟩ := cd
  dsimp only at hm hdel
  subst hm hdel
  obtain rfl : hd = true := by
    have z : (PySem.W.clsIn K C').any (·.hasDict) = true := h2
    unfold PySem.W.clsIn at z
    rw [ho] at z
    exact z
  obtain rfl : sl = #[k0, k1, k2, k3, some (.builtin n), k5] := by
    obtain ⟨l⟩ := sl
    simp only at hs
    rw [hs]
  have hc : ∀ T : String, bm.contains (.type T) = bmB.contains (.type T) := fun T => PySem.W.excTail_contains T _ ht
  have mo : ∀ T : String, bmB.contains (.type T) = true → PySem.W.mroIn K C' (.type T) = some true := fun T hT => by
    unfold PySem.W.mroIn PySem.W.clsIn
    rw [ho, Option.bind_some]
    show (if ((.ref C' : Value) :: bm).isEmpty = true then none else some (((.ref C' : Value) :: bm).contains (.type T))) = _
    rw [if_neg (by show ¬ (false = true); decide), List.contains_cons, hc, hT, Bool.or_true]
  refine ⟨⟨B, n, initId, bmB, nm, qn, ns, bs, bm, sn, sub, ab, col, dd, k0, k1, k2, k3, k5, F, hc, ?_, ho⟩, h3, h4, h5, h6, h7, mo _ hbx, mo _ hob⟩
  refine ⟨rfl, ?_, fun self => ?_⟩
  · rw [List.contains_cons, hc, hob, Bool.or_true]
  · rw [PySem.refuseLoop_ref]
    exact PySem.W.excTail_pass self (hp self) _ ht
theorem xc_ve {K : PySem.W.Frag} {C : Addr} (h : xcB K veM "ValueError.__new__" C = true) : XC K C := xc_of F.excBase_ValueError (by decide +kernel) (by decide +kernel) (fun self => PySem.F.store_ValueError.passes self) h
theorem xc_ie {K : PySem.W.Frag} {C : Addr} (h : xcB K ieM "IndexError.__new__" C = true) : XC K C := xc_of F.excBase_IndexError (by decide +kernel) (by decide +kernel) (fun self => PySem.F.store_IndexError.passes self) h
end Bl
namespace Bl
open PySem L2
def rows : List (Str × List Str) := [("InvalidName", ["given"]), ("InvalidColumn", ["at"]), ("InvalidSide", ["at"]), ("InvalidKey", ["given"]), ("InvalidStep", ["at"]), ("InvalidTest", ["given"]), ("InvalidThing", ["given"]), ("InvalidSetting", ["given"]),
  ("InvalidWord", ["given"]), ("InvalidNumber", ["given"]), ("InvalidText", ["line"]), ("InvalidCommand", ["at"]), ("DuplicateName", ["name"]), ("SideTaken", ["taken"]), ("TooMany", ["most"]), ("Full", ["most"]),
  ("InvalidRow", ["table", "at"]), ("Torn", ["one", "other"]), ("OtherProgram", []), ("Untold", []), ("UnknownName", ["name"]), ("UnknownColumn", ["name"]), ("UnknownRow", ["number"]), ("NothingLeft", [])]
structure NoF (K : PySem.W.Frag) (C : Addr) (r : Str × List Str) : Prop where
  code : PySem.W.findIn K (.ref C) "code" = some none
  field : ∀ f ∈ r.2, PySem.W.findIn K (.ref C) f = some none
def mkF (r : Str × List Str) (ys : List V) : List (Str × V) := ("code", .str r.1) :: (r.2.zip ys).reverse
structure InitD (H H' : Hp) (a C dx : Addr) (fs : List (Str × V)) : Prop where
  ne : dx ≠ a
  fr : H dx = none
  oa : H' a = some (exo a C (some dx))
  od : H' dx = some (exd dx fs)
  el : ∀ b, b ≠ a → b ≠ dx → H' b = H b
def spI (K : PySem.W.Frag) (C : Addr) (r : Str × List Str) : Sp := fun vs H Q _ => ∃ (a : Addr) (ys : List V), vs = .ref a :: ys ∧ ys.length = r.2.length ∧ H a = some (exo a C none) ∧ ∀ (dx : Addr) (H' : Hp), InitD H H' a C dx (mkF r ys) → Q .non H'
section
variable {K : PySem.W.Frag} {C a : Addr} {cn f g : Str} {H : Hp} {Q : VK} {ys : List V} {n : Str}
theorem init1 {y : V} (T : XC K C) (N : NoF K C (cn, [f])) (ea : H a = some (exo a C none)) (k : ∀ (dx : Addr) (H' : Hp), InitD H H' a C dx (mkF (cn, [f]) [y]) → Q .non H') :
    (tSeq (tXst K f (tVar 0) (tVar 1)) (tXst K "code" (tVar 0) (tC (.str cn)))) { nx := fun _ H' => Q .non H', rt := Q } [some (.ref a), some y] H := by
  refine ⟨_, rfl, _, rfl, a, C, rfl, T, N.field f List.mem_cons_self, .inl ⟨ea, fun dx hd ne => ?_⟩⟩
  refine ⟨_, rfl, a, C, rfl, T, N.code, .inr ⟨dx, [(f, y)], upd_same, ?_, (by show 1 ≤ 900; decide), k dx _ ⟨ne, hd, ?_, upd_same, fun b b1 b2 => ?_⟩⟩⟩
  · rw [upd_ne ne, upd_same]
  · rw [upd_ne ne.symm, upd_same]
  · rw [upd_ne b2, upd_ne b1, upd_ne b2]
theorem ini1 (T : XC K C) (N : NoF K C (cn, [f])) (hl : ys.length = 1) (ea : H a = some (exo a C none)) (k : ∀ (dx : Addr) (H' : Hp), InitD H H' a C dx (mkF (cn, [f]) ys) → Q .non H') :
    (tSeq (tXst K f (tVar 0) (tVar 1)) (tXst K "code" (tVar 0) (tC (.str cn)))) { nx := fun _ H' => Q .non H', rt := Q } (start ["self", f] (.ref a :: ys)) H := by
  match ys, hl with
  | [y], _ => exact init1 T N ea k
end
def l1 : List V := [.str "InvalidName", .str "InvalidKey", .str "InvalidTest", .str "InvalidThing", .str "InvalidSetting", .str "InvalidWord", .str "InvalidNumber"]
def l2 : List V := [.str "InvalidColumn", .str "InvalidSide", .str "InvalidStep", .str "InvalidCommand"]
def l5 : List V := [.str "DuplicateName", .str "UnknownName", .str "UnknownColumn"]
def l6 : List V := [.str "TooMany", .str "Full"]
def oneR (r : Str × List Str) (f : Str) : Bool := decide (r.2 = [f])
def twoR (r : Str × List Str) (f g : Str) : Bool := decide (r.2 = [f, g])
def fieldR (r : Str × List Str) : Bool :=
  if inV (.str r.1) l1 = true then oneR r "given" else
  if inV (.str r.1) l2 = true then oneR r "at" else
  if decide (V.str r.1 = V.str "InvalidRow") = true then twoR r "table" "at" else
  if decide (V.str r.1 = V.str "Torn") = true then twoR r "one" "other" else
  if inV (.str r.1) l5 = true then oneR r "name" else
  if inV (.str r.1) l6 = true then oneR r "most" else
  if decide (V.str r.1 = V.str "SideTaken") = true then oneR r "taken" else
  if decide (V.str r.1 = V.str "UnknownRow") = true then oneR r "number" else
  if decide (V.str r.1 = V.str "InvalidText") = true then oneR r "line" else decide (r.2 = [])
theorem fieldR_all : rows.all fieldR = true := by decide +kernel
section
variable {K : PySem.W.Frag} {r : Str × List Str} {f g : Str} {y z : V} {ys : List V}
theorem lk_one (hf : r.2 = [f]) (hc : (f == ("code" : Str)) = false) : (mkF r [y]).lookup f = some y := by
  unfold mkF
  rw [hf]
  show List.lookup f [("code", .str _), (f, y)] = some y
  simp [List.lookup, hc]
theorem lk_fst (hf : r.2 = [f, g]) (hc : (f == ("code" : Str)) = false) (hg : (f == g) = false) : (mkF r [y, z]).lookup f = some y := by
  unfold mkF
  rw [hf]
  show List.lookup f [("code", .str _), (g, z), (f, y)] = some y
  simp [List.lookup, hc, hg]
theorem lk_snd (hf : r.2 = [f, g]) (hc : (g == ("code" : Str)) = false) : (mkF r [y, z]).lookup g = some z := by
  unfold mkF
  rw [hf]
  show List.lookup g [("code", .str _), (g, z), (f, y)] = some z
  simp [List.lookup, hc]
theorem nof_one {C : Addr} (N : NoF K C r) (hf : r.2 = [f]) : PySem.W.findIn K (.ref C) f = some none := N.field f (by rw [hf]; exact List.mem_cons_self)
theorem nof_fst {C : Addr} (N : NoF K C r) (hf : r.2 = [f, g]) : PySem.W.findIn K (.ref C) f = some none := N.field f (by rw [hf]; exact List.mem_cons_self)
theorem nof_snd {C : Addr} (N : NoF K C r) (hf : r.2 = [f, g]) : PySem.W.findIn K (.ref C) g = some none := N.field g (by rw [hf]; exact List.mem_cons_of_mem _ List.mem_cons_self)
theorem one_of (h5 : ys.length = r.2.length) (hf : r.2 = [f]) : ∃ y, ys = [y] := by
  rw [hf] at h5
  match ys, h5 with
  | [y], _ => exact ⟨y, rfl⟩
theorem two_of (h5 : ys.length = r.2.length) (hf : r.2 = [f, g]) : ∃ y z, ys = [y, z] := by
  rw [hf] at h5
  match ys, h5 with
  | [y, z], _ => exact ⟨y, z, rfl⟩
theorem nix_of (h5 : ys.length = r.2.length) (hf : r.2 = []) : ys = [] := by
  rw [hf] at h5
  exact List.eq_nil_of_length_eq_zero h5
end
/-- the error in hand: of the class at C, a row of the table, made of ys -/
structure InHand (K : PySem.W.Frag) (H : Hp) (cls : Value) (d : Option Addr) (r : Str × List Str) (ys : List V) : Prop where
  ex : ∃ C dd : Addr, cls = .ref C ∧ d = some dd ∧ XC K C ∧ NoF K C r ∧ r ∈ rows ∧ ys.length = r.2.length ∧ H dd = some (.xd (mkF r ys))
theorem InHand.mono {K : PySem.W.Frag} {H H' : Hp} {cls : Value} {d : Option Addr} {r : Str × List Str} {ys : List V} (h : InHand K H cls d r ys) (e : Same H H') : InHand K H' cls d r ys := by
  obtain ⟨C, dd, h1, h2, h3, h4, h5, h6, h7⟩ := h.ex
  exact ⟨C, dd, h1, h2, h3, h4, h5, h6, e _ _ h7⟩
end Bl
namespace Bl
open PySem L2 PySem.Spec PyProof.Rows
theorem fly_grow {B h h' : Heap} {l : List Env} {a : Addr} {Z : Obj → Prop} (k : ∀ b o, h.get? b = some o → h'.get? b = some o) (fl : HandSPX.FlyingZ B l a Z h) : HandSPX.FlyingZ B l a Z h' := by
  obtain ⟨st, na, ff, oe, vs, T, oT, ts, h1, h2, h3, h4, h5, h6, h7, h8, h9⟩ := fl
  refine ⟨fun b o e => k _ _ (st b o e), na, ?_, oe, vs, T, oT, ts, k _ _ h1, h2, h3, h4, h5, h6, k _ _ h7, h8, h9⟩
  exact Heap.FunFrames.of_keeps (fun b o e _ => ⟨o, k _ _ e, rfl⟩) ff
/-- what the clause 'except (x1, x2, x3) as n' wishes, n in slot i: it is one of them -/
def wAs3 (K : PySem.W.Frag) (cs : List Value) (l i : Nat) (ts : Addr → Value → Option Addr → TS) (D : Ends) : WX := fun cls d σ H =>
  PySem.W.exmAny K cls cs = some true ∧ ∀ a, H a = none → σ.length = l →
    ts a cls d { nx := fun τ G => D.nx (τ.set i none) G, rt := D.rt, bk := fun τ G => D.bk (τ.set i none) G, ct := fun τ G => D.ct (τ.set i none) G } (σ.set i (some (.ref a))) H
section
variable {X : Cx} {x1 x2 x3 n : Str} {c1 c2 c3 : Value} {i kk : Nat} {body suite : List Stmt} {b₀ : Stmt} {p1 p2 p3 tp pos pos' : Pos} {tb : WX → TS} {ts : Addr → Value → Option Addr → TS}
theorem names_ok {x : Str} {c : Value} {np : Pos} {pins : List (Addr × Obj)} {σ : L2.St} {H : Hp} {s : Shared} {Q : Value → Shared → Prop} (hc : Names X x c) (I : Inv X pins σ H s) (q : Q c s) {E : Value → Shared → Prop} :
    wpAny (model X.prog X.w) X.A (eval (.Name x np) X.env) Q E s := by
  obtain ⟨hg, hd, hm | ⟨hm, hv, hn⟩⟩ := hc
  · exact ld_glob I hg hm q hd
  · exact ld_blt I hg hm hv q hn hd
theorem ps_try_as3 (hs : X.stack = X.env :: X.outer) (hf : X.env.frame = some X.env.locals) (hN : X.N.Nodup) (hi : X.N[i]? = some n) (hln : X.env.kindOf n = some .local)
    (n1 : Names X x1 c1) (n2 : Names X x2 c2) (n3 : Names X x3 c3)
    (hb : ∀ (W : WX) (pn : List (Addr × Obj)) (xe : Value → Shared → Prop), Takes (X.tr pn xe) W →
      PSs (X.tr pn xe) body (tb W))
    (hsu : ∀ (a : Addr) (oe : Obj) (cls : Value) (d : Option Addr) (pn : List (Addr × Obj)), Zc cls d oe →
      (∃ vs, oe.data = .fields vs) → PSs (X.suite a ((a, oe) :: pn)) (b₀ :: suite) (ts a cls d)) :
    PS X (.Try body [.ExceptHandler (some (.Tuple [.Name x1 p1, .Name x2 p2, .Name x3 p3] kk tp)) (some n) (b₀ :: suite) pos'] [] [] pos) (fun D σ H => tb (wAs3 X.K [c1, c2, c3] X.N.length i ts D) D σ H) := by
  refine ⟨fun pins s σ H D I h => ?_⟩
  have ok := I.ok
  have hfa : X.A.frames = some (X.env :: X.outer) := ok.frames.trans (congrArg some hs)
  refine wpAny_Try_except ?_
  refine wpAny_mono ((hb (wAs3 X.K [c1, c2, c3] X.N.length i ts D) (X.pn ++ pins) (fun e s₁ => wpAny (model X.prog X.w) X.A (noteFrame e X.env) (fun _ s₂ => wpAny (model X.prog X.w) X.A (setFlight e none) (fun _ s₃ =>
    wpAny (model X.prog X.w) X.A (handleBy e X.env [.ExceptHandler (some (.Tuple [.Name x1 p1, .Name x2 p2, .Name x3 p3] kk tp)) (some n) (b₀ :: suite) pos']) (SP X pins D) X.xe s₃) X.xe s₂) X.xe s₁) (fun u s' xx => ?_)).run [] s σ H D (I.toTry _) h) (fun f s1 hsp => ?_) (fun e s1 he => he)
  · obtain ⟨a, B, sB, pins', σ', H', cls, d, rfl, J', nb, up, sky, na, os, ag, hb1, hgo⟩ := xx
    have J := J'.ofTry ok
    rw [show (X.tr (X.pn ++ pins) _).stack = X.env :: X.outer from hs] at sky
    show wpAny (model X.prog X.w) X.A (noteFrame (.ref a) X.env) _ _ _
    refine Sky.land Zc.steady hfa hf sky fun h3 fa3 sl3 => ?_
    have K3 : Inv X pins σ' H' { s' with heap := h3 } := J.landed nb fa3.1 (up.trans sl3) os ag
    obtain ⟨ob3, fv3, at3, zc3, da3⟩ := fa3.there
    have apS : a ∉ frs (X.env :: X.outer) := fun hm => by
      obtain ⟨_, o', e', hnf⟩ := Heap.FunFrames.mem fa3.2.2.1 hm
      rw [at3] at e'
      cases e'
      exact hnf _ da3
    have apL : a ≠ X.env.locals := by
      intro z
      refine apS (List.mem_filterMap.mpr ⟨X.env, List.mem_cons_self, ?_⟩)
      rw [hf, z]
    have apF : a ∉ X.fs := by
      intro z
      obtain ⟨en, hen, qe⟩ := List.mem_filterMap.mp z
      exact apS (List.mem_filterMap.mpr ⟨en, .tail _ hen, qe⟩)
    have U3 := K3.suite at3 da3 na apL apF
    refine wpAny_handleBy_cons (codeAny_handlers_test ?_) (by intro q; cases q)
    have LT : PySem.W.Looks (model X.prog X.w) h3 (typeOf (.ref a)) cls := fun A Q E s k q =>
      wpAny_typeOf_ref (k _ _ at3) (by rw [zc3.1]; exact q)
    have kp : ∀ b o, h3.get? b = some o → (h3.push { cls := .type "tuple", data := .seq [c1, c2, c3].toArray }).get? b = some o :=
      fun _ _ z => Heap.get?_push_of_some _ z
    show wpAny (model X.prog X.w) (X.A.mark (some (.ref a))) (eval (.Tuple [.Name x1 p1, .Name x2 p2, .Name x3 p3] kk tp) X.env) _ _ _
    refine wpAny_Tuple ?_
    refine wpAny_items_cons (names_ok (X := X.suite a ((a, ob3) :: (X.pn ++ pins))) n1 U3 ?_)
    refine wpAny_items_cons (names_ok (X := X.suite a ((a, ob3) :: (X.pn ++ pins))) n2 U3 ?_)
    refine wpAny_items_cons (names_ok (X := X.suite a ((a, ob3) :: (X.pn ++ pins))) n3 U3 ?_)
    refine wpAny_items_nil ⟨by size_fits, ?_⟩
    have fa5 := fly_grow kp fa3
    refine (PySem.W.exm_tup3 (K3.kIn.keeps kp) (LT.keeps kp) (Heap.get?_push_size h3 rfl) hb1).here ?_
    refine codeAny_handlers_suite_as ?_
    refine HandSPX.lands_againZ fa5 fun h4 fa4 sl4 => ?_
    have upk : h3.UpToSlots (h3.push { cls := .type "tuple", data := .seq [c1, c2, c3].toArray }) := fun b o e _ => ⟨o.slots, kp b o e⟩
    have K4 : Inv X pins σ' H' { s' with heap := h4 } := J.landed nb fa4.1 (((up.trans sl3).trans upk).trans sl4) os ag
    obtain ⟨ob4, fv4, at4, zc4, da4⟩ := fa4.there
    have U4 := K4.suite at4 da4 na apL apF
    refine store_ok (X := X.suite a ((a, ob4) :: (X.pn ++ pins))) (v := .ref a) U4 hN hi (.inl hln) rfl (fun s5 S5 => ?_) (.inr hln)
    refine wpAny_mono ((hsu a ob4 cls d (X.pn ++ pins) zc4 ⟨_, da4⟩).run [] s5 _ H' _ S5 (hgo a na J.len)) (fun f s6 hsp => ?_) (fun _ _ z => z.elim)
    have fin : ∀ {τ : L2.St} {G : Hp} {Q : Shared → Prop}, Inv (X.suite a ((a, ob4) :: (X.pn ++ pins))) [] τ G s6 → (∀ s7, Inv X pins (τ.set i none) G s7 → Q s7) →
        wpAny (model X.prog X.w) X.A (do bindName X.env n .none; unbindBehindTheSuite X.env n pos') (fun _ s7 => Q s7) X.xe s6 := fun S6 hq =>
      gone_ok (S6.unsuite ok) hN hi hln hq
    cases f with
    | ret u =>
      obtain ⟨v6, τ, G, S6, r6, q6⟩ := hsp
      exact fin S6 fun s7 J7 => ⟨_, _, _, J7, r6, q6⟩
    | next =>
      obtain ⟨τ, G, S6, q6⟩ := hsp
      exact fin S6 fun s7 J7 => ⟨_, _, J7, q6⟩
    | brk =>
      obtain ⟨τ, G, S6, q6⟩ := hsp
      exact fin S6 fun s7 J7 => ⟨_, _, J7, q6⟩
    | cont =>
      obtain ⟨τ, G, S6, q6⟩ := hsp
      exact fin S6 fun s7 J7 => ⟨_, _, J7, q6⟩
  · cases f with
    | ret u =>
      obtain ⟨v, τ, G, K1, r, q⟩ := hsp
      exact ⟨v, τ, G, K1.ofTry ok, r, q⟩
    | next =>
      obtain ⟨τ, G, K1, q⟩ := hsp
      exact wpAny_execs_nil ⟨τ, G, K1.ofTry ok, q⟩
    | brk =>
      obtain ⟨τ, G, K1, q⟩ := hsp
      exact ⟨τ, G, K1.ofTry ok, q⟩
    | cont =>
      obtain ⟨τ, G, K1, q⟩ := hsp
      exact ⟨τ, G, K1.ofTry ok, q⟩
end
structure FnP (P : Program) (w : World) (K : PySem.W.Frag) (mg : Str → Option Value) (base : Heap) (k : Nat) (f : Addr) (fd : FuncData) (ps : List Str) (sp : Addr → Value → Option Addr → Sp) : Prop where
  len : ∀ a cls d vs H Q E, sp a cls d vs H Q E → vs.length = ps.length
  run : ∀ (A : Around) (outer : List Env) (s : Shared) (H : Hp) (args : Args) (us : List Value) (vs : List V) (Q : VK) (p : Addr × Obj) (cls : Value) (d : Option Addr), L2H.RoomH k A → L2H.PinOk outer H s p → Zc cls d p.2 →
    (∃ fv, p.2.data = .fields fv) → Env0 P w K mg base A outer s H → BindsTo s fd args (ps.zip us) → Vals vs us → sp p.1 cls d vs H Q E0 → codeAny (model P w) A (.call (.ref f) args) (CR CX0 outer P w H s Q E0) s
section
variable {P : Program} {w : World} {K : PySem.W.Frag} {mg : Str → Option Value} {base : Heap} {k : Nat} {f : Addr} {fd : FuncData} {N ps : List Str} {sp : Addr → Value → Option Addr → Sp} {x qual : Str} {st : Stmt}
theorem okP (F : Fun K x qual st f fd) (S : FnScope N ps (defScope st)) (len : ∀ a cls d vs H Q E, sp a cls d vs H Q E → vs.length = ps.length)
    (hbody : ∀ (cdv : Value) (A : Around) (outer : List Env) (s : Shared) (H : Hp) (vs : List V) (Q : VK) (p : Addr × Obj) (cls : Value) (d : Option Addr), Zc cls d p.2 → (∃ fv, p.2.data = .fields fv) →
      L2H.RoomH k (A.deeper (envOfC qual (defScope st) s.heap.objs.size f cdv)) → sp p.1 cls d vs H Q E0 →
      ∃ t, PSs (L2H.cxH CX0 P w K mg base N qual (defScope st) f cdv A outer s H E0 p) (defBody st) t ∧ t { nx := fun _ H' => Q .non H', rt := Q } (start N vs) H) : FnP P w K mg base (k + 1) f fd ps sp := by
  obtain ⟨oc, od, kV, doc, pm, an, cdv, ct, osl, rfl, lk, hcd⟩ := F.ex
  refine ⟨len, fun A outer s H args us vs Q p cls d hr hpin hz hf e0 hb r hsp => ?_⟩
  have hl := len _ _ _ _ _ _ _ hsp
  have KX : K.In s.heap := e0.mod.kin.keeps fun b o e => (e0.bs b o e).1
  have lim := e0.mod.nolimit.keeps (h' := s.heap) fun b o e => (e0.bs b o e).1
  refine codeAny_call_function hr.depth (KX _ _ lk) rfl S.co S.gen rfl (PySem.W.codeRec_of KX hcd) (hb _ _ _ _ ?_)
  refine wpAny_newFunctionEnv_cells S.kind (fun ⟨n, v⟩ hy => ?_) fun env he s1 x => ?_
  · rcases S.par n (List.of_mem_zip hy).1 with q | q
    · exact .inl q
    · exact .inr ⟨q, PySem.W.cellsFrom_some _ _ _ (.inl q)⟩
  subst he
  refine ⟨lim.keeps x.toInCall.keep, codeAny_func ?_⟩
  obtain ⟨t, ht, hq⟩ := hbody cdv A outer s H vs Q p cls d hz hf (hr.deeper _) hsp
  have I := L2H.inv_startH (CX := CX0) (E := E0) S hpin e0 hl r x
  refine wpAny_mono (ht.run [] s1 (start N vs) H _ I hq) (fun fl s' hs => ?_) fun e s' hs => hs
  cases fl with
  | ret u =>
    obtain ⟨v, τ, G, J, rv, q⟩ := hs
    exact ⟨v, G, J.os, J.bare, J.base, J.hok, rv, q⟩
  | next =>
    obtain ⟨τ, G, J, q⟩ := hs
    exact ⟨.non, G, J.os, J.bare, J.base, J.hok, rfl, q⟩
  | brk =>
    obtain ⟨_, _, _, q⟩ := hs
    exact q.elim
  | cont =>
    obtain ⟨_, _, _, q⟩ := hs
    exact q.elim
end
/-- f(e), e the error in hand: of the class cls, its dict d -/
def tCallP (sp : Addr → Value → Option Addr → Sp) (a : Addr) (cls : Value) (d : Option Addr) (t : TA) : TE := fun σ H Q => t σ H fun vs G => sp a cls d vs G Q E0
/-- e.f, e the error in hand -/
def tXp (K : PySem.W.Frag) (a : Addr) (cls : Value) (d : Option Addr) (f : Str) (te : TE) : TE := fun σ H Q => te σ H fun x G => ∃ (C dd : Addr) (fs : List (Str × V)) (v : V), x = .ref a ∧ cls = .ref C ∧ d = some dd ∧ XC K C ∧ PySem.W.findIn K (.ref C) f = some none ∧
  G dd = some (.xd fs) ∧ fs.lookup f = some v ∧ Q v G
section
variable {X : Cx} {e : Expr} {es : List Expr} {te : TE} {t : TA} {f x : Str} {p : Addr × Obj} {cls : Value} {d : Option Addr} {pos q : Pos} {k : Nat} {g : Addr} {fd : FuncData} {ps : List Str} {sp : Addr → Value → Option Addr → Sp}
theorem pe_xp (hp : p ∈ X.pn) (hz : Zc cls d p.2) (hf : ∃ fv, p.2.data = .fields fv) (he : PE X e te) (hb : attributeBase e f X.env (eval e X.env) = eval e X.env := by rfl) : PE X (.Attribute e f pos) (tXp X.K p.1 cls d f te) := by
  refine ⟨fun pins s σ H Q I h => ?_⟩
  refine attr_of hb (thn (he.run pins s σ H _ I h) fun u s1 hh => ?_)
  obtain ⟨x, G, I1, rx, C, dd, fs, v, ex, ec, ed, T, hno, ea, l, q⟩ := hh
  subst ex ec ed
  obtain rfl : u = Value.ref p.1 := rx
  obtain ⟨ha, _⟩ := I1.pin p (List.mem_append_left _ hp)
  obtain ⟨fv, hd⟩ := hf
  obtain ⟨mA, hns, hr⟩ := (show ObjOk X.prog X.w G s1.heap dd (.xd fs) from I1.hok dd _ ea)
  obtain ⟨od, ho, hl⟩ := lookIn_ns hns
  obtain ⟨u, hu, ru⟩ := RelO.some_of (v := v) (o := mA f) (by rw [← l]; exact hr f)
  have J : PySem.W.InstAt s1.heap p.1 p.2 C (some od) := ⟨ha, hz.1, by unfold PySem.W.notCls; rw [hd], by rw [hz.2]; exact ho⟩
  obtain ⟨cd, hcd, _, hdd⟩ := T.clsIn
  refine HandSPX.exc_get I1.kIn J T.ga T.gg T.exC (PySem.W.findObj_own (attr := none) ?_ hno rfl (by rw [hl, hu])) (handed_of ru) ⟨v, G, I1.tok _, ru, q⟩
  show (PySem.W.clsIn X.K C).any (·.hasDict) = true
  rw [hcd]
  exact hdd
theorem pe_callP (F : FnP X.prog X.w X.K X.mg X.base k g fd ps sp) (hr : L2H.RoomH k X.A) (hp : p ∈ X.pn) (hz : Zc cls d p.2) (hf : ∃ fv, p.2.data = .fields fv) (hg : Gl X x) (hm : X.mg x = some (.ref g))
    (hk : PySem.W.keepIn X.K (.ref g) = true) (hb : Binds X.K fd ps []) (ha : PA X (e :: es) t) (hdb : (x == ("__debug__" : Str)) = false := by decide)
    (he : starEach (e :: es) X.env = (false, eval e X.env) :: starEach es X.env := by rfl) (hpl : (backTo pos (starEach es X.env)).any (·.1) = false := by rfl) :
    PE X (.Call (.Name x q) (e :: es) [] pos) (tCallP sp p.1 cls d t) := by
  refine ⟨fun pins s σ H Q I h => ?_⟩
  refine wpAny_Call_Name_kw (ld_glob I hg hm ?_ hdb)
  refine PySem.W.callWith_K (h₀ := X.base) I.ok.mod.kin hk (thn (ha.run pos pins s σ H _ I h) fun us s1 ⟨vs, H1, I1, r, q1⟩ => ⟨I1.kIn, ?_⟩) he hpl
  have hl : us.length = ps.length := by
    rw [← r.length]
    exact F.len _ _ _ _ _ _ _ q1
  have b := hb s1 us I1.kIn (by rw [List.append_nil]; exact hl)
  rw [List.append_nil] at b
  have P1 := I1.pin p (List.mem_append_left _ hp)
  refine wpAny_call (codeAny_mono (F.run X.A X.stack s1 H1 ⟨us, []⟩ us vs Q p cls d hr ⟨P1.1, P1.2.1, fun hm => ?_, P1.2.2.2.2⟩ hz hf I1.env0 b r q1) fun r s' hq => ?_)
  · exact (List.mem_cons.mp (I1.stkSub p.1 hm)).elim P1.2.2.1 P1.2.2.2.1
  cases r with
  | error e => exact (show False from hq).elim
  | ok fl =>
    cases fl with
    | ret u => exact I1.after hq
    | next => exact hq.elim
    | brk => exact hq.elim
    | cont => exact hq.elim
end
end Bl
namespace Bl
open PySem L2 PySem.Spec PyProof.Rows
theorem XC.ty {K : PySem.W.Frag} {C : Addr} (T : XC K C) : PySem.W.typeIn K (.ref C) = some (.type "type") := by
  obtain ⟨_, _, _, _, _, _, _, _, _, _, _, _, _, _, _, _, _, _, _, _, _, _, hC⟩ := T.cls
  show (K.lookup C).map (·.cls) = _
  rw [hC]
  rfl
/-- C(e, ..), to be raised -/
def tMkX (C : Addr) (sp : Sp) (ta : TA) : L2.St → Hp → XK → Prop := fun σ H Q => ta σ H fun vs G => vs.length ≤ 1000 ∧ ∀ a, G a = none → sp (.ref a :: vs) (upd G a (exo a C none))
  (fun v G2 => v = .non ∧ ∃ (d : Addr) (fs : List (Str × V)), G2 a = some (exo a C (some d)) ∧ G2 d = some (exd d fs) ∧ G d = none ∧ Q (.ref C) (some d) (upd (del G2 a) d (.xd fs))) (fun _ _ _ => False)
section
variable {X : Cx} {CX : CXT} {e : Expr} {es : List Expr} {ta : TA} {x : Str} {C fI : Addr} {k : Nat} {fd : FuncData} {ps : List Str} {sp : Sp} {p pos : Pos}
theorem run_mkx {pins : List (Addr × Obj)} {σ : L2.St} {H : Hp} {s : Shared} {Q : XK} {us : List Value} {vs : List V} (T : XC X.K C) (iC : PySem.W.findIn X.K (.ref C) "__init__" = some (some (.ref fI))) (tI : PySem.W.typeIn X.K (.ref fI) = some (.type "function"))
    (F1 : FnOk X.prog X.w X.K X.mg X.base CX k fI fd ps sp) (hr : Room (k + 1) X.A) (hb : Binds X.K fd ps []) (hx : Passes CX X (fun _ _ _ => False)) (I : Inv X pins σ H s) (r : Vals vs us) (hz : vs.length ≤ 1000)
    (h : ∀ a, H a = none → sp (.ref a :: vs) (upd H a (exo a C none)) (fun v G2 => v = .non ∧ ∃ (d : Addr) (fs : List (Str × V)), G2 a = some (exo a C (some d)) ∧ G2 d = some (exd d fs) ∧ H d = none ∧ Q (.ref C) (some d) (upd (del G2 a) d (.xd fs))) (fun _ _ _ => False)) :
    wpAny (model X.prog X.w) X.A (call (.ref C) us) (MkP X pins σ Q) X.xe s := by
  obtain ⟨B, newId, initId, bmB, nm, q, N, bs, bm, sn, sub, ab, col, dd, k0, k1, k2, k3, k5, F, hT, hm, hC⟩ := id T.cls
  obtain ⟨hp, g, dr, tk, os⟩ := s
  have hsz : hp.objs.size ≤ hp.objs.size + 1 := Nat.le_succ _
  have hq := h (hp.objs.size + 1) (I.hok.fresh hsz)
  have kk : ∀ b o, hp.get? b = some o → ((hp.push (PySem.W.kdv_tup us)).push (PySem.HandSPX.excO C hp.objs.size)).get? b = some o := fun b o e =>
    Heap.get?_push_of_some _ (Heap.get?_push_of_some _ e)
  have hget : ((hp.push (PySem.W.kdv_tup us)).push (PySem.HandSPX.excO C hp.objs.size)).get? (hp.objs.size + 1) = some (PySem.HandSPX.excO C hp.objs.size) := by
    heap_get
  have I2 : Inv X pins σ (upd H (hp.objs.size + 1) (exo (hp.objs.size + 1) C none)) ⟨(hp.push (PySem.W.kdv_tup us)).push (PySem.HandSPX.excO C hp.objs.size), g, dr, tk, os⟩ := by
    refine I.laid (t' := tk) ?_ ?_ ?_
    · exact kk
    · exact hsz
    · exact exo_ok hget
  have hl : (Value.ref (hp.objs.size + 1) :: us ++ []).length = ps.length := by
    rw [List.append_nil, List.length_cons, ← r.length]
    exact F1.len _ _ _ _ hq
  have hus : us.length ≤ sizeLine := by
    rw [← Paired.length r]
    exact small (by omega)
  refine wpAny_call (PySem.HandSPX.call_own F hT (I.kIn _ _ hC) (PySem.W.looks_findIn I.kIn iC) (fun self => PySem.W.bind_fn I.kIn self tI) hus ?_)
  refine codeAny_mono (F1.run _ X.stack _ _ ⟨Value.ref (hp.objs.size + 1) :: us, []⟩ (Value.ref (hp.objs.size + 1) :: us) (V.ref (hp.objs.size + 1) :: vs) _ (fun _ _ _ => False) (hr.make C us []) (I2.env0.make C us []) ?_ (.cons rfl r) hq) fun r s' hq' => ?_
  · have := hb _ (Value.ref (hp.objs.size + 1) :: us) I2.kIn hl
    rw [List.append_nil] at this
    exact this
  cases r with
  | error er => exact hx pins σ _ _ er s' I2 hq'
  | ok fl =>
    cases fl with
    | ret u =>
      obtain ⟨v, G2, os2, bare2, un2, hok2, rv, ev, d, fs, ea, ed, hd1, q2⟩ := hq'
      subst ev
      obtain ⟨h2, g2, d2, t2, os'⟩ := s'
      exact ⟨rv, mk_end (raises_own T.exC T.ty) I hsz kk un2 hok2 os2 bare2 ea ed hd1 q2⟩
    | next => exact hq'.elim
    | brk => exact hq'.elim
    | cont => exact hq'.elim
theorem pmk_xc (T : XC X.K C) (iC : PySem.W.findIn X.K (.ref C) "__init__" = some (some (.ref fI))) (tI : PySem.W.typeIn X.K (.ref fI) = some (.type "function"))
    (F1 : FnOk X.prog X.w X.K X.mg X.base CX k fI fd ps sp) (hr : Room (k + 1) X.A) (hb : Binds X.K fd ps []) (hx : Passes CX X (fun _ _ _ => False)) (hg : Gl X x) (hm : X.mg x = some (.ref C)) (ha : PA X (e :: es) ta)
    (hdb : (x == ("__debug__" : Str)) = false := by decide) (he : starEach (e :: es) X.env = (false, eval e X.env) :: starEach es X.env := by rfl) (hpl : (backTo pos (starEach es X.env)).any (·.1) = false := by rfl) :
    PMk X (.Call (.Name x p) (e :: es) [] pos) (tMkX C sp ta) := by
  intro pins s σ H Q I h
  refine wpAny_Call_Name_kw (ld_glob I hg hm ?_ hdb)
  refine PySem.W.callWith_K (h₀ := X.base) I.ok.mod.kin T.kC (thn (ha.run pos pins s σ H _ I h) fun us s1 ⟨vs, H1, I1, r1, hz, q1⟩ => ⟨I1.kIn, ?_⟩) he hpl
  exact run_mkx T iC tI F1 hr hb hx I1 r1 hz q1
end
end Bl
namespace Bl
open PySem L2 PySem.Spec PyProof.Rows
section
variable {P : Program} {w : World} {K : PySem.W.Frag} {mg : Str → Option Value} {base : Heap} {k : Nat} {f : Addr} {fd : FuncData} {N ps : List Str} {sp : Sp} {x qual : Str} {st : Stmt}
theorem okC (F : Fun K x qual st f fd) (S : FnScope N ps (defScope st)) (len : ∀ vs H Q E, sp vs H Q E → vs.length = ps.length)
    (hbody : ∀ (cdv : Value) (A : Around) (outer : List Env) (s : Shared) (H : Hp) (vs : List V) (Q : VK) (E : XK), fd.code = cdv → Room k (A.deeper (envOfC qual (defScope st) s.heap.objs.size f cdv)) → sp vs H Q E →
      ∃ t, PSs (cxOf CX0 P w K mg base N qual (defScope st) f cdv A outer s H E).nox (defBody st) t ∧
        t { nx := fun _ G => Q .non G, rt := Q } (start N vs) H) : FnOk P w K mg base CX0 (k + 1) f fd ps sp := by
  obtain ⟨oc, od, kV, doc, pm, an, cdv, ct, osl, rfl, lk, hcd⟩ := F.ex
  refine fn_of lk hcd S len fun A outer s H vs Q E hr hsp => ?_
  obtain ⟨t, h, q⟩ := hbody cdv A outer s H vs Q E rfl hr hsp
  exact ⟨t, h.nox, q⟩
end
end Bl
namespace Bl
open PySem L2 PySem.Spec PyProof.Rows
/-- what a lambda's body may let out -/
theorem passes_lam {X : Cx} {A : Around} {outer : List Env} {s : Shared} {H : Hp} {E : XK} {scope : Scope} {f c' : Addr} : Passes (L2.CX X.prog X.w) (LamX.lamCx X A outer s H E scope f c') E :=
  passes_call (takes_of rfl rfl rfl rfl) fun _ _ _ _ h => h
/-- what a raising def's body may let out -/
theorem takes_ok {P : Program} {w : World} {K : PySem.W.Frag} {mg : Str → Option Value} {base : Heap} {N : List Str} {qual : Str} {scope : Scope} {f : Addr} {cd : Value} {A : Around} {outer : List Env} {s : Shared} {H : Hp} {E : XK} :
    Takes (cxOf (L2.CX P w) P w K mg base N qual scope f cd A outer s H E) (fun cls d _ G => E cls d G) := takes_of rfl rfl rfl rfl
theorem passes_ok {P : Program} {w : World} {K : PySem.W.Frag} {mg : Str → Option Value} {base : Heap} {N : List Str} {qual : Str} {scope : Scope} {f : Addr} {cd : Value} {A : Around} {outer : List Env} {s : Shared} {H : Hp} {E : XK} :
    Passes (L2.CX P w) (cxOf (L2.CX P w) P w K mg base N qual scope f cd A outer s H E) E := passes_call takes_ok fun _ _ _ _ h => h
end Bl
namespace Bl
open PySem L2
def xqB (K : PySem.W.Frag) (C L M N : Addr) (fs : List Str) : Bool :=
  decide (PySem.W.findIn K (.ref C) "code" = some none) && (fs.all (fun f => decide (PySem.W.findIn K (.ref C) f = some none)) && decide (PySem.W.exmAny K (.ref C) [.ref L, .ref M, .ref N] = some true))
theorem xq_nof {K : PySem.W.Frag} {C L M N : Addr} {c : Str} {fs : List Str} (h : xqB K C L M N fs = true) : NoF K C (c, fs) := by
  obtain ⟨h1, h2⟩ := Bool.and_eq_true_iff.mp h
  obtain ⟨h2, _⟩ := Bool.and_eq_true_iff.mp h2
  exact ⟨of_decide_eq_true h1, fun f hf => of_decide_eq_true (List.all_eq_true.mp h2 f hf)⟩
theorem xq_any {K : PySem.W.Frag} {C L M N : Addr} {fs : List Str} (h : xqB K C L M N fs = true) : PySem.W.exmAny K (.ref C) [.ref L, .ref M, .ref N] = some true := by
  obtain ⟨_, h2⟩ := Bool.and_eq_true_iff.mp h
  obtain ⟨_, h3⟩ := Bool.and_eq_true_iff.mp h2
  exact of_decide_eq_true h3
/-- an error of the row r, made of ys, of one of the three bases, in flight -/
structure Rsd (K : PySem.W.Frag) (L M N : Addr) (H : Hp) (cls : Value) (d : Option Addr) (r : Str × List Str) (ys : List V) : Prop where
  hand : InHand K H cls d r ys
  any : PySem.W.exmAny K cls [.ref L, .ref M, .ref N] = some true
theorem del_ne {H : Hp} {a b : Addr} (h : b ≠ a) : del H a b = H b := if_neg h
/-- what is left to be shown where an own error is raised -/
theorem raise_end {K : PySem.W.Frag} {C L M N a dx : Addr} {c : Str} {fs : List Str} {G G2 : Hp} {ys : List V} {E : XK} (T : XC K C) (q : xqB K C L M N fs = true) (hr : (c, fs) ∈ rows) (hl : ys.length = fs.length) (ha : G a = none)
    (D : InitD (upd G a (exo a C none)) G2 a C dx (mkF (c, fs) ys)) (k : ∀ cls d H', Rsd K L M N H' cls d (c, fs) ys → Same G H' → E cls d H') :
    ∃ (d : Addr) (fs : List (Str × V)), G2 a = some (exo a C (some d)) ∧ G2 d = some (exd d fs) ∧ G d = none ∧ E (.ref C) (some d) (upd (del G2 a) d (.xd fs)) := by
  have hd : G dx = none := by
    have := D.fr
    rwa [upd_ne D.ne] at this
  refine ⟨dx, _, D.oa, D.od, hd, k _ _ _ ⟨⟨C, dx, rfl, rfl, T, xq_nof q, hr, hl, upd_same⟩, xq_any q⟩ fun b o hb => ?_⟩
  have b1 : b ≠ a := ne_of_none hb ha
  have b2 : b ≠ dx := ne_of_none hb hd
  rw [upd_ne b2, del_ne b1, D.el b b1 b2, upd_ne b1]
  exact hb
theorem raise_full {K : PySem.W.Frag} {C L M N : Addr} {c : Str} {fs : List Str} {G : Hp} {ys : List V} {E : XK} (T : XC K C) (q : xqB K C L M N fs = true) (hr : (c, fs) ∈ rows) (hl : ys.length = fs.length) (k : ∀ cls d H', Rsd K L M N H' cls d (c, fs) ys → Same G H' → E cls d H') :
    ys.length ≤ 1000 ∧ ∀ a, G a = none → spI K C (c, fs) (.ref a :: ys) (upd G a (exo a C none))
      (fun v G2 => v = .non ∧ ∃ (d : Addr) (fs : List (Str × V)), G2 a = some (exo a C (some d)) ∧ G2 d = some (exd d fs) ∧ G d = none ∧ E (.ref C) (some d) (upd (del G2 a) d (.xd fs))) (fun _ _ _ => False) := by
  refine ⟨?_, fun a ha => ⟨a, ys, rfl, hl, upd_same, fun dx H' D => ⟨rfl, raise_end T q hr hl ha D k⟩⟩⟩
  rw [hl]
  have h2 : rows.all (fun r => decide (r.2.length ≤ 1000)) = true := by decide +kernel
  exact of_decide_eq_true (List.all_eq_true.mp h2 _ hr)
end Bl
namespace Bl
open PySem L2
def noT (H : Hp) : Hp := fun b => match H b with
  | some (.tbl _) => none
  | o => o
theorem noT_le {H : Hp} : Same (noT H) H := fun b o h => by
  unfold noT at h
  split at h
  · cases h
  · exact h
theorem noT_of {H : Hp} {b : Addr} {o : HO} (h : H b = some o) (n : ∀ ps, o ≠ .tbl ps) : noT H b = some o := by
  unfold noT
  split
  · rename_i ps e
    rw [h] at e
    exact absurd (Option.some.inj e) (n ps)
  · exact h
theorem noT_no {H : Hp} {b : Addr} {o : HO} (h : noT H b = some o) : ∀ ps, o ≠ .tbl ps := fun ps e => by
  subst e
  unfold noT at h
  split at h
  · cases h
  · rename_i hn
    exact hn ps h
/-- all but the box at p and the tables -/
def hn (p : Addr) (H : Hp) : Hp := hide p (noT H)
abbrev Kp (p : Addr) (H H' : Hp) : Prop := Same (hn p H) (hn p H')
theorem Kp.but {p : Addr} {H H' : Hp} (e : But p H H') : Kp p H H' := fun b o h => by
  unfold hn at h ⊢
  by_cases f : b = p
  · subst f
    rw [hide_at] at h
    cases h
  · rw [hide_ne f] at h ⊢
    have h1 := e b o (by rw [hide_ne f]; exact noT_le _ _ h)
    rw [hide_ne f] at h1
    exact noT_of h1 (noT_no h)
theorem Kp.of {p : Addr} {H H' : Hp} (e : Same H H') : Kp p H H' := Kp.but (But.of e)
theorem Kp.new {p q : Addr} {H : Hp} (h : H q = none) (o : HO) : Kp p H (upd H q o) := Kp.of (same_new h o)
theorem Kp.ext {p : Addr} {H H' : Hp} (e : LamX.ExtN H H') : Kp p H H' := fun b o h => by
  unfold hn at h ⊢
  by_cases f : b = p
  · subst f
    rw [hide_at] at h
    cases h
  · rw [hide_ne f] at h ⊢
    exact noT_of (e b o (noT_le _ _ h) (noT_no h)) (noT_no h)
theorem BoxAt.ext {H H' : Hp} {p l : Addr} (b : BoxAt H p l) (e : LamX.ExtN H H') : BoxAt H' p l := by
  obtain ⟨ns, i, w, m, c, hp, hl, r⟩ := b
  have h1 : l ≠ p := by
    rintro rfl
    rw [hide_at] at hl
    cases hl
  rw [hide_ne h1] at hl
  exact ⟨ns, i, w, m, c, e _ _ hp (fun _ h => nomatch h), by rw [hide_ne h1]; exact e _ _ hl (fun _ h => nomatch h), r⟩
def lamQ : Str := "law.<locals>.<lambda>"
theorem lam_mem {P : Addr} {q r : Str} (h : q = r) : (P, q) ∈ [(P, r)] := by
  rw [h]
  exact List.mem_singleton.mpr rfl
theorem lam_only {P : Addr} {q r : Str} (h : r = q) : ∀ p ∈ [(P, r)], p.1 = P → p.2 = q := fun p hp _ => by
  rw [List.mem_singleton.mp hp]
  exact h
theorem passes_lamE {X : Cx} {P : Program} {w : World} {A : Around} {outer : List Env} {s : Shared} {H : Hp} {E : XK} {scope : Scope} {f c' : Addr} (h1 : X.prog = P) (h2 : X.w = w) : Passes (L2.CX P w) (LamX.lamCx X A outer s H E scope f c') E := by
  subst h1
  subst h2
  exact passes_lam
end Bl
namespace Bl
open PySem L2 PySem.Spec PyProof.Rows
section
variable {X : Cx} {CX : CXT} {k : Nat} {C f : Addr} {fd : FuncData} {ps ks : List Str} {sp : Sp} {E : XK} {o e : Expr} {es : List Expr} {kws : List Keyword} {m : Str} {pos apos : Pos} {ta : TE} {t tk : TA}
  {g : List Value → List Value → List Value} {gV : List V → List V → List V}
/-- a field, within a comprehension -/
theorem pe_fldC {K : PySem.W.Frag} (hK : X.K = K) (he : PE X e ta) (hb : attributeBase e m X.env (eval e X.env) = eval e X.env := by rfl) : PE X (.Attribute e m pos) (tFld K ta m) := by
  subst hK
  exact pe_fld he hb
end
end Bl
namespace Bl
open PySem L2
/-- all but what stands at some places is as it was -/
def Fr (S : List Addr) (H H' : Hp) : Prop := ∀ b o, H b = some o → b ∉ S → H' b = some o
theorem Fr.of {S : List Addr} {H H' : Hp} (h : Same H H') : Fr S H H' := fun b o e _ => h b o e
theorem Fr.trans {S : List Addr} {H G H' : Hp} (a : Fr S H G) (b : Fr S G H') : Fr S H H' := fun x o e n => b x o (a x o e n) n
theorem Fr.sub {S T : List Addr} {H H' : Hp} (a : Fr S H H') (h : ∀ x ∈ S, x ∈ T) : Fr T H H' := fun x o e n => a x o e fun k => n (h x k)
theorem Fr.put {S : List Addr} {H H' : Hp} {p : Addr} {o : HO} (a : Fr S H H') (h : p ∈ S) : Fr S H (upd H' p o) := fun x u e n => by
  rw [upd_ne (by
    rintro rfl
    exact n h)]
  exact a x u e n
theorem Fr.new {S : List Addr} {H H' : Hp} {p : Addr} {o : HO} (a : Fr S H H') (h : H' p = none) : Fr S H (upd H' p o) := fun x u e n => by
  have := a x u e n
  rw [upd_ne (ne_of_none this h)]
  exact this
theorem Fr.free {S : List Addr} {H H' : Hp} {a : Addr} (f : Fr S H H') (h : H' a = none) (n : a ∉ S) : H a = none := by
  cases e : H a with
  | none => rfl
  | some o => rw [f a o e n] at h; cases h
end Bl
namespace Bl
open PySem L2
abbrev Row := List (Str × Str)
/-- a row as a dict -/
def rowK (r : Row) : List (Key × V) := r.map fun q => (Sum.inr q.1, V.str q.2)
structure LFt where
  (dx th ro si un : Addr)
structure LSt where
  things : List (List Str)
  rows : List Row
  sides : List Str
  undone : List (Row × Str)
def LFt.fs (f : LFt) : List (Str × V) := [("_things", .ref f.th), ("_rows", .ref f.ro), ("_sides", .ref f.si), ("_undone", .ref f.un)]
/-- the places of a ledger that its methods write -/
def LFt.wr (f : LFt) (p : Addr) : List Addr := [p, f.ro, f.si, f.un]
def LFt.all (f : LFt) (p : Addr) : List Addr := [p, f.th, f.ro, f.si, f.un]
def ThOk (K : PySem.W.Frag) (H : Hp) (t : Addr) (ns : List Str) : Prop := SqT K H t (ns.map V.str)
def LRowOk (H : Hp) (r : Addr) (w : Row) : Prop := H r = some (.dK (rowK w))
def UndOk (K : PySem.W.Frag) (H : Hp) (u : Addr) (x : Row × Str) : Prop := ∃ r, SqT K H u [.ref r, .str x.2] ∧ LRowOk H r x.1
structure LedAt (K : PySem.W.Frag) (C : Addr) (H : Hp) (p : Addr) (f : LFt) (L : LSt) : Prop where
  ins : H p = some (.ins C f.dx f.fs)
  th : ∃ ts : List Addr, H f.th = some (.lst (ts.map V.ref)) ∧ Paired (ThOk K H) ts L.things
  ro : ∃ rs : List Addr, H f.ro = some (.lst (rs.map V.ref)) ∧ Paired (LRowOk H) rs L.rows
  si : H f.si = some (.lst (L.sides.map V.str))
  un : ∃ us : List Addr, H f.un = some (.lst (us.map V.ref)) ∧ Paired (UndOk K H) us L.undone
  nd : (f.all p).Nodup
theorem LRowOk.mono {H H' : Hp} {r : Addr} {w : Row} (e : Same H H') (h : LRowOk H r w) : LRowOk H' r w := e _ _ h
theorem ThOk.mono {K : PySem.W.Frag} {H H' : Hp} {r : Addr} {w : List Str} (e : Same H H') (h : ThOk K H r w) : ThOk K H' r w := Same.tup e h
theorem UndOk.mono {K : PySem.W.Frag} {H H' : Hp} {r : Addr} {w : Row × Str} (e : Same H H') (h : UndOk K H r w) : UndOk K H' r w := let ⟨r, a, b⟩ := h; ⟨r, Same.tup e a, b.mono e⟩
theorem prMp {α β : Type} {R S : α → β → Prop} {l : List α} {m : List β} (p : PySem.Paired R l m) (h : ∀ a b, R a b → S a b) : PySem.Paired S l m := L2.Paired.mapP p h
theorem LedAt.mono {K : PySem.W.Frag} {C p : Addr} {H H' : Hp} {f : LFt} {L : LSt} (e : Same H H') (h : LedAt K C H p f L) : LedAt K C H' p f L :=
  ⟨e _ _ h.ins, let ⟨ts, a, b⟩ := h.th; ⟨ts, e _ _ a, prMp b fun _ _ x => x.mono e⟩, let ⟨ts, a, b⟩ := h.ro; ⟨ts, e _ _ a, prMp b fun _ _ x => x.mono e⟩, e _ _ h.si, let ⟨ts, a, b⟩ := h.un; ⟨ts, e _ _ a, prMp b fun _ _ x => x.mono e⟩, h.nd⟩
/-- a list or an instance -/
def ListIns (H : Hp) (x : Addr) : Prop := (∃ xs, H x = some (.lst xs)) ∨ ∃ C dx fs, H x = some (.ins C dx fs)
theorem fr_tup {K : PySem.W.Frag} {S : List Addr} {H H' : Hp} {t : Addr} {xs : List V} (e : Fr S H H') (hS : ∀ x ∈ S, ListIns H x) (h : SqT K H t xs) : SqT K H' t xs := by
  have key : ∀ o, H t = some o → (∀ xs, o ≠ .lst xs) → (∀ C dx fs, o ≠ .ins C dx fs) → H' t = some o := fun o ho n1 n2 => e t o ho fun hm => by
    rcases hS t hm with ⟨ys, h1⟩ | ⟨C, dx, fs, h1⟩
    · rw [ho] at h1
      exact n1 _ (Option.some.inj h1)
    · rw [ho] at h1
      exact n2 _ _ _ (Option.some.inj h1)
  rcases h with (h | ⟨o, h⟩) | h
  · exact .inl (.inl (key _ h (fun _ z => nomatch z) fun _ _ _ z => nomatch z))
  · exact .inl (.inr ⟨o, key _ h (fun _ z => nomatch z) fun _ _ _ z => nomatch z⟩)
  · exact .inr h
theorem fr_dk {S : List Addr} {H H' : Hp} {t : Addr} {kvs : List (Key × V)} (e : Fr S H H') (hS : ∀ x ∈ S, ListIns H x) (h : H t = some (.dK kvs)) : H' t = some (.dK kvs) := e t _ h fun hm => by
  rcases hS t hm with ⟨ys, h1⟩ | ⟨C, dx, fs, h1⟩
  · rw [h] at h1
    cases h1
  · rw [h] at h1
    cases h1
theorem fr_th {K : PySem.W.Frag} {S : List Addr} {H H' : Hp} (e : Fr S H H') (hS : ∀ x ∈ S, ListIns H x) {ts : List Addr} {ws : List (List Str)} (h : Paired (ThOk K H) ts ws) : Paired (ThOk K H') ts ws := prMp h fun _ _ x => fr_tup e hS x
theorem fr_ro {S : List Addr} {H H' : Hp} (e : Fr S H H') (hS : ∀ x ∈ S, ListIns H x) {ts : List Addr} {ws : List Row} (h : Paired (LRowOk H) ts ws) : Paired (LRowOk H') ts ws := prMp h fun _ _ x => fr_dk e hS x
theorem fr_un {K : PySem.W.Frag} {S : List Addr} {H H' : Hp} (e : Fr S H H') (hS : ∀ x ∈ S, ListIns H x) {ts : List Addr} {ws : List (Row × Str)} (h : Paired (UndOk K H) ts ws) : Paired (UndOk K H') ts ws :=
  prMp h fun _ _ x => let ⟨r, a, b⟩ := x; ⟨r, fr_tup e hS a, fr_dk e hS b⟩
/-- another ledger's change -/
theorem LedAt.frame {K : PySem.W.Frag} {C p : Addr} {S : List Addr} {H H' : Hp} {f : LFt} {L : LSt} (h : LedAt K C H p f L) (e : Fr S H H') (hS : ∀ x ∈ S, ListIns H x) (hn : ∀ x ∈ f.all p, x ∉ S) : LedAt K C H' p f L := by
  have m : ∀ x ∈ f.all p, ∀ o, H x = some o → H' x = some o := fun x hx o ho => e x o ho (hn x hx)
  refine ⟨m _ (by simp [LFt.all]) _ h.ins, ?_, ?_, m _ (by simp [LFt.all]) _ h.si, ?_, h.nd⟩
  · obtain ⟨ts, a, b⟩ := h.th
    exact ⟨ts, m _ (by simp [LFt.all]) _ a, fr_th e hS b⟩
  · obtain ⟨ts, a, b⟩ := h.ro
    exact ⟨ts, m _ (by simp [LFt.all]) _ a, fr_ro e hS b⟩
  · obtain ⟨ts, a, b⟩ := h.un
    exact ⟨ts, m _ (by simp [LFt.all]) _ a, fr_un e hS b⟩
theorem LedAt.li {K : PySem.W.Frag} {C p : Addr} {H : Hp} {f : LFt} {L : LSt} (h : LedAt K C H p f L) : ∀ x ∈ f.all p, ListIns H x := by
  intro x hx
  simp only [LFt.all, List.mem_cons, List.not_mem_nil, or_false] at hx
  rcases hx with rfl | rfl | rfl | rfl | rfl
  · exact .inr ⟨_, _, _, h.ins⟩
  · exact .inl ⟨_, h.th.choose_spec.1⟩
  · exact .inl ⟨_, h.ro.choose_spec.1⟩
  · exact .inl ⟨_, h.si⟩
  · exact .inl ⟨_, h.un.choose_spec.1⟩
theorem LFt.wr_all {f : LFt} {p x : Addr} (h : x ∈ f.wr p) : x ∈ f.all p := by
  simp only [LFt.wr, LFt.all, List.mem_cons, List.not_mem_nil, or_false] at h ⊢
  rcases h with h | h | h | h <;> simp [h]
theorem pf_ne {x z : Str} {v y : V} {l : List (Str × V)} (h : ¬ z = x) : putF x y ((z, v) :: l) = (z, v) :: putF x y l := by
  show (if z = x then _ else _) = _
  rw [if_neg h]
theorem LFt.made {a b c d dx : Addr} : putF "_undone" (.ref d) (putF "_sides" (.ref c) (putF "_rows" (.ref b) (putF "_things" (.ref a) []))) = (⟨dx, a, b, c, d⟩ : LFt).fs := by
  show putF "_undone" (.ref d) (putF "_sides" (.ref c) (putF "_rows" (.ref b) [(("_things" : Str), V.ref a)])) = _
  rw [pf_ne (by decide +kernel)]
  show putF "_undone" (.ref d) (putF "_sides" (.ref c) [(("_things" : Str), V.ref a), ("_rows", V.ref b)]) = _
  rw [pf_ne (by decide +kernel), pf_ne (by decide +kernel)]
  show putF "_undone" (.ref d) [(("_things" : Str), V.ref a), ("_rows", V.ref b), ("_sides", V.ref c)] = _
  rw [pf_ne (by decide +kernel), pf_ne (by decide +kernel), pf_ne (by decide +kernel)]
  rfl
theorem LedAt.ne {K : PySem.W.Frag} {C p : Addr} {H : Hp} {f : LFt} {L : LSt} (h : LedAt K C H p f L) : p ≠ f.th ∧ p ≠ f.ro ∧ p ≠ f.si ∧ p ≠ f.un ∧ f.th ≠ f.ro ∧ f.th ≠ f.si ∧ f.th ≠ f.un ∧ f.ro ≠ f.si ∧ f.ro ≠ f.un ∧ f.si ≠ f.un := by
  have := h.nd
  simp only [LFt.all, List.nodup_cons, List.mem_cons, List.not_mem_nil, or_false, not_or, List.nodup_nil, not_false_eq_true, and_true] at this
  obtain ⟨⟨a, b, c, d⟩, ⟨e, g, i⟩, ⟨j, k⟩, l⟩ := this
  exact ⟨a, b, c, d, e, g, i, j, k, l⟩
/-- tracked -/
def Tr (H : Hp) (W : List Addr) : Prop := ∀ x ∈ W, ∃ o, H x = some o
def Out (W S : List Addr) : Prop := ∀ x ∈ W, x ∉ S
theorem Tr.cons {H : Hp} {W : List Addr} {x : Addr} {o : HO} (h : H x = some o) (t : Tr H W) : Tr H (x :: W) := fun y hy => by
  rcases List.mem_cons.mp hy with rfl | hy
  · exact ⟨o, h⟩
  · exact t y hy
theorem Tr.nil {H : Hp} : Tr H [] := fun _ h => nomatch h
theorem Tr.app {H : Hp} {W V : List Addr} (h : Tr H W) (k : Tr H V) : Tr H (W ++ V) := fun y hy => (List.mem_append.mp hy).elim (h y) (k y)
theorem Tr.mono {H H' : Hp} {W : List Addr} (h : Tr H W) (e : Same H H') : Tr H' W := fun y hy => let ⟨o, q⟩ := h y hy; ⟨o, e _ _ q⟩
theorem Tr.fr {H H' : Hp} {W S : List Addr} (h : Tr H W) (e : Fr S H H') (n : Out W S) : Tr H' W := fun y hy => let ⟨o, q⟩ := h y hy; ⟨o, e _ _ q (n y hy)⟩
theorem LedAt.tr {K : PySem.W.Frag} {C p : Addr} {H : Hp} {f : LFt} {L : LSt} (h : LedAt K C H p f L) : Tr H (f.all p) := fun x hx => by
  rcases h.li x hx with ⟨xs, e⟩ | ⟨C, dx, fs, e⟩
  · exact ⟨_, e⟩
  · exact ⟨_, e⟩
theorem Out.fresh {H : Hp} {W S : List Addr} (t : Tr H W) (d : ∀ x ∈ S, H x = none) : Out W S := fun x hx hs => by
  obtain ⟨o, e⟩ := t x hx
  rw [d x hs] at e
  cases e
theorem Out.wr {W : List Addr} {f : LFt} {p : Addr} (h : Out W (f.all p)) : Out W (f.wr p) := fun x hx hs => h x hx (LFt.wr_all hs)
theorem Out.un {H : Hp} {W : List Addr} {f : LFt} {p au : Addr} (t : Tr H W) (h : H au = none) (o : Out W (f.wr p)) : Out W (({ f with un := au } : LFt).wr p) := fun x hx hs => by
  simp only [LFt.wr, List.mem_cons, List.not_mem_nil, or_false] at hs
  have hn := o x hx
  simp only [LFt.wr, List.mem_cons, List.not_mem_nil, or_false, not_or] at hn
  rcases hs with k | k | k | k
  · exact hn.1 k
  · exact hn.2.1 k
  · exact hn.2.2.1 k
  · subst k
    obtain ⟨_, e⟩ := t _ hx
    rw [h] at e
    cases e
theorem Out.cons {W S : List Addr} {x : Addr} (h : x ∉ S) (o : Out W S) : Out (x :: W) S := fun y hy => by
  rcases List.mem_cons.mp hy with rfl | hy
  · exact h
  · exact o y hy
theorem Out.sub {W V S : List Addr} (o : Out W S) (h : ∀ x ∈ V, x ∈ W) : Out V S := fun y hy => o y (h y hy)
theorem LedAt.fr {K : PySem.W.Frag} {C p q : Addr} {H H' : Hp} {f g : LFt} {L M : LSt} (h : LedAt K C H p f L) (o : LedAt K C H q g M) (e : Fr (g.wr q) H H') (d : Out (f.all p) (g.wr q)) : LedAt K C H' p f L :=
  h.frame e (fun x hx => o.li x (LFt.wr_all hx)) d
theorem Out.symm {W S : List Addr} (h : Out W S) : Out S W := fun x hx hw => h x hw hx
theorem Out.app {W V S : List Addr} (h : Out W S) (k : Out V S) : Out (W ++ V) S := fun x hx => (List.mem_append.mp hx).elim (h x) (k x)
/-- one of a ledger's lists is replaced: another ledger stays, so do the box and what else is named -/
structure Kept (S : List Addr) (H H' : Hp) : Prop where
  fr : Fr S H H'
  li : ∀ x ∈ S, ListIns H x
theorem Kept.get {S : List Addr} {H H' : Hp} {x : Addr} {o : HO} (k : Kept S H H') (h : H x = some o) (n : x ∉ S) : H' x = some o := k.fr x o h n
end Bl
namespace Bl
open PySem L2
end Bl
namespace Bl
open PySem L2 PySem.Spec PyProof.Rows
mutual
/-- the value is the key -/
inductive NV (K : PySem.W.Frag) (H : Hp) : NestedKey → V → Prop
  | non : NV K H .none .non
  | int (i : Int) : NV K H (.num i) (.int i)
  | str (z : Str) : NV K H (.text z) (.str z)
  | tup {a : Addr} {vs : List V} {ks : List NestedKey} (h : SqT K H a vs) (k : NVs K H ks vs) : NV K H (.tup ks) (.ref a)
inductive NVs (K : PySem.W.Frag) (H : Hp) : List NestedKey → List V → Prop
  | nil : NVs K H [] []
  | cons {k : NestedKey} {v : V} {ks : List NestedKey} {vs : List V} (h : NV K H k v) (t : NVs K H ks vs) : NVs K H (k :: ks) (v :: vs)
end
mutual
theorem NV.mono {K : PySem.W.Frag} {H H' : Hp} (e : Same H H') : ∀ (k : NestedKey) (v : V), NV K H k v → NV K H' k v
  | .none, _, h => by cases h; exact .non
  | .num _, _, h => by cases h; exact .int _
  | .text _, _, h => by cases h; exact .str _
  | .tup ks, _, h => by
    cases h with
    | tup h1 h2 => exact .tup (Same.tup e h1) (NVs.mono e ks _ h2)
theorem NVs.mono {K : PySem.W.Frag} {H H' : Hp} (e : Same H H') : ∀ (ks : List NestedKey) (vs : List V), NVs K H ks vs → NVs K H' ks vs
  | [], _, h => by cases h; exact .nil
  | k :: ks, _, h => by
    cases h with
    | cons h1 h2 => exact .cons (NV.mono e k _ h1) (NVs.mono e ks _ h2)
end
mutual
theorem NV.tr {K : PySem.W.Frag} {H H' : Hp} (e : ∀ a xs, SqT K H a xs → SqT K H' a xs) : ∀ (k : NestedKey) (v : V), NV K H k v → NV K H' k v
  | .none, _, h => by cases h; exact .non
  | .num _, _, h => by cases h; exact .int _
  | .text _, _, h => by cases h; exact .str _
  | .tup ks, _, h => by
    cases h with
    | tup h1 h2 => exact .tup (e _ _ h1) (NVs.tr e ks _ h2)
theorem NVs.tr {K : PySem.W.Frag} {H H' : Hp} (e : ∀ a xs, SqT K H a xs → SqT K H' a xs) : ∀ (ks : List NestedKey) (vs : List V), NVs K H ks vs → NVs K H' ks vs
  | [], _, h => by cases h; exact .nil
  | k :: ks, _, h => by
    cases h with
    | cons h1 h2 => exact .cons (NV.tr e k _ h1) (NVs.tr e ks _ h2)
end
/-- what is true of the dict's object: xs its keys, the keys' objects, its values -/
def dRaw (P : Program) (w : World) (a : Addr) (xs : List (NestedKey × Addr × Value)) (h : Heap) : Prop :=
  (a == sysModules) = false ∧ ∃ o es ep, h.get? a = some o ∧ o.ExactDict ∧ o.data = .dict es ep ∧ es.toList = xs.map (entryOfKey (nestedKind P w)) ∧ (xs.map (·.1)).Nodup
def NO (P : Program) (w : World) (a : Addr) (xs : List (NestedKey × Addr × Value)) : HO := .ext (dRaw P w a xs)
abbrev KN (K : PySem.W.Frag) (H : Hp) : List (NestedKey × V) → List (NestedKey × Addr × Value) → Prop :=
  PySem.Paired fun p q => p.1 = q.1 ∧ (NV K H p.1 (.ref q.2.1) ∧ p.1.depth ≤ 8) ∧ RelV p.2 q.2.2
/-- a dict with the pairs kvs; Rd: it may be locked -/
def ND (P : Program) (w : World) (K : PySem.W.Frag) (H : Hp) (a : Addr) (kvs : List (NestedKey × V)) : Prop := kvs.length ≤ 100000 ∧ ∃ xs, H a = some (NO P w a xs) ∧ KN K H kvs xs
def NDr (P : Program) (w : World) (K : PySem.W.Frag) (H : Hp) (a : Addr) (kvs : List (NestedKey × V)) : Prop := kvs.length ≤ 100000 ∧ ∃ xs, Rd H a (NO P w a xs) ∧ KN K H kvs xs
theorem ND.r {P : Program} {w : World} {K : PySem.W.Frag} {H : Hp} {a : Addr} {kvs : List (NestedKey × V)} (h : ND P w K H a kvs) : NDr P w K H a kvs := ⟨h.1, let ⟨xs, e, k⟩ := h.2; ⟨xs, .inl e, k⟩⟩
theorem KN.mono {K : PySem.W.Frag} {H H' : Hp} (e : Same H H') {kvs : List (NestedKey × V)} {xs : List (NestedKey × Addr × Value)} (h : KN K H kvs xs) : KN K H' kvs xs :=
  L2.Paired.mapP h fun _ _ ⟨a, ⟨b, d⟩, c⟩ => ⟨a, ⟨NV.mono e _ _ b, d⟩, c⟩
theorem ND.mono {P : Program} {w : World} {K : PySem.W.Frag} {H H' : Hp} {a : Addr} {kvs : List (NestedKey × V)} (e : Same H H') (h : ND P w K H a kvs) : ND P w K H' a kvs := ⟨h.1, let ⟨xs, q, k⟩ := h.2; ⟨xs, e _ _ q, KN.mono e k⟩⟩
theorem NDr.mono {P : Program} {w : World} {K : PySem.W.Frag} {H H' : Hp} {a : Addr} {kvs : List (NestedKey × V)} (e : Same H H') (h : NDr P w K H a kvs) : NDr P w K H' a kvs :=
  ⟨h.1, let ⟨xs, q, k⟩ := h.2; ⟨xs, q.elim (fun q => .inl (e _ _ q)) fun ⟨o, q⟩ => .inr ⟨o, e _ _ q⟩, KN.mono e k⟩⟩
section
variable {K : PySem.W.Frag} {H : Hp}
theorem kn_at {kvs : List (NestedKey × V)} {xs : List (NestedKey × Addr × Value)} (h : KN K H kvs xs) (k : NestedKey) : RelO (valV kvs k) ((atKey xs k).map (·.2)) := by
  induction h with
  | nil => exact True.intro
  | @cons p q ps qs hq t ih =>
    by_cases e : p.1 = k
    · rw [valV_pos e]
      have e2 : q.1 = k := hq.1 ▸ e
      have : atKey (q :: qs) k = some q.2 := by simp [atKey, List.find?_cons, e2]
      rw [this]
      exact hq.2.2
    · rw [valV_neg e]
      have e2 : ¬ q.1 = k := hq.1 ▸ e
      have : atKey (q :: qs) k = atKey qs k := by simp [atKey, List.find?_cons, e2]
      rw [this]
      exact ih
end
theorem KN.tr {K : PySem.W.Frag} {H H' : Hp} (e : ∀ a xs, SqT K H a xs → SqT K H' a xs) {kvs : List (NestedKey × V)} {xs : List (NestedKey × Addr × Value)} (h : KN K H kvs xs) : KN K H' kvs xs :=
  L2.Paired.mapP h fun _ _ ⟨a, ⟨b, d⟩, c⟩ => ⟨a, ⟨NV.tr e _ _ b, d⟩, c⟩
theorem KN.repl {K : PySem.W.Frag} {H : Hp} {kvs : List (NestedKey × V)} {xs : List (NestedKey × Addr × Value)} (r : KN K H kvs xs) (k : NestedKey) {y : V} {u : Value} (ry : RelV y u) :
    KN K H (kvs.map fun kv => if kv.1 = k then (kv.1, y) else kv) (xs.map (putAt k u)) := by
  induction r with
  | nil => exact .nil
  | @cons p q ps qs h t ih =>
    rw [List.map_cons, List.map_cons]
    refine .cons ?_ ih
    obtain ⟨h1, h2, h3⟩ := h
    unfold putAt
    by_cases e : p.1 = k
    · rw [if_pos e, if_pos (h1.symm.trans e)]; exact ⟨h1, h2, ry⟩
    · rw [if_neg e, if_neg (fun z => e (h1.trans z))]; exact ⟨h1, h2, h3⟩
theorem KN.put {K : PySem.W.Frag} {H : Hp} {kvs : List (NestedKey × V)} {xs : List (NestedKey × Addr × Value)} (r : KN K H kvs xs) (k : NestedKey) {b : Addr} {y : V} {u : Value} (hb : NV K H k (.ref b)) (hd : k.depth ≤ 8) (ry : RelV y u) :
    KN K H (putK kvs k y) (storedH xs k b u) := by
  have e : (kvs.any fun kv => decide (kv.1 = k)) = (atKey xs k).isSome := by
    rw [valV_any, (kn_at r k).isSome_eq, Option.isSome_map]
  unfold putK storedH
  rw [e]
  by_cases q : (atKey xs k).isSome = true
  · rw [if_pos q, if_pos q]; exact r.repl k ry
  · rw [if_neg q, if_neg q]; exact Paired.snoc r ⟨rfl, ⟨hb, hd⟩, ry⟩
section
variable {X : Cx} {o i e f value : Expr} {pos pos' apos cpos : Pos} {td ty tv tx : TE}
theorem big {n : Nat} (h : n ≤ 100000) : n ≤ sizeLine := small (by omega)
end
end Bl
namespace Bl
open PySem L2
def look (r : Row) (f : Str) : Option Str := (r.find? fun q => decide (q.1 = f)).map (·.2)
end Bl
namespace Bl
open PySem PySem.Spec PyProof.Rows L2
/-- the different ones among the first i -/
def nDiff (xs : List Str) : Nat → Nat
  | 0 => 0
  | i + 1 => if ((xs.take i).any (· == xs.getD i Str.empty)) = true then nDiff xs i else nDiff xs i + 1
theorem nDiff_le (xs : List Str) : ∀ i, nDiff xs i ≤ i
  | 0 => Nat.le_refl _
  | i + 1 => by
    have := nDiff_le xs i
    unfold nDiff
    split <;> omega
theorem take_any {xs : List Str} {i : Nat} (h : i < xs.length) (k : Str) : (xs.take (i + 1)).any (· == k) = ((xs.take i).any (· == k) || decide (k = xs.getD i Str.empty)) := by
  rw [List.take_add_one, List.getElem?_eq_getElem h, List.any_append, List.getD_eq_getElem?_getD, List.getElem?_eq_getElem h]
  congr 1
  show (xs[i] == k || false) = decide (k = xs[i])
  rw [Bool.or_false]
  by_cases e : k = xs[i]
  · rw [e, decide_eq_true rfl]
    exact beq_self_eq_true _
  · rw [decide_eq_false e]
    exact beq_eq_false_iff_ne.mpr fun h => e h.symm
/-- as many as there are, where none stands twice -/
theorem nDiff_nodup {xs : List Str} (nd : xs.Nodup) : ∀ i, i ≤ xs.length → nDiff xs i = i
  | 0, _ => rfl
  | i + 1, h => by
    have hi : i < xs.length := h
    unfold nDiff
    rw [nDiff_nodup nd i (by omega), if_neg]
    rw [List.any_eq_true]
    rintro ⟨x, hx, e⟩
    have e1 : x = xs[i] := by
      have := eq_of_beq e
      rw [this, List.getD_eq_getElem?_getD, List.getElem?_eq_getElem hi]
      rfl
    obtain ⟨j, hj, e2⟩ := List.getElem_of_mem hx
    rw [List.length_take] at hj
    rw [List.getElem_take] at e2
    have := (List.getElem_inj nd).mp (e2.trans e1)
    omega
theorem nDiff_lt {xs : List Str} : ∀ i, i ≤ xs.length → (∃ a b, a < b ∧ b < i ∧ xs.getD a Str.empty = xs.getD b Str.empty) → nDiff xs i < i
  | 0, _, ⟨a, b, h1, h2, _⟩ => by omega
  | i + 1, h, ⟨a, b, h1, h2, h3⟩ => by
    have := nDiff_le xs i
    unfold nDiff
    by_cases e : b = i
    · subst e
      rw [if_pos]
      · omega
      · rw [List.any_eq_true]
        have ha : a < xs.length := by omega
        refine ⟨xs[a], ?_, ?_⟩
        · refine List.mem_iff_getElem.mpr ⟨a, by rw [List.length_take]; omega, by rw [List.getElem_take]⟩
        · rw [← h3, List.getD_eq_getElem?_getD, List.getElem?_eq_getElem ha]
          exact beq_self_eq_true _
    · have := nDiff_lt i (by omega) ⟨a, b, h1, by omega, h3⟩
      split <;> omega
section
variable {prog : Program} {w : World} {A : Around} {R : Result → Shared → Prop} {it : Addr} {fp wr : List Addr} {G : Array GenState → Array GenState → Prop} {n : Nat} {P : Nat → Value → Prop} {St : Nat → Shared → Prop}
/-- the loop that puts the items in -/
theorem put_all (W : WalksS prog w A.in1 it fp wr G n P St) (S : Addr) (out : S ∉ fp) (xs : List Str) (hx : xs.length = n) (small : n + 1 < scanBound) (hv : ∀ i v, P i v → ∃ t, v = .str (xs.getD i Str.empty) t) (m : Nat) :
    ∀ (i : Nat) (s : Shared), n - i = m → i ≤ n → St i s → s.heap.SetOf (PySem.strKind prog w) S (fun k => (xs.take i).any (· == k)) (nDiff xs i) →
      (∀ s', Moved (S :: wr) G s s' → s'.heap.SetOf (PySem.strKind prog w) S (fun k => (xs.take n).any (· == k)) (nDiff xs n) → R (.ok (.ret .none)) s') → codeAny (model prog w) A (.builtin "set.update.loop" ⟨[.ref S, .ref it], []⟩) R s := by
  have outw : S ∉ wr := fun h => out (W.sub _ h)
  have keep : ∀ {s s' : Shared} {T : Str → Bool} {c : Nat}, Moved wr G s s' → s.heap.SetOf (PySem.strKind prog w) S T c → s'.heap.SetOf (PySem.strKind prog w) S T c := fun mv ⟨o, es, ep, t, ho, r⟩ => ⟨o, es, ep, t, mv.heap S _ outw ho, r⟩
  have more : ∀ b ∈ wr, b ∈ S :: wr := fun b hb => List.mem_cons_of_mem _ hb
  induction m with
  | zero =>
    intro i s hm hi st hS k
    obtain rfl : i = n := by omega
    refine codeAny_builtin PyProof.Rows.F.entry_set_update_loop ?_
    rw [Around.under_plainId PyProof.Rows.F.plain_set_update_loop _]
    exact wpAny_bind (W.done s _ _ st fun s' mv => wpAny_pure (k s' (mv.mono more) (keep mv hS)))
  | succ m ih =>
    intro i s hm hi st hS k
    have hlt : i < n := by omega
    refine codeAny_builtin PyProof.Rows.F.entry_set_update_loop ?_
    rw [Around.under_plainId PyProof.Rows.F.plain_set_update_loop _]
    refine wpAny_bind (W.item i s _ _ hlt st fun v s' hP st' mv => ?_)
    obtain ⟨t, rfl⟩ := hv i v hP
    have hS' := keep mv hS
    have hle := nDiff_le xs i
    show wpAny _ A.in1 (holding [Value.str (xs.getD i Str.empty) t] (setAdd S (.str (xs.getD i Str.empty) t)) >>= _) _ _ s'
    refine wpAny_bind (wpAny_holding ?_)
    unfold setAdd
    refine wpAny_holding (wpAny_bind ((PySem.strKind prog w).pyHash (k := xs.getD i Str.empty) (strKind_is _ _ _ _) ?_))
    refine wpAny_setAddHashed_of (knd := PySem.strKind prog w) (s := { s' with toks := s'.toks + 1 }) (strKind_is _ _ _ _) rfl hS' (by omega) fun h' but hS2 => ?_
    have hS3 : h'.SetOf (PySem.strKind prog w) S (fun k => (xs.take (i + 1)).any (· == k)) (nDiff xs (i + 1)) := SetOf_congr hS2 (fun k => (take_any (by omega) k).symm) (by rw [nDiff])
    refine wpAny_pure ⟨plainId_quiet PyProof.Rows.F.plain_set_update_loop _, ih (i + 1) _ (by omega) hlt (W.frame _ s' _ _ st' (Nat.le_succ _) fun b hb o e => ?_) hS3 fun s'' mv2 hS4 => k s'' (Moved.trans W.gtrans ((mv.mono more).then_heap (Nat.le_succ _) fun b o hb e => ?_) mv2) hS4⟩
    · exact (but.2 b fun h => out (h ▸ hb)).trans e
    · exact (but.2 b fun h => hb (h ▸ List.mem_cons_self)).trans e
end
section
variable {prog : Program} {w : World} {A : Around} {E : Value → Shared → Prop} {s : Shared}
set_option maxHeartbeats 3200000 in
/-- set(t) -/
theorem set_of_tup {l : Addr} {items : Array Value} {xs : List Str} {Q : Value → Shared → Prop} (hh : A.handled = none) (ht : s.heap.IsTuple l items) (hi : PyProof.Rows.StrsAre items.toList xs) (few : xs.length + 1 < scanBound)
    (k : ∀ (h' : Heap) (tk : Nat), h'.SetOf (PySem.strKind prog w) s.heap.objs.size (fun k => (xs.take xs.length).any (· == k)) (nDiff xs xs.length) → (∀ b o, b < s.heap.objs.size → s.heap.get? b = some o → h'.get? b = some o) →
      Q (.ref s.heap.objs.size) { s with heap := h', toks := tk }) : wpAny (model prog w) A (call (.type "set") [.ref l]) Q E s := by
  obtain ⟨c, tl, hmro⟩ := PySem.F.called_set.mro
  have g1 := PySem.F.called_set.made
  have g2 := PySem.F.called_set.sub
  refine wpAny_call (codeAny_of_tree ?_)
  show wpAny _ _ (callAny (.type "set") _) _ _ _
  refine wpAny_pure ⟨Code.quiet_builtin _ (by decide +kernel), codeAny_builtin PySem.F.entry_type_call ?_⟩
  rw [Around.under_plain (weight_type_call_type "set" [.ref l] []) rfl]
  have g3 := PySem.F.called_set.notType
  have g4 := PySem.F.called_set.canCreate
  have g5 := PySem.F.typeCall_set_1 (.ref l)
  repeat (any_goals (first | assumption | wp_step))
  have hsz : xs.length = items.size := by rw [← StrsAre.len_eq hi, Array.length_toList]
  refine codeAny_mono (code_set_new_1 (.ref l) (E := E) (Q₁ := fun v s₁ => ∃ b : Bool, v = .ref s.heap.objs.size ∧ s₁ = { s with heap := s.heap.push { cls := .type "set", dict := none, data := .set #[] 0 (.fresh 0 0 b) } }) fun b => ⟨b, rfl, rfl⟩) fun r s₁ hr => ?_
  match r, hr with
  | .error _, hr => exact hr
  | .ok (.next), hr => exact hr.elim
  | .ok (.brk), hr => exact hr.elim
  | .ok (.cont), hr => exact hr.elim
  | .ok (.ret v), hr =>
    obtain ⟨b, rfl, rfl⟩ := hr
    generalize hp : s.heap.push { cls := .type "set", dict := none, data := .set #[] 0 (.fresh 0 0 b) } = hp1
    have at1 : hp1.get? s.heap.objs.size = some { cls := .type "set", dict := none, data := .set #[] 0 (.fresh 0 0 b) } := by
      rw [← hp]
      exact Heap.get?_push_size _ rfl
    have kp1 : ∀ c o, s.heap.get? c = some o → hp1.get? c = some o := fun c o e => by
      rw [← hp]
      exact Heap.get?_push_of_some _ e
    have sz1 : hp1.objs.size = s.heap.objs.size + 1 := by
      rw [← hp]
      exact Heap.size_push _ _
    have g6 : Shared.TypeIs { s with heap := hp1 } (.ref s.heap.objs.size) "set" := ⟨_, at1, rfl⟩
    have g7 := PySem.F.called_set.init.lookup
    have g8 := PySem.F.called_set.init.bind (.ref s.heap.objs.size)
    repeat (any_goals (first | assumption | wp_step))
    refine codeAny_mono (codeAny_call_builtin (R := wants (fun r s₂ => r = .none ∧ ∃ h' tk, s₂ = { s with heap := h', toks := tk } ∧ h'.SetOf (PySem.strKind prog w) s.heap.objs.size (fun k => (xs.take items.size).any (· == k)) (nDiff xs items.size) ∧
      (∀ b o, b < s.heap.objs.size → s.heap.get? b = some o → h'.get? b = some o)) E) PySem.F.called_set.init.plain PySem.F.entry_set_init (check_set_init_1 g6 ?_)) fun r₂ s₂ hr₂ => ?_
    · obtain ⟨⟨_, od, _, osl⟩, ho, rfl, nl, rfl⟩ := ht
      have lt := Heap.lt_size ho
      have ho1 := kp1 _ _ ho
      have t1 : hp1.IsTuple l items := ⟨_, ho1, rfl, nl, rfl⟩
      have g9 := PySem.F.sub_tuple_set
      have g10 := PySem.F.sub_tuple_frozenset
      have g11 : (Value.type "tuple" == Value.type "dict") = false := by decide
      unfold Builtin.«set.__init__» noKeywords Builtin.Frozenset.updateFrom
      generalize hPI : pyIter = PI
      wp_walk
      subst hPI
      refine wpAny_pyIter_tuple t1 (wpAny_bind (wpAny_runValue ?_))
      have hv : ∀ (i : Nat) (v : Value), items[i]? = some v → ∃ t, v = .str (xs.getD i Str.empty) t := fun i v e => SS.strs_at hi i v (by rw [Array.getElem?_toList]; exact e)
      refine put_all ((Walks.tuple (by simp [hh]) _ l (by rw [sz1]; exact Nat.ne_of_lt (Nat.lt_succ_of_lt lt)) items).toS) s.heap.objs.size (by
        simp only [List.mem_cons, List.not_mem_nil, or_false, not_or]
        exact ⟨by rw [sz1]; exact Nat.ne_of_lt (Nat.lt_succ_self _), Nat.ne_of_gt lt⟩) xs hsz (by rw [← hsz]; exact few) hv (items.size - 0) 0 _ rfl (Nat.zero_le _) ⟨⟨_, Heap.get?_push_size _ rfl, rfl, rfl⟩, t1.push _⟩ ?_ ?_
      · exact SetOf_congr ((setObjOf_fresh (knd := PySem.strKind prog w) b).setOf (Heap.get?_push_of_some _ at1) (by unfold scanBound; omega)) (fun _ => rfl) rfl
      · rintro ⟨h', g', d', tk', os'⟩ mv hS
        obtain rfl : g' = s.gens := mv.gens
        obtain rfl : d' = s.drawn := mv.drawn
        obtain rfl : os' = s.os := mv.os
        refine wpAny_pure ?_
        show wpAny _ _ (ret Value.none) _ _ _
        refine wpAny_pure ⟨rfl, h', tk', rfl, hS, fun c o hc e => mv.heap c o ?_ (Heap.get?_push_of_some _ (kp1 _ _ e))⟩
        simp only [List.mem_cons, List.not_mem_nil, or_false, not_or]
        exact ⟨Nat.ne_of_lt hc, by rw [sz1]; exact Nat.ne_of_lt (Nat.lt_succ_of_lt hc)⟩
    · match r₂, hr₂ with
      | .error _, hr₂ => exact hr₂
      | .ok (.next), hr₂ => exact hr₂.elim
      | .ok (.brk), hr₂ => exact hr₂.elim
      | .ok (.cont), hr₂ => exact hr₂.elim
      | .ok (.ret r), hr₂ =>
        obtain ⟨rfl, h', tk, rfl, hS, hk⟩ := hr₂
        repeat (any_goals (first | assumption | wp_step))
        rw [← hsz] at hS
        exact k _ _ hS hk
end
end Bl
namespace Bl
open PySem L2
end Bl
namespace Bl
open PySem L2
end Bl
namespace Bl
open PySem L2
end Bl
namespace Bl
open PySem PySem.Spec PyProof.Rows L2
end Bl
namespace Bl
open PySem PySem.Spec PyProof.Rows L2
end Bl
namespace Bl
open PySem L2
end Bl
namespace Bl
open PySem PySem.Spec PyProof.Rows L2 LamX
/-- a def's object at f, known as it is -/
def LamO (f : Addr) (ob : Obj) : HO := .ext fun h => h.get? f = some ob
theorem lamO_ne {f : Addr} {ob : Obj} (ps : Array Value) : LamO f ob ≠ .tbl ps := fun z => by
  unfold LamO at z
  cases z
theorem lamO_ok {P : Program} {w : World} {H : Hp} {h : Heap} {f : Addr} {ob : Obj} (e : h.get? f = some ob) : ObjOk P w H h f (LamO f ob) := ⟨e, ⟨ob, e⟩, fun _ _ a st => st _ a⟩
theorem lamO_get {P : Program} {w : World} {H : Hp} {h : Heap} {f : Addr} {ob : Obj} (x : HOk P w H h) (e : H f = some (LamO f ob)) : h.get? f = some ob := (x f _ e).1
section
variable {X : Cx} {pins : List (Addr × Obj)} {σ : L2.St} {H : Hp} {s : Shared}
/-- what is known of a lambda that X's code made -/
def IsLam (X : Cx) (params : Arguments) (body : Expr) (scope : Scope) (H : Hp) (f : Addr) : Prop := ∃ (c' : Addr) (pm ctv : Value),
  H f = some (LamO f (PySem.W.kla_obj "<lambda>" (X.env.qual ++ "<lambda>") params body scope (cloFrom X.env.cells scope.names []) pm c' ctv)) ∧ H c' = some (CodeO c' (X.env.qual ++ "<lambda>"))
theorem IsLam.mono {H' : Hp} {params : Arguments} {body : Expr} {scope : Scope} {f : Addr} (h : IsLam X params body scope H f) (e : ExtN H H') : IsLam X params body scope H' f := by
  obtain ⟨c', pm, ctv, h1, h2⟩ := h
  exact ⟨c', pm, ctv, e _ _ h1 lamO_ne, e _ _ h2 codeO_ne⟩
/-- lambda: body, as a value: the tables may grow, the lambda is known from now on -/
@[irreducible] def tLamV (T : List (Addr × Str)) (L : Hp → Addr → Prop) : TE := fun _ H Q => Tabs T H ∧ ∀ (f : Addr) (H1 : Hp), ExtN H H1 → Tabs T H1 → H f = none → L H1 f → Q (.ref f) H1
/-- the heap without what is known and without the frames -/
def bigB (h : Heap) (H : Hp) (fs : List Addr) : Heap := PySem.W.hideAll h (trk h H ++ fs)
theorem bigB_get {h : Heap} {H : Hp} {fs : List Addr} {b : Addr} {o : Obj} (e : h.get? b = some o) (n : H b = none) (nf : b ∉ fs) : (bigB h H fs).get? b = some o :=
  PySem.W.hideAll_get _ e fun hm => by
    rcases List.mem_append.mp hm with hm | hm
    · have q : (H b).isSome = true := (List.mem_filter.mp hm).2
      rw [n] at q
      cases q
    · exact nf hm
theorem of_bigB {h : Heap} {H : Hp} {fs : List Addr} {b : Addr} {o : Obj} (e : (bigB h H fs).get? b = some o) : h.get? b = some o ∧ H b = none := by
  have e' : h.get? b = some o := PySem.W.of_hideAll _ e
  refine ⟨e', ?_⟩
  cases q : H b with
  | none => rfl
  | some x =>
    have hm : b ∈ trk h H ++ fs := List.mem_append_left _ (List.mem_filter.mpr ⟨List.mem_range.mpr (Heap.lt_size e'), by simp [q]⟩)
    have z : (bigB h H fs).get? b = none := PySem.W.hideAll_none _ hm
    rw [z] at e
    cases e
theorem base_big (I : Inv X pins σ H s) : ∀ b o, X.base.get? b = some o → (bigB s.heap H (frs X.stack)).get? b = some o := fun b o e => by
  obtain ⟨h1, h2⟩ := I.bs b o e
  refine bigB_get h1 h2 fun hb => ?_
  have := (I.stack.mem hb).1
  rw [e] at this
  cases this
theorem mod_big (I : Inv X pins σ H s) : Mod X.K X.mg (bigB s.heap H (frs X.stack)) :=
  ⟨I.mod.kin.keeps (base_big I), I.mod.glob.keeps (base_big I), let ⟨mb, h1, h2⟩ := I.mod.blt; ⟨mb, h1.keeps (base_big I), h2⟩, I.mod.nolimit.keeps (base_big I)⟩
theorem env_big (I : Inv X pins σ H s) : Env0 X.prog X.w X.K X.mg (bigB s.heap H (frs X.stack)) X.A X.stack s H :=
  ⟨I.ok.frames, mod_big I, fun b o e => of_bigB e, Nat.le_of_eq (PySem.W.hideAll_size _ _),
    PySem.W.funFrames_hide I.stack (fun env he a ha => List.mem_append_right _ (List.mem_filterMap.mpr ⟨env, he, ha⟩)), I.stkFree, I.hok, I.bare⟩
/-- what runs over the bigger base runs over the base -/
theorem env_small {A : Around} {outer : List Env} {s1 : Shared} {HZ : Hp} (I : Inv X pins σ H s) (e : Env0 X.prog X.w X.K X.mg (bigB s.heap H (frs X.stack)) A outer s1 HZ) : Env0 X.prog X.w X.K X.mg X.base A outer s1 HZ :=
  ⟨e.frames, I.mod, fun b o h => e.bs b o (base_big I b o h), Nat.le_trans (Nat.le_trans I.ok.bsz I.sz) (by have := e.bsz; rwa [show (bigB s.heap H (frs X.stack)).objs.size = s.heap.objs.size from PySem.W.hideAll_size _ _] at this),
    PySem.W.funFrames_base (base_big I) e.funs, e.frf, e.hok, e.bare⟩
/-- a cell of a def's own is none of the frames -/
theorem cell_nofr (I : Inv X pins σ H s) (hfn : ∀ x, X.fn x = true) {x : Str} {c : Addr} (e : X.env.cells.lookup x = some c) : c ∉ frs X.stack := fun hb => by
  rcases List.mem_cons.mp (I.stkSub c hb) with h | h
  · obtain ⟨v, o, ho, hd⟩ := I.cell x c e
    obtain ⟨m, ⟨o', es, ep, e1, e2, _⟩, _⟩ := I.loc
    rw [← h, ho] at e1
    cases e1
    rw [hd] at e2
    cases e2
  · obtain ⟨_, o, ho, _⟩ := I.ok.funs.mem h
    have h1 := I.ok.cab x c (hfn x) e
    exact Nat.lt_irrefl _ (Nat.lt_of_lt_of_le (Heap.lt_size ho) h1)
end
end Bl
namespace Bl
open PySem PySem.Spec PyProof.Rows L2 LamX
/-- no captured name of its own; its parameters are none of the maker's names -/
structure LamSX (D : List Str) (sc scope : Scope) : Prop where
  kind : scope.kind = .function
  co : scope.isCoroutine = false
  gen : scope.isGenerator = false
  own : ∀ y ∈ scope.names, (y.2 = .local → y.1 ∈ D) ∧ y.2 ≠ .cell
  free : ∀ y ∈ scope.names, y.2 = .free → sc.names.lookup y.1 = some .cell ∨ sc.names.lookup y.1 = some .free
  bnd : ∀ d ∈ D, scope.names.lookup d = some .local
def lamSXB (D : List Str) (sc scope : Scope) : Bool :=
  decide (scope.kind = .function) && !scope.isCoroutine && !scope.isGenerator && (scope.names.all fun y => (!decide (y.2 = .local) || decide (y.1 ∈ D)) && !decide (y.2 = .cell) && (!decide (y.2 = .free) || decide (sc.names.lookup y.1 = some .cell) || decide (sc.names.lookup y.1 = some .free))) && D.all fun d => decide (scope.names.lookup d = some .local)
theorem lamSX_by {D : List Str} {sc scope : Scope} (h : lamSXB D sc scope = true) : LamSX D sc scope := by
  unfold lamSXB at h
  simp only [Bool.and_eq_true, Bool.or_eq_true, Bool.not_eq_true', decide_eq_true_eq, decide_eq_false_iff_not, List.all_eq_true] at h
  obtain ⟨⟨⟨⟨h1, h2⟩, h3⟩, h4⟩, h5⟩ := h
  refine ⟨h1, h2, h3, fun y hy => ⟨fun e => ?_, (h4 y hy).1.2⟩, fun y hy e => ?_, h5⟩
  · rcases (h4 y hy).1.1 with z | z
    · exact absurd e z
    · exact z
  · rcases (h4 y hy).2 with (z | z) | z
    · exact absurd e z
    · exact .inl z
    · exact .inr z
theorem LamSX.has {X : Cx} {D : List Str} {scope : Scope} (L : LamSX D X.env.scope scope) (ok : X.Ok) : ∀ y ∈ scope.names, y.2 = .free → ∃ c, X.env.cells.lookup y.1 = some c := fun y hy e => by
  rcases L.free y hy e with k | k
  · exact ok.has _ (.inl k)
  · exact ok.has _ (.inr k)
/-- what stands as its defaults: none, or a tuple of one 0 -/
def DefAt (H : Hp) (dV : Value) : Bool → Prop
  | false => dV = .none
  | true => ∃ (T : Addr) (tk : Tok), dV = .ref T ∧ H T = some (LamO T (PySem.W.kdv_tup [.int 0 tk]))
theorem DefAt.mono {H H' : Hp} {dV : Value} {nd : Bool} (h : DefAt H dV nd) (e : ExtN H H') : DefAt H' dV nd := by
  cases nd with
  | false => exact h
  | true =>
    obtain ⟨T, tk, h1, h2⟩ := h
    exact ⟨T, tk, h1, e _ _ h2 lamO_ne⟩
section
variable {X : Cx} {pins : List (Addr × Obj)} {σ : L2.St} {H : Hp} {s : Shared}
def IsLamX (X : Cx) (params : Arguments) (body : Expr) (scope : Scope) (nd : Bool) (H : Hp) (f : Addr) : Prop := ∃ (c' : Addr) (pm ctv doc dV : Value),
  H f = some (LamO f (PySem.W.kdv_obj "<lambda>" (X.env.qual ++ "<lambda>") params (.expr body) scope (cloFrom X.env.cells scope.names []) dV doc pm c' ctv)) ∧ H c' = some (CodeO c' (X.env.qual ++ "<lambda>")) ∧ DefAt H dV nd
theorem IsLamX.mono {H' : Hp} {params : Arguments} {body : Expr} {scope : Scope} {nd : Bool} {f : Addr} (h : IsLamX X params body scope nd H f) (e : ExtN H H') : IsLamX X params body scope nd H' f := by
  obtain ⟨c', pm, ctv, doc, dV, h1, h2, h3⟩ := h
  exact ⟨c', pm, ctv, doc, dV, e _ _ h1 lamO_ne, e _ _ h2 codeO_ne, h3.mono e⟩
theorem lam_tail {T : List (Addr × Str)} {c P : Addr} {params : Arguments} {body : Expr} {scope : Scope} {pos : Pos} {n : Nat} {dV : Value} {nd : Bool} {E : Value → Shared → Prop} {Q : Value → Shared → Prop} (I : Inv X pins σ H s) (TB : TabB X.base X.mg c P) (hcode : X.env.code = .ref c)
    (hm : (P, X.env.qual ++ "<lambda>") ∈ T) (hu : ∀ p ∈ T, p.1 = P → p.2 = X.env.qual ++ "<lambda>") (hT : Tabs T H) (hfree : ∀ y ∈ scope.names, y.2 = .free → ∃ c, X.env.cells.lookup y.1 = some c) (hD : DefAt H dV nd)
    (h : ∀ (f : Addr) (H1 : Hp) (s' : Shared), Inv X pins σ H1 s' → ExtN H H1 → Tabs T H1 → H f = none → IsLamX X params body scope nd H1 f → Q (.ref f) s') :
    wpAny (model X.prog X.w) X.A (makeTail "<lambda>" (X.env.qual ++ "<lambda>") params (.expr body) scope X.env dV .none none pos n) Q E s := by
  obtain ⟨ps, hP, ht, ha⟩ := hT _ hm
  have bP : s.heap.BuiltinsAt X.mg P := TB.bm.keeps I.bk
  have hP' : s.heap.get? P = some { cls := .none, data := .fields ps } := I.hok P _ hP
  cases hc : codeAmong pos ps.toList with
  | none =>
    refine PySem.W.kdv_makeTail (mg := X.mg) (c := c) (P := P) (ps := ps) (closure_ok hfree) I.ok.glob (I.mod.glob.keeps I.bk) hcode (TB.code.keeps I.bk) hP' ht hc TB.gP bP fun c' ctv doc h' tk hx hge hlt hrec htb => ?_
    obtain ⟨c2, oc, vs, t, e2, hoc, hd, hv⟩ := hrec
    cases e2
    have hsz : s.heap.objs.size ≤ h'.objs.size := Nat.le_trans hge (Nat.le_of_lt hlt)
    have nC : H c' = none := I.hok.fresh hge
    have I1 := inv_table (t' := tk) (more := #[rawInt pos.line, rawInt pos.col, .ref c']) (h' := h') I hP (fun b o hb e => hx b o hb e) htb hge ⟨oc, vs, t, hoc, hd, hv⟩
    have hE : ExtN H (upd (upd H P (.tbl (ps ++ #[rawInt pos.line, rawInt pos.col, .ref c']))) c' (CodeO c' (X.env.qual ++ "<lambda>"))) := fun b o e n => by
      rw [upd_ne (ne_of_none e nC), upd_ne (fun z => n ps (Option.some.inj (e.symm.trans (by rw [z]; exact hP))))]
      exact e
    have nF : H h'.objs.size = none := I.hok.fresh hsz
    have I2 := I1.laid (a := h'.objs.size) (o := LamO h'.objs.size (PySem.W.kdv_obj "<lambda>" (X.env.qual ++ "<lambda>") params (.expr body) scope (cloFrom X.env.cells scope.names []) dV doc ((X.mg "__name__").getD .none) c' ctv)) (t' := tk)
      (h' := h'.push (PySem.W.kdv_obj "<lambda>" (X.env.qual ++ "<lambda>") params (.expr body) scope (cloFrom X.env.cells scope.names []) dV doc ((X.mg "__name__").getD .none) c' ctv)) (fun b o e => Heap.get?_push_of_some _ e) (Nat.le_refl _) (lamO_ok (Heap.get?_push_size _ rfl))
    have nF1 := I1.hok.fresh (Nat.le_refl h'.objs.size)
    have hE2 : ExtN H _ := hE.trans (ExtN.of (same_new nF1 (LamO h'.objs.size (PySem.W.kdv_obj "<lambda>" (X.env.qual ++ "<lambda>") params (.expr body) scope (cloFrom X.env.cells scope.names []) dV doc ((X.mg "__name__").getD .none) c' ctv))))
    have eL : (ps ++ #[rawInt pos.line, rawInt pos.col, .ref c']).toList = ps.toList ++ [rawInt pos.line, rawInt pos.col, .ref c'] := by simp
    have T1 : Tabs T (upd (upd H P (.tbl (ps ++ #[rawInt pos.line, rawInt pos.col, .ref c']))) c' (CodeO c' (X.env.qual ++ "<lambda>"))) := fun p hp => by
      by_cases hb : p.1 = P
      · rw [hu p hp hb, hb]
        refine ⟨_, by rw [upd_ne (ne_of_none hP nC), upd_same], by rw [eL]; exact PySem.TriplesOk_snoc _ _ _ _ ht, fun p' cv hcv => ?_⟩
        rw [eL] at hcv
        rcases among_app _ ht hcv with z | z
        · obtain ⟨c0, e1, e2⟩ := ha p' cv z
          exact ⟨c0, e1, hE _ _ e2 codeO_ne⟩
        · exact ⟨c', z, upd_same⟩
      · obtain ⟨ps', a1, a2, a3⟩ := hT p hp
        refine ⟨ps', by rw [upd_ne (ne_of_none a1 nC), upd_ne hb]; exact a1, a2, fun p' cv hcv => ?_⟩
        obtain ⟨c0, e1, e2⟩ := a3 p' cv hcv
        exact ⟨c0, e1, hE _ _ e2 codeO_ne⟩
    exact h _ _ _ I2 hE2 (T1.ext (same_new nF1 _)) nF ⟨c', _, ctv, doc, dV, upd_same, same_new nF1 _ _ _ upd_same, hD.mono hE2⟩
  | some cv =>
    obtain ⟨c', e, hco⟩ := ha pos cv hc
    subst e
    refine PySem.W.kdv_makeTailHit (mg := X.mg) (c := c) (P := P) (ps := ps) (closure_ok hfree) I.ok.glob (I.mod.glob.keeps I.bk) hcode (TB.code.keeps I.bk) hP' ht hc bP fun ctv doc h' tk hx hsz => ?_
    have I1 : Inv X pins σ H { s with heap := h', toks := tk } := I.kept hx
    have nF := I1.hok.fresh (Nat.le_refl h'.objs.size)
    have I2 := I1.laid (a := h'.objs.size) (o := LamO h'.objs.size (PySem.W.kdv_obj "<lambda>" (X.env.qual ++ "<lambda>") params (.expr body) scope (cloFrom X.env.cells scope.names []) dV doc ((X.mg "__name__").getD .none) c' ctv)) (t' := tk)
      (h' := h'.push (PySem.W.kdv_obj "<lambda>" (X.env.qual ++ "<lambda>") params (.expr body) scope (cloFrom X.env.cells scope.names []) dV doc ((X.mg "__name__").getD .none) c' ctv)) (fun b o e => Heap.get?_push_of_some _ e) (Nat.le_refl _) (lamO_ok (Heap.get?_push_size _ rfl))
    exact h _ _ _ I2 (ExtN.of (same_new nF _)) (Tabs.ext hT (same_new nF _)) nF ⟨c', _, ctv, doc, dV, upd_same, same_new nF _ _ _ hco, hD.mono (ExtN.of (same_new nF _))⟩
theorem pe_lamX {T : List (Addr × Str)} {c P : Addr} {params : Arguments} {body : Expr} {scope : Scope} {pos : Pos} {nd : Bool} {D : List Str} (TB : TabB X.base X.mg c P) (hcode : X.env.code = .ref c) (hm : (P, X.env.qual ++ "<lambda>") ∈ T) (hu : ∀ p ∈ T, p.1 = P → p.2 = X.env.qual ++ "<lambda>")
    (L : LamSX D X.env.scope scope) (hp : (nd = false ∧ defaultsOf params X.env = ([], [])) ∨ (nd = true ∧ ∃ j p, params.defaults = [.Constant (.int 0) j p] ∧ params.kw_defaults = [])) : PE X (.Lambda params body scope pos) (tLamV T (IsLamX X params body scope nd)) := by
  refine ⟨fun pins s σ H Q I h => ?_⟩
  unfold tLamV at h
  obtain ⟨hT, h⟩ := h
  rcases hp with ⟨rfl, hdef⟩ | ⟨rfl, j, p, hd, hk⟩
  · refine PySem.W.kla_eval hdef ?_
    rw [makeFunction_eq]
    simp only [List.zip_nil_right, List.filterMap_nil, List.isEmpty_nil, if_true, pure_bind]
    exact lam_tail I TB hcode hm hu hT (L.has I.ok) (show DefAt H .none false from rfl) fun f H1 s' I1 e1 T1 nf hl => ⟨.ref f, H1, I1, rfl, h f H1 e1 T1 nf hl⟩
  · refine PySem.W.kdv_lam (by rw [hd]; rfl) hk ?_
    rw [hd]
    refine PySem.W.kdv_all1 (thn ((pe_int (i := 0) (j := j) (pos := p)).run pins s σ H (fun v H1 => v = .int 0 ∧ H1 = H) I ⟨rfl, rfl⟩) fun u s1 ⟨v, H1, I1, r1, ev, eH⟩ => ?_)
    subst ev
    rw [eH] at I1
    obtain ⟨tk, rfl⟩ := r1
    refine PySem.W.kdv_all0 ?_
    rw [makeFunction_eq]
    simp only [List.zip_nil_right, List.filterMap_nil, List.isEmpty_nil, if_true, pure_bind, List.isEmpty_cons, Bool.false_eq_true, if_false]
    refine wpAny_bind (wpAny_newTextTuple ?_)
    have nT := I1.hok.fresh (Nat.le_refl s1.heap.objs.size)
    have I2 := I1.laid (a := s1.heap.objs.size) (o := LamO s1.heap.objs.size (PySem.W.kdv_tup [.int 0 tk])) (t' := s1.toks) (h' := s1.heap.push (PySem.W.kdv_tup [.int 0 tk])) (fun b o e => Heap.get?_push_of_some _ e) (Nat.le_refl _) (lamO_ok (Heap.get?_push_size _ rfl))
    have e2 := same_new nT (LamO s1.heap.objs.size (PySem.W.kdv_tup [.int 0 tk]))
    refine lam_tail I2 TB hcode hm hu (hT.ext e2) (L.has I.ok) (show DefAt _ (.ref s1.heap.objs.size) true from ⟨_, tk, rfl, upd_same⟩) fun f H2 s' I3 e3 T3 nf hl => ⟨.ref f, H2, I3, rfl, h f H2 ((ExtN.of e2).trans e3) T3 ?_ hl⟩
    exact e2.free nf
/-- how its parameters are bound: nothing is handed in -/
structure BindX (params : Arguments) (body : Expr) (scope : Scope) (D : List Str) (nd : Bool) : Prop where
  no : nd = false → ∀ (q : Str) (cl : List (Str × Addr)) (doc pm cv ctv : Value), bindArgs (PySem.W.kdv_fn "<lambda>" q params (.expr body) scope cl .none doc pm cv ctv) ⟨[], []⟩ = pure []
  yes : nd = true → ∃ d, D = [d] ∧ ∀ (q : Str) (cl : List (Str × Addr)) (doc pm cv ctv : Value) (T : Addr), ∃ k : Option (Array Value) → Sem (List (Str × Value)), bindArgs (PySem.W.kdv_fn "<lambda>" q params (.expr body) scope cl (.ref T) doc pm cv ctv) ⟨[], []⟩ = seqItems? (.ref T) >>= k ∧ ∀ tk, k (some #[.int 0 tk]) = pure [(d, .int 0 tk)]
theorem BindX.at_ {params : Arguments} {body : Expr} {scope : Scope} {D : List Str} {nd : Bool} (h : BindX params body scope D nd) {q : Str} {cl : List (Str × Addr)} {doc pm cv ctv dV : Value} {P : Program} {w : World} {HZ : Hp} {s1 : Shared} (x : HOk P w HZ s1.heap) (hD : DefAt HZ dV nd) :
    ∃ binds, BindsTo s1 (PySem.W.kdv_fn "<lambda>" q params (.expr body) scope cl dV doc pm cv ctv) ⟨[], []⟩ binds ∧ ∀ y ∈ binds, y.1 ∈ D := by
  cases nd with
  | false =>
    obtain rfl : dV = .none := hD
    exact ⟨[], .of_eq (h.no rfl q cl doc pm cv ctv), fun y hy => absurd hy (by simp)⟩
  | true =>
    obtain ⟨T, tk, rfl, hT⟩ := hD
    obtain ⟨d, rfl, hk⟩ := h.yes rfl
    obtain ⟨k, k1, k2⟩ := hk q cl doc pm cv ctv T
    refine ⟨[(d, .int 0 tk)], BindsTo.of_defaults (n := 0) (o := PySem.W.kdv_tup [.int 0 tk]) (items := #[.int 0 tk]) rfl (lamO_get x hT) rfl k1 (k2 tk), fun y hy => ?_⟩
    rw [List.mem_singleton.mp hy]
    exact List.mem_singleton.mpr rfl
/-- the lambda's own frame, entered further in -/
theorem lam_enterX {D : List Str} {binds : List (Str × Value)} {A : Around} {outer : List Env} {E : XK} {scope : Scope} {f c' : Addr} {h₁ : Heap} {tk : Nat} {s1 : Shared} {HZ : Hp} (I : Inv X pins σ H s) (hfn : ∀ x, X.fn x = true) (L : LamSX D X.env.scope scope) (hdis : ∀ d ∈ D, d ∉ X.N)
    (eB : Env0 X.prog X.w X.K X.mg (bigB s.heap H (frs X.stack)) A outer s1 HZ) (hd : A.handled = none)
    (hns : h₁.Ns s1.heap.objs.size fun y => binds.reverse.lookup y) (kp : ∀ b o, s1.heap.get? b = some o → h₁.get? b = some o) :
    Inv (lamCx X A outer s1 HZ E scope f c') [] σ HZ { s1 with heap := h₁, toks := tk } := by
  have e0 := env_small I eB
  have hfree := L.has I.ok
  -- a captured cell of the lambda is a cell of the maker's
  have cm : ∀ {y c}, (cloFrom X.env.cells scope.names []).lookup y = some c → X.env.cells.lookup y = some c := fun {y c} e => by
    rcases cloFrom_mem (PySem.mem_of_lookup e) with hm | ⟨h1, h2⟩
    · cases hm
    · obtain ⟨c1, hc⟩ := hfree _ h1 rfl
      have hc : X.env.cells.lookup y = some c1 := hc
      have e2 : c = c1 := by
        rw [h2, hc] <;> rfl
      rw [e2]
      exact hc
  have look : ∀ {y}, scope.names.lookup y = some .free → ∃ c, (cloFrom X.env.cells scope.names []).lookup y = some c := fun {y} hl => by
    have hy : (y, NameKind.free) ∈ scope.names := PySem.mem_of_lookup hl
    exact mem_lookup (cloFrom_has (cells := X.env.cells) (acc := []) hy)
  -- it stands where it stood, unknown
  have stays : ∀ {y c}, X.env.cells.lookup y = some c → ∀ {o : Obj}, s.heap.get? c = some o → s1.heap.get? c = some o ∧ HZ c = none := fun {y c} e {o} ho => eB.bs c o (bigB_get ho (I.freeC y c e) (cell_nofr I hfn e))
  have cellK : ∀ {y c} {v : Option Value}, X.env.cells.lookup y = some c → s.heap.IsCell c v → h₁.IsCell c v := fun {y c v} e ⟨o, ho, hdt⟩ => ⟨o, kp _ _ (stays e ho).1, hdt⟩
  have noA : ∀ b : Addr, b ∉ (lamCx X A outer s1 HZ E scope f c').ex := fun b z => absurd (show b ∈ ([] : List Addr) from z) (by simp)
  refine ⟨⟨e0.mod, L.kind, rfl, rfl, Nat.le_refl _, fun y z c e1 e2 => I.ok.inj y z c (cm e1) (cm e2), fun y hy => ?_, fun y c z _ => ?_, fun _ => hd, Around.frames_deeper e0.frames, .inr ⟨rfl, rfl⟩, fun b z => absurd z (noA b), e0.bs, e0.bsz, fun b _ _ => noA b,
      fun b z => absurd z (noA b), e0.funs, e0.frf⟩,
    rfl, e0.bare, Un.kept kp, ⟨_, hns, fun i y v e1 e2 e3 => ?_⟩, fun y c e => ?_, e0.hok.fresh (Nat.le_refl _), fun y c e => ?_, fun q hq => absurd (show q ∈ ([] : List (Addr × Obj)) ++ [] from hq) (by simp), e0.hok.kept kp, I.len⟩
  · have hy : scope.names.lookup y = some .cell ∨ scope.names.lookup y = some .free := hy
    rcases hy with hy | hy
    · exact absurd rfl (L.own _ (PySem.mem_of_lookup hy)).2
    · exact look hy
  · have z : false = true := z
    cases z
  · have e3 : Vis scope y := e3
    rcases e3 with k | k | k
    · exact absurd (List.mem_of_getElem? e1) (hdis _ ((L.own _ (PySem.mem_of_lookup k)).1 rfl))
    · exact absurd rfl (L.own _ (PySem.mem_of_lookup k)).2
    · obtain ⟨m, _, hl⟩ := I.loc
      have hvis : Vis X.env.scope y := (L.free _ (PySem.mem_of_lookup k) rfl).elim (fun k => .inr (.inl k)) (fun k => .inr (.inr k))
      obtain ⟨w', r, q⟩ := hl i y v e1 e2 hvis
      obtain ⟨c2, h2⟩ := look k
      refine ⟨w', r, .inr ⟨.inr k, c2, h2, ?_⟩⟩
      have c1 := cm h2
      rcases q with ⟨k', _⟩ | ⟨_, c3, e', z⟩
      · have k' : X.env.scope.names.lookup y = some .local := k'
        rcases L.free _ (PySem.mem_of_lookup k) rfl with k2 | k2 <;> rw [show X.env.scope.names.lookup y = _ from k2] at k' <;> cases k'
      · rw [c1] at e'
        cases e'
        exact cellK c1 z
  · obtain ⟨w', z⟩ := I.cell y c (cm e)
    exact ⟨w', cellK (cm e) z⟩
  · obtain ⟨v, o, ho, _⟩ := I.cell y c (cm e)
    exact (stays (cm e) ho).2
/-- x(), x a lambda that X's code made, in a def's frame over the bigger base -/
theorem pe_actX {nd : Bool} {D : List Str} {CXg : CXT} {Eg : XK} {Ng : List Str} {qg : Str} {sg : Scope} {g f : Addr} {cdg : Value} {params : Arguments} {body : Expr} {scope : Scope} {k i : Nat} {a : Str} {pn : List (Addr × Obj)} {xe : Value → Shared → Prop} {W : WX} {E : XK} {tb : TE} {p1 p2 : Pos}
    {A2 : Around} {stack2 : List Env} {s2 : Shared} {H2 : Hp} (I : Inv X pins σ H s) (hfn : ∀ x, X.fn x = true) (L : LamSX D X.env.scope scope) (hdis : ∀ d ∈ D, d ∉ X.N)
    (hbind : BindX params body scope D nd)
    (tk : Takes ((cxOf CXg X.prog X.w X.K X.mg (bigB s.heap H (frs X.stack)) Ng qg sg g cdg A2 stack2 s2 H2 Eg).tr pn xe) W) (hW : ∀ cls d σ' H', E cls d H' → W cls d σ' H') (hr : Room (k + 1) (A2.deeper (envOfC qg sg s2.heap.objs.size g cdg)))
    (hbody : ∀ (A : Around) (outer : List Env) (s : Shared) (H : Hp) (f c' : Addr), Room k (A.deeper (lamEnv X scope s.heap.objs.size f c')) → PE (lamCx X A outer s H E scope f c') body tb)
    (hN : Ng[i]? = some a) (hv : Vis sg a) (hd : (a == ("__debug__" : Str)) = false := by decide) (hcd : (a == ("__classdict__" : Str)) = false := by decide) :
    PE ((cxOf CXg X.prog X.w X.K X.mg (bigB s.heap H (frs X.stack)) Ng qg sg g cdg A2 stack2 s2 H2 Eg).tr pn xe) (.Call (.Name a p1) [] [] p2)
      (fun σZ HZ Q => σZ[i]? = some (some (.ref f)) ∧ IsLamX X params body scope nd HZ f ∧ tb σ HZ Q) := by
  refine ⟨fun pinsZ sZ σZ HZ Q IZ h => ?_⟩
  obtain ⟨hs, ⟨c', pm, ctv, doc, dV, hF, hc, hD⟩, ht⟩ := h
  refine wpAny_Call_Name_kw (thn ((pe_var (pos := p1) (i := i) hN hv hd hcd).run pinsZ sZ σZ HZ (fun v H1 => v = .ref f ∧ H1 = HZ) IZ ⟨.ref f, hs, rfl, rfl⟩) fun u s1 ⟨v, H1, I1, r1, q1⟩ => ?_)
  obtain ⟨ev, eH⟩ := q1
  subst ev
  rw [eH] at I1
  obtain rfl : u = Value.ref f := r1
  have of1 := lamO_get I1.hok hF
  refine PySem.W.callWith_F0 ⟨_, _, _, _, of1⟩ ?_
  obtain ⟨⟨oc, vs, t, hoc, hdc, hvc⟩, _, _⟩ := I1.hok c' _ hc
  have rc : codeAny (model X.prog X.w) (A2.deeper (envOfC qg sg s2.heap.objs.size g cdg)) (.call (.ref f) ⟨[], []⟩) (CR (L2.CX X.prog X.w) (envOfC qg sg s2.heap.objs.size g cdg :: stack2) X.prog X.w HZ s1 Q E) s1 := by
    refine PySem.W.kla_callFunE hr.depth of1 rfl L.co L.gen rfl ⟨c', oc, vs, t, rfl, hoc, hdc, hvc⟩ ?_
    obtain ⟨binds, hbt, hbl⟩ := hbind.at_ (q := X.env.qual ++ "<lambda>") (cl := cloFrom X.env.cells scope.names []) (pm := pm) (cv := .ref c') (ctv := ctv) (doc := doc) I1.hok hD
    refine hbt _ _ _ _ (wpAny_newFunctionEnv (fun y hy => (L.own y hy).2) (fun y hy => L.bnd _ (hbl y hy)) (fun h₁ hns hsb => ⟨I1.nolimit.fresh _ hsb, ?_⟩) L.kind)
    show codeAny _ _ (.expr body (lamEnv X scope s1.heap.objs.size f c')) _ _
    have kp : ∀ b o, s1.heap.get? b = some o → h₁.get? b = some o := fun b o e => hsb.extBut b o (Nat.ne_of_lt (Heap.lt_size e)) (Heap.get?_push_of_some _ e)
    have J : Inv (lamCx X (A2.deeper (envOfC qg sg s2.heap.objs.size g cdg)) (envOfC qg sg s2.heap.objs.size g cdg :: stack2) s1 HZ E scope f c') [] σ HZ { s1 with heap := h₁, toks := s1.toks + binds.length } :=
      lam_enterX I hfn L hdis I1.env0 hr.hd hns kp
    refine PySem.W.kla_codeExpr (wpAny_mono ((hbody _ _ s1 HZ f c' (hr.deeper _)).run [] _ _ HZ Q J ht) (fun v s' hq => ?_) fun e s' hq => hq)
    obtain ⟨w', H', J', rv, q⟩ := hq
    exact ⟨w', H', J'.os, J'.bare, J'.base, J'.hok, rv, q⟩
  have hx : Passes (L2.CX X.prog X.w) ((cxOf CXg X.prog X.w X.K X.mg (bigB s.heap H (frs X.stack)) Ng qg sg g cdg A2 stack2 s2 H2 Eg).tr pn xe) E := passes_call tk hW
  refine wpAny_call (codeAny_mono rc fun r s' hq => ?_)
  cases r with
  | error e => exact hx pinsZ σZ HZ s1 e s' I1 hq
  | ok fl =>
    cases fl with
    | ret u => exact I1.after hq
    | next => exact False.elim hq
    | brk => exact False.elim hq
    | cont => exact False.elim hq
/-- what is asked of a lambda: its names, that it takes nothing, the reading of its body -/
structure LamBX (X : Cx) (k : Nat) (nd : Bool) (D : List Str) (params : Arguments) (body : Expr) (scope : Scope) (t : XK → TE) : Prop where
  nm : LamSX D X.env.scope scope
  dis : ∀ d ∈ D, d ∉ X.N
  bind : BindX params body scope D nd
  body : ∀ (A : Around) (outer : List Env) (s : Shared) (H : Hp) (E : XK) (f c' : Addr), Room k (A.deeper (lamEnv X scope s.heap.objs.size f c')) → PE (lamCx X A outer s H E scope f c') body (t E)
/-- x(y), y a lambda that X's code made when its names stood at σ; x is a def that calls it -/
def tAskX (X : Cx) (k : Nat) (σ : L2.St) (TT : (XK → Hp → VK → Prop) → Hp → VK → Prop) (j : Nat) : TE := fun σY HY Q => ∃ (f : Addr) (nd : Bool) (D : List Str) (params : Arguments) (body : Expr) (scope : Scope) (t : XK → TE), σY[j]? = some (some (.ref f)) ∧ LamBX X k nd D params body scope t ∧
  IsLamX X params body scope nd HY f ∧ TT (fun E H' Q' => IsLamX X params body scope nd H' f ∧ t E σ H' Q') HY Q
theorem pe_askX {Y : Cx} {TT : (XK → Hp → VK → Prop) → Hp → VK → Prop} {x a y : Str} {g : Addr} {j k : Nat} {pg : Arguments} {bg : List Stmt} {sg : Scope} {dV kV doc pm cdv ct oc : Value} {an od : Option Addr} {osl : Array (Option Value)} {Ng : List Str} {p py pos : Pos}
    (I : Inv X pins σ H s) (hfn : ∀ x, X.fn x = true) (e1 : Y.prog = X.prog) (e2 : Y.w = X.w) (e3 : Y.K = X.K) (e4 : Y.mg = X.mg) (e5 : Y.base = bigB s.heap H (frs X.stack)) (hyN : Y.N[j]? = some y) (hyv : Vis Y.env.scope y)
    (hg : Gl Y x) (hm : X.mg x = some (.ref g)) (hk : PySem.W.keepIn X.K (.ref g) = true)
    (lk : X.K.lookup g = some ⟨oc, od, .func (PySem.W.fnOf x x pg bg sg dV kV doc pm an cdv ct), osl⟩) (hcg : PySem.W.codeIn X.K cdv x = true) (hb : L2.Binds X.K (PySem.W.fnOf x x pg bg sg dV kV doc pm an cdv ct) [a] []) (Sg : FnScope Ng [a] sg) (hNg : Ng[0]? = some a) (hva : Vis sg a)
    (hG : GivesTo Y Ng x sg g cdv bg a (X.env.qual ++ "<lambda>") TT) (hr : Room (k + 2) Y.A)
    (hdb : (x == ("__debug__" : Str)) = false := by decide) (hd : (a == ("__debug__" : Str)) = false := by decide) (hcd : (a == ("__classdict__" : Str)) = false := by decide) (hyd : (y == ("__debug__" : Str)) = false := by decide) (hyc : (y == ("__classdict__" : Str)) = false := by decide) :
    PE Y (.Call (.Name x p) [.Name y py] [] pos) (tAskX X k σ TT j) := by
  obtain ⟨Yp, Yw, YK, Ymg, Yb, YA, YN, Ys, YH, Ye, Yo, Yst, Yx, Yf, Yc, Ypn, Yxe⟩ := Y
  dsimp only at e1 e2 e3 e4 e5 hyN hyv hr
  subst e1 e2 e3 e4 e5
  refine ⟨fun pinsY sY σY HY Q IY h => ?_⟩
  obtain ⟨f, nd, D, params, body, scope, t, hs, LB, hl, hT⟩ := h
  refine wpAny_Call_Name_kw (ld_glob IY hg hm ?_ hdb)
  refine PySem.W.callWith_K (h₀ := bigB s.heap H (frs X.stack)) IY.ok.mod.kin hk ?_ (by rfl) (by rfl)
  refine thn ((pa_cons (pe_var (pos := py) (i := j) hyN hyv hyd hyc) pa_nil).run pos pinsY sY σY HY (fun vs H1 => vs = [V.ref f] ∧ H1 = HY) IY ⟨.ref f, hs, rfl, rfl⟩) fun us s1 ⟨vs, H1, I1, r1, ev, eH⟩ => ⟨I1.kIn, ?_⟩
  subst ev
  rw [eH] at I1
  obtain ⟨u, rfl, ru⟩ := vals1 r1
  cases ru
  obtain ⟨c', pm', ctv, doc', dV', hF, hc, hDf⟩ := id hl
  have rc : codeAny (model X.prog X.w) YA (.call (.ref g) ⟨[.ref f], []⟩) (CR C8.CX0 Yst X.prog X.w HY s1 Q C8.E0) s1 := by
    refine run_ofS (N := Ng) (ps := [a]) (us := [.ref f]) (vs := [.ref f]) lk hcg Sg hr I1.env0 (hb s1 [.ref f] I1.kIn rfl) (.cons rfl .nil) rfl fun hr' => ?_
    obtain ⟨t', ht', hq'⟩ := hG f c' s1 HY Q (fun E H' Q' => IsLamX X params body scope nd H' f ∧ t E σ H' Q') (fun W pn xe E p1 p2 tk hW => ⟨fun pins' s' σ' H' Q' I' h' =>
      (pe_actX (i := 0) I hfn LB.nm LB.dis LB.bind tk hW hr' (fun A outer s H f c' hr2 => LB.body A outer s H E f c' hr2) hNg hva hd hcd).run pins' s' σ' H' Q' I' ⟨h'.1, h'.2.2⟩⟩) hc hT
    exact ⟨t', ht'.nox, hq'⟩
  refine wpAny_call (codeAny_mono rc fun r s2 hq => ?_)
  cases r with
  | error e => exact (show False from hq).elim
  | ok fl =>
    cases fl with
    | ret u => exact I1.after hq
    | next => exact False.elim hq
    | brk => exact False.elim hq
    | cont => exact False.elim hq
end
end Bl
namespace De
open PySem L2 Bl
/-- a lambda: its names, its parts, whether it has a default -/
structure LamI where
  q : Str
  cl : List (Str × Addr)
  params : Arguments
  body : Expr
  scope : Scope
  nd : Bool
def LamAt (L : LamI) (H : Hp) (f : Addr) : Prop := ∃ (c' : Addr) (pm ctv doc dV : Value), H f = some (LamO f (PySem.W.kdv_obj "<lambda>" L.q L.params (.expr L.body) L.scope L.cl dV doc pm c' ctv)) ∧ H c' = some (LamX.CodeO c' L.q) ∧ DefAt H dV L.nd
theorem LamAt.mono {L : LamI} {H H' : Hp} {f : Addr} (h : LamAt L H f) (e : LamX.ExtN H H') : LamAt L H' f := by
  obtain ⟨c', pm, ctv, doc, dV, h1, h2, h3⟩ := h
  exact ⟨c', pm, ctv, doc, dV, e _ _ h1 lamO_ne, e _ _ h2 LamX.codeO_ne, h3.mono e⟩
inductive Dt where
  | non | bl (b : Bool) | int (i : Int) | str (z : Str) | lst (ds : List Dt) | tup (ds : List Dt) | dct (ks : List (Key × Dt)) | ins (C : Addr) (fs : List (Str × Dt)) | raw (v : V) | lam (L : LamI)
def okz (z : Str) : Prop := PyData.canLay0 (.str z) = true ∧ z.length ≤ sizeLine
instance {z : Str} : Decidable (okz z) := inferInstanceAs (Decidable (_ ∧ _))
mutual
inductive Rep (K : PySem.W.Frag) (G : Hp) : V → Dt → Prop
  | non : Rep K G .non .non
  | bl (b : Bool) : Rep K G (.bl b) (.bl b)
  | int (i : Int) : Rep K G (.int i) (.int i)
  | str (z : Str) (h : okz z) : Rep K G (.str z) (.str z)
  | lst {a : Addr} {vs : List V} {ds : List Dt} : G a = some (.lst vs) → RepAll K G vs ds → ds.length ≤ sizeLine → Rep K G (.ref a) (.lst ds)
  | tup {a : Addr} {vs : List V} {ds : List Dt} : SqT K G a vs → RepAll K G vs ds → ds.length ≤ sizeLine → Rep K G (.ref a) (.tup ds)
  | dct {a : Addr} {kvs : List (Key × V)} {ks : List (Key × Dt)} : Rd G a (.dK kvs) → RepK K G kvs ks → Rep K G (.ref a) (.dct ks)
  | ins {a C dx : Addr} {vs : List (Str × V)} {fs : List (Str × Dt)} : G a = some (.ins C dx vs) → RepF K G vs fs → Rep K G (.ref a) (.ins C fs)
  | raw (v : V) : Rep K G v (.raw v)
  | lam {f : Addr} (L : LamI) (h : LamAt L G f) : Rep K G (.ref f) (.lam L)
inductive RepAll (K : PySem.W.Frag) (G : Hp) : List V → List Dt → Prop
  | nil : RepAll K G [] []
  | cons {v : V} {vs : List V} {d : Dt} {ds : List Dt} : Rep K G v d → RepAll K G vs ds → RepAll K G (v :: vs) (d :: ds)
inductive RepK (K : PySem.W.Frag) (G : Hp) : List (Key × V) → List (Key × Dt) → Prop
  | nil : RepK K G [] []
  | cons {k : Key} {v : V} {vs : List (Key × V)} {d : Dt} {ds : List (Key × Dt)} : Rep K G v d → RepK K G vs ds → RepK K G ((k, v) :: vs) ((k, d) :: ds)
inductive RepF (K : PySem.W.Frag) (G : Hp) : List (Str × V) → List (Str × Dt) → Prop
  | nil : RepF K G [] []
  | cons {k : Str} {v : V} {vs : List (Str × V)} {d : Dt} {ds : List (Str × Dt)} : Rep K G v d → RepF K G vs ds → RepF K G ((k, v) :: vs) ((k, d) :: ds)
end
section
variable {K : PySem.W.Frag} {G G' : Hp}
theorem rd_mono {a : Addr} {u : HO} (e : Same G G') (h : Rd G a u) : Rd G' a u := h.elim (fun q => .inl (e _ _ q)) fun ⟨o, q⟩ => .inr ⟨o, e _ _ q⟩
mutual
theorem Rep.mono (e : Same G G') : ∀ {v : V} {d : Dt}, Rep K G v d → Rep K G' v d
  | _, _, .non => .non
  | _, _, .bl b => .bl b
  | _, _, .int b => .int b
  | _, _, .str b h => .str b h
  | _, _, .raw b => .raw b
  | _, _, .lam L h => .lam L (h.mono (LamX.ExtN.of e))
  | _, _, .lst h k l => .lst (e _ _ h) (RepAll.mono e k) l
  | _, _, .tup h k l => .tup (Bl.Same.tup e h) (RepAll.mono e k) l
  | _, _, .dct h k => .dct (rd_mono e h) (RepK.mono e k)
  | _, _, .ins h k => .ins (e _ _ h) (RepF.mono e k)
theorem RepAll.mono (e : Same G G') : ∀ {v : List V} {d : List Dt}, RepAll K G v d → RepAll K G' v d
  | _, _, .nil => .nil
  | _, _, .cons h k => .cons (Rep.mono e h) (RepAll.mono e k)
theorem RepK.mono (e : Same G G') : ∀ {v : List (Key × V)} {d : List (Key × Dt)}, RepK K G v d → RepK K G' v d
  | _, _, .nil => .nil
  | _, _, .cons h k => .cons (Rep.mono e h) (RepK.mono e k)
theorem RepF.mono (e : Same G G') : ∀ {v : List (Str × V)} {d : List (Str × Dt)}, RepF K G v d → RepF K G' v d
  | _, _, .nil => .nil
  | _, _, .cons h k => .cons (Rep.mono e h) (RepF.mono e k)
end
theorem RepAll.len : ∀ {v : List V} {d : List Dt}, RepAll K G v d → v.length = d.length
  | _, _, .nil => rfl
  | _, _, .cons _ k => by rw [List.length_cons, List.length_cons, RepAll.len k]
theorem RepAll.get : ∀ {vs : List V} {ds : List Dt} {i : Nat} {v : V}, RepAll K G vs ds → vs[i]? = some v → ∃ d, ds[i]? = some d ∧ Rep K G v d
  | _, _, _, _, .nil, h => by cases h
  | _, _, 0, _, .cons h _, e => by
    obtain rfl := Option.some.inj e
    exact ⟨_, rfl, h⟩
  | _, _, i + 1, _, .cons _ k, e => RepAll.get (i := i) k e
theorem RepAll.get' : ∀ {vs : List V} {ds : List Dt} {i : Nat} {d : Dt}, RepAll K G vs ds → ds[i]? = some d → ∃ v, vs[i]? = some v ∧ Rep K G v d
  | _, _, _, _, .nil, h => by cases h
  | _, _, 0, _, .cons h _, e => by
    obtain rfl := Option.some.inj e
    exact ⟨_, rfl, h⟩
  | _, _, i + 1, _, .cons _ k, e => RepAll.get' (i := i) k e
theorem RepAll.app : ∀ {vs us : List V} {ds es : List Dt}, RepAll K G vs ds → RepAll K G us es → RepAll K G (vs ++ us) (ds ++ es)
  | _, _, _, _, .nil, k => k
  | _, _, _, _, .cons h t, k => .cons h (RepAll.app t k)
theorem RepAll.take (n : Nat) : ∀ {vs : List V} {ds : List Dt}, RepAll K G vs ds → RepAll K G (vs.take n) (ds.take n) := by
  induction n with
  | zero => intro vs ds _; exact .nil
  | succ n ih =>
    intro vs ds h
    cases h with
    | nil => exact .nil
    | cons h k => exact .cons h (ih k)
theorem RepAll.drop (n : Nat) : ∀ {vs : List V} {ds : List Dt}, RepAll K G vs ds → RepAll K G (vs.drop n) (ds.drop n) := by
  induction n with
  | zero => intro vs ds h; exact h
  | succ n ih =>
    intro vs ds h
    cases h with
    | nil => exact .nil
    | cons h k => exact ih k
end
inductive Ov where
  | d (x : Dt) | o (k : Nat)
inductive OO where
  | dead | lst (xs : List Ov) | dct (ks : List (Key × Ov)) | ins (C : Addr) (fs : List (Str × Ov)) | tbl (P : Addr) (q : Str)
def OvR (K : PySem.W.Frag) (G : Hp) (ρ : List Addr) (v : V) : Ov → Prop
  | .d x => Rep K G v x
  | .o k => ∃ a, ρ[k]? = some a ∧ v = .ref a
def OOR (K : PySem.W.Frag) (G : Hp) (ρ : List Addr) (H : Hp) (a : Addr) : OO → Prop
  | .dead => False
  | .lst xs => ∃ vs, H a = some (.lst vs) ∧ Paired (OvR K G ρ) vs xs ∧ xs.length ≤ sizeLine
  | .dct ks => ∃ vs, H a = some (.dK vs) ∧ Paired (fun p q => p.1 = q.1 ∧ OvR K G ρ p.2 q.2) vs ks
  | .ins C fs => ∃ dx vs, H a = some (.ins C dx vs) ∧ Paired (fun p q => p.1 = q.1 ∧ OvR K G ρ p.2 q.2) vs fs
  | .tbl P q => a = P ∧ ∃ ps : Array Value, H a = some (.tbl ps) ∧ TriplesOk ps.toList ∧ ∀ (pos : Pos) (cv : Value), codeAmong pos ps.toList = some cv → ∃ c, cv = .ref c ∧ G c = some (LamX.CodeO c q)
structure Ext (G : Hp) (ρ : List Addr) (G' : Hp) (ρ' : List Addr) : Prop where
  g : Same G G'
  r : ∃ l, ρ' = ρ ++ l
theorem Ext.refl {G : Hp} {ρ : List Addr} : Ext G ρ G ρ := ⟨Same.refl _, [], (List.append_nil _).symm⟩
theorem Ext.trans {G G1 G2 : Hp} {ρ ρ1 ρ2 : List Addr} (a : Ext G ρ G1 ρ1) (b : Ext G1 ρ1 G2 ρ2) : Ext G ρ G2 ρ2 := by
  obtain ⟨l, rfl⟩ := a.r
  obtain ⟨m, rfl⟩ := b.r
  exact ⟨a.g.trans b.g, l ++ m, List.append_assoc _ _ _⟩
theorem Ext.of {G G' : Hp} {ρ : List Addr} (e : Same G G') : Ext G ρ G' ρ := ⟨e, [], (List.append_nil _).symm⟩
section
variable {K : PySem.W.Frag} {G G' H H' : Hp} {ρ ρ' : List Addr} {v : V} {x : Ov}
theorem OvR.mono (e : Ext G ρ G' ρ') (h : OvR K G ρ v x) : OvR K G' ρ' v x := by
  cases x with
  | d x => exact Rep.mono e.g h
  | o k =>
    obtain ⟨a, ha, rfl⟩ := h
    obtain ⟨l, rfl⟩ := e.r
    exact ⟨a, by rw [List.getElem?_append_left (List.getElem?_eq_some_iff.mp ha).1]; exact ha, rfl⟩
theorem pair_mono {α β : Type} {F F' : α → β → Prop} (h : ∀ a b, F a b → F' a b) : ∀ {l : List α} {m : List β}, Paired F l m → Paired F' l m
  | _, _, .nil => .nil
  | _, _, .cons q t => .cons (h _ _ q) (pair_mono h t)
theorem OvRs.mono (e : Ext G ρ G' ρ') {vs : List V} {xs : List Ov} (h : Paired (OvR K G ρ) vs xs) : Paired (OvR K G' ρ') vs xs := pair_mono (fun _ _ => OvR.mono e) h
theorem OOR.mono (e : Ext G ρ G' ρ') {a : Addr} (k : H' a = H a) {o : OO} (h : OOR K G ρ H a o) : OOR K G' ρ' H' a o := by
  cases o with
  | dead => exact h
  | lst xs =>
    obtain ⟨vs, q, p, l⟩ := h
    exact ⟨vs, k.trans q, OvRs.mono e p, l⟩
  | dct ks =>
    obtain ⟨vs, q, p⟩ := h
    exact ⟨vs, k.trans q, pair_mono (fun _ _ z => ⟨z.1, OvR.mono e z.2⟩) p⟩
  | ins C fs =>
    obtain ⟨dx, vs, q, p⟩ := h
    exact ⟨dx, vs, k.trans q, pair_mono (fun _ _ z => ⟨z.1, OvR.mono e z.2⟩) p⟩
  | tbl P q =>
    obtain ⟨e0, ps, h1, h2, h3⟩ := h
    exact ⟨e0, ps, k.trans h1, h2, fun pos cv hc => let ⟨c, e1, e2⟩ := h3 pos cv hc; ⟨c, e1, e.g _ _ e2⟩⟩
end
section
variable {H : Hp} {p b : Addr} {o : HO}
theorem noT_ne (ne : b ≠ p) : noT (upd H p o) b = noT H b := by
  unfold noT
  rw [upd_ne ne]
theorem noT_at (n : ∀ ps, o ≠ .tbl ps) : noT (upd H p o) p = some o := noT_of upd_same n
end
def LDo : HO → Prop
  | .lst _ => True
  | .dK _ => True
  | _ => False
theorem LDo.nt {o : HO} (h : LDo o) : ∀ ps, o ≠ .tbl ps := fun _ z => by subst z; exact h
structure Wd where
  H0 : Hp
  M : List Addr
  X : List Addr
structure Wo (K : PySem.W.Frag) (W : Wd) (G : Hp) (ρ : List Addr) (H : Hp) (os : List OO) : Prop where
  gn : Same G (noT H)
  len : ρ.length = os.length
  nd : ρ.Nodup
  ob : ∀ (k : Nat) (a : Addr) (o : OO), ρ[k]? = some a → os[k]? = some o → (o = .dead ∧ ∃ u, G a = some u) ∨ (G a = none ∧ OOR K G ρ H a o)
  fr : ∀ a o, noT W.H0 a = some o → a ∉ W.M → H a = some o
  ow : ∀ a ∈ ρ, a ∈ W.M ∨ noT W.H0 a = none
  tr : ∀ a ∈ ρ, ∃ o, H a = some o
  ex : ∀ a ∈ W.X, G a = none ∧ a ∉ ρ ∧ ∃ o, H a = some o ∧ LDo o
section
variable {K : PySem.W.Frag} {W : Wd} {G G' H : Hp} {ρ : List Addr} {os : List OO} {p : Addr} {o : HO}
theorem Wo.gh (h : Wo K W G ρ H os) : Same G H := h.gn.trans noT_le
theorem Wo.fresh (h : Wo K W G ρ H os) (n : H p = none) : p ∉ ρ := fun m => by
  obtain ⟨o, q⟩ := h.tr p m
  rw [n] at q
  cases q
theorem mem_of {a : Addr} {k : Nat} (h : ρ[k]? = some a) : a ∈ ρ := List.mem_of_getElem? h
/-- something new is laid: known from now on -/
theorem Wo.new (h : Wo K W G ρ H os) (n : H p = none) (o : HO) (nt : ∀ ps, o ≠ .tbl ps := by intro _ z; cases z) : Wo K W (upd G p o) ρ (upd H p o) os ∧ Same G (upd G p o) := by
  have gn : G p = none := by
    cases q : G p with
    | none => rfl
    | some u => rw [h.gh _ _ q] at n; cases n
  have e : Same G (upd G p o) := same_new gn o
  have np := h.fresh n
  refine ⟨⟨fun b u q => ?_, h.len, h.nd, fun k a x ha hx => ?_, fun a u q m => ?_, h.ow, fun a ha => ?_, fun a ha => ?_⟩, e⟩
  · by_cases eb : b = p
    · subst eb
      rw [upd_same] at q
      rw [noT_at nt]
      exact q
    · rw [upd_ne eb] at q
      rw [noT_ne eb]
      exact h.gn _ _ q
  · have ne : a ≠ p := fun z => np (z ▸ mem_of ha)
    rcases h.ob k a x ha hx with ⟨q, u, hu⟩ | ⟨q1, q2⟩
    · exact .inl ⟨q, u, e _ _ hu⟩
    · exact .inr ⟨by rw [upd_ne ne]; exact q1, OOR.mono (Ext.of e) (upd_ne ne) q2⟩
  · have q2 := h.fr a u q m
    rw [upd_ne (ne_of_none q2 n)]
    exact q2
  · obtain ⟨u, q⟩ := h.tr a ha
    exact ⟨u, by rw [upd_ne (ne_of_none q n)]; exact q⟩
  · obtain ⟨x1, x2, u, q⟩ := h.ex a ha
    have ne := ne_of_none q.1 n
    exact ⟨by rw [upd_ne ne]; exact x1, x2, u, by rw [upd_ne ne]; exact q⟩
/-- something new is laid: an object of the table -/
theorem Wo.obj (h : Wo K W G ρ H os) (n : H p = none) {x : OO} (q : ∀ e : Ext G ρ G (ρ ++ [p]), OOR K G (ρ ++ [p]) (upd H p o) p x) : Wo K W G (ρ ++ [p]) (upd H p o) (os ++ [x]) ∧ Ext G ρ G (ρ ++ [p]) := by
  have gn : G p = none := by
    cases q : G p with
    | none => rfl
    | some u => rw [h.gh _ _ q] at n; cases n
  have np := h.fresh n
  have e : Ext G ρ G (ρ ++ [p]) := ⟨Same.refl _, [p], rfl⟩
  refine ⟨⟨fun b u q => ?_, ?_, ?_, fun k a y ha hx => ?_, fun a u q m => ?_, fun a ha => ?_, fun a ha => ?_, fun a ha => ?_⟩, e⟩
  · have q2 := h.gh _ _ q
    rw [noT_ne (ne_of_none q2 n)]
    exact h.gn _ _ q
  · rw [List.length_append, List.length_append, h.len]
    rfl
  · rw [List.nodup_append]
    refine ⟨h.nd, by simp, fun a ha b hb => ?_⟩
    rw [List.mem_singleton] at hb
    subst hb
    rintro rfl
    exact np ha
  · by_cases hk : k < ρ.length
    · rw [List.getElem?_append_left hk] at ha
      rw [List.getElem?_append_left (by rw [← h.len]; exact hk)] at hx
      have ne : a ≠ p := fun z => np (z ▸ mem_of ha)
      rcases h.ob k a y ha hx with q | ⟨q1, q2⟩
      · exact .inl q
      · exact .inr ⟨q1, OOR.mono e (upd_ne ne) q2⟩
    · have h1 := (List.getElem?_eq_some_iff.mp ha).1
      rw [List.length_append] at h1
      have hk2 : k = ρ.length := by
        have : [p].length = 1 := rfl
        omega
      subst hk2
      rw [List.getElem?_append_right (Nat.le_refl _), Nat.sub_self] at ha
      rw [List.getElem?_append_right (by rw [h.len]; exact Nat.le_refl _), h.len, Nat.sub_self] at hx
      obtain rfl : p = a := Option.some.inj ha
      obtain rfl : x = y := Option.some.inj hx
      exact .inr ⟨gn, q e⟩
  · have q2 := h.fr a u q m
    rw [upd_ne (ne_of_none q2 n)]
    exact q2
  · rcases List.mem_append.mp ha with ha | ha
    · exact h.ow a ha
    · rw [List.mem_singleton] at ha
      subst ha
      cases e0 : noT W.H0 a with
      | none => exact .inr rfl
      | some u =>
        by_cases m : a ∈ W.M
        · exact .inl m
        · rw [h.fr a u e0 m] at n
          cases n
  · by_cases ea : a = p
    · subst ea
      exact ⟨o, upd_same⟩
    · rw [upd_ne ea]
      rcases List.mem_append.mp ha with ha | ha
      · exact h.tr a ha
      · rw [List.mem_singleton] at ha
        exact absurd ha ea
  · obtain ⟨x1, x2, u, q⟩ := h.ex a ha
    have ne := ne_of_none q.1 n
    refine ⟨x1, fun z => ?_, u, by rw [upd_ne ne]; exact q⟩
    rcases List.mem_append.mp z with z | z
    · exact x2 z
    · exact ne (List.mem_singleton.mp z)
/-- what stands aside is taken into the table -/
theorem Wo.take (h : Wo K W G ρ H os) (np : p ∉ ρ) (gn : G p = none) (xn : p ∉ W.X) (m : p ∈ W.M ∨ noT W.H0 p = none) (k : H p = some o) {y : OO} (q : OOR K G ρ H p y) : Wo K W G (ρ ++ [p]) H (os ++ [y]) ∧ Ext G ρ G (ρ ++ [p]) := by
  have e : Ext G ρ G (ρ ++ [p]) := ⟨Same.refl _, [p], rfl⟩
  refine ⟨⟨h.gn, ?_, ?_, fun j a z ha hx => ?_, h.fr, fun a ha => ?_, fun a ha => ?_, fun a ha => ?_⟩, e⟩
  · rw [List.length_append, List.length_append, h.len]
    rfl
  · rw [List.nodup_append]
    refine ⟨h.nd, by simp, fun a ha b hb => ?_⟩
    rw [List.mem_singleton] at hb
    subst hb
    rintro rfl
    exact np ha
  · by_cases hk : j < ρ.length
    · rw [List.getElem?_append_left hk] at ha
      rw [List.getElem?_append_left (by rw [← h.len]; exact hk)] at hx
      exact (h.ob j a z ha hx).imp id fun q => ⟨q.1, OOR.mono e rfl q.2⟩
    · have h1 := (List.getElem?_eq_some_iff.mp ha).1
      rw [List.length_append] at h1
      have hk2 : j = ρ.length := by
        have : [p].length = 1 := rfl
        omega
      subst hk2
      rw [List.getElem?_append_right (Nat.le_refl _), Nat.sub_self] at ha
      rw [List.getElem?_append_right (by rw [h.len]; exact Nat.le_refl _), h.len, Nat.sub_self] at hx
      obtain rfl : p = a := Option.some.inj ha
      obtain rfl : y = z := Option.some.inj hx
      exact .inr ⟨gn, OOR.mono e rfl q⟩
  · rcases List.mem_append.mp ha with ha | ha
    · exact h.ow a ha
    · rw [List.mem_singleton] at ha
      subst ha
      exact m
  · rcases List.mem_append.mp ha with ha | ha
    · exact h.tr a ha
    · rw [List.mem_singleton] at ha
      subst ha
      exact ⟨o, k⟩
  · obtain ⟨x1, x2, x3⟩ := h.ex a ha
    refine ⟨x1, fun z => ?_, x3⟩
    rcases List.mem_append.mp z with z | z
    · exact x2 z
    · rw [List.mem_singleton] at z
      subst z
      exact xn ha
/-- an object changes -/
theorem Wo.put (h : Wo K W G ρ H os) {k : Nat} {a : Addr} {y x : OO} (ha : ρ[k]? = some a) (hy : os[k]? = some y) (live : G a = none) (q : OOR K G ρ (upd H a o) a x) : Wo K W G ρ (upd H a o) (os.set k x) := by
  refine ⟨fun b u e => ?_, by rw [List.length_set]; exact h.len, h.nd, fun j b z hb hz => ?_, fun b u e m => ?_, h.ow, fun b hb => ?_, fun b hb => ?_⟩
  · rw [noT_ne (ne_of_none e live)]
    exact h.gn _ _ e
  · by_cases e : j = k
    · subst e
      rw [ha] at hb
      obtain rfl := Option.some.inj hb
      rw [List.getElem?_set_self (List.getElem?_eq_some_iff.mp hy).1] at hz
      obtain rfl := Option.some.inj hz
      exact .inr ⟨live, q⟩
    · rw [List.getElem?_set_ne (Ne.symm e)] at hz
      have ne : b ≠ a := fun z => by
        subst z
        have h1 := (List.getElem?_eq_some_iff.mp ha).1
        exact e ((List.getElem?_inj (List.getElem?_eq_some_iff.mp hb).1 h.nd).mp (hb.trans ha.symm))
      rcases h.ob j b z hb hz with q | ⟨q1, q2⟩
      · exact .inl q
      · exact .inr ⟨q1, OOR.mono Ext.refl (upd_ne ne) q2⟩
  · have hm : b ≠ a := fun z => by
      subst z
      rcases h.ow _ (mem_of ha) with w | w
      · exact m w
      · rw [w] at e
        cases e
    rw [upd_ne hm]
    exact h.fr b u e m
  · by_cases e : b = a
    · subst e
      exact ⟨o, upd_same⟩
    · rw [upd_ne e]
      exact h.tr b hb
  · obtain ⟨x1, x2, u, q⟩ := h.ex b hb
    have ne : b ≠ a := fun z => x2 (z ▸ mem_of ha)
    exact ⟨x1, x2, u, by rw [upd_ne ne]; exact q⟩
/-- an object is known from now on, and changes no more -/
theorem Wo.freeze (h : Wo K W G ρ H os) {k : Nat} {a : Addr} (ha : ρ[k]? = some a) (live : G a = none) (ho : H a = some o) (nt : ∀ ps, o ≠ .tbl ps := by intro _ z; cases z) : Wo K W (upd G a o) ρ H (os.set k .dead) ∧ Same G (upd G a o) := by
  have e := same_new live o
  refine ⟨⟨fun b u q => ?_, by rw [List.length_set]; exact h.len, h.nd, fun j b z hb hz => ?_, h.fr, h.ow, h.tr, fun b hb => ?_⟩, e⟩
  · by_cases eb : b = a
    · subst eb
      rw [upd_same] at q
      rw [noT_of ho nt]
      exact q
    · rw [upd_ne eb] at q
      exact h.gn _ _ q
  · by_cases ej : j = k
    · subst ej
      have hl : j < os.length := by rw [← h.len]; exact (List.getElem?_eq_some_iff.mp ha).1
      rw [List.getElem?_set_self hl] at hz
      refine .inl ⟨(Option.some.inj hz).symm, o, ?_⟩
      rw [ha] at hb
      obtain rfl := Option.some.inj hb
      exact upd_same
    · rw [List.getElem?_set_ne (Ne.symm ej)] at hz
      have ne : b ≠ a := fun z => by
        subst z
        exact ej ((List.getElem?_inj (List.getElem?_eq_some_iff.mp hb).1 h.nd).mp (hb.trans ha.symm))
      rcases h.ob j b z hb hz with ⟨q, u, hu⟩ | ⟨q1, q2⟩
      · exact .inl ⟨q, u, e _ _ hu⟩
      · exact .inr ⟨by rw [upd_ne ne]; exact q1, OOR.mono (Ext.of e) rfl q2⟩
  · obtain ⟨x1, x2, x3⟩ := h.ex b hb
    have ne : b ≠ a := fun z => x2 (z ▸ mem_of ha)
    exact ⟨by rw [upd_ne ne]; exact x1, x2, x3⟩
/-- what stands aside is named -/
theorem Wo.aside (h : Wo K W G ρ H os) (g : G p = none) (n : p ∉ ρ) (k : H p = some o) (ld : LDo o := by trivial) : Wo K ⟨H, ρ, p :: W.X⟩ G ρ H os := ⟨h.gn, h.len, h.nd, h.ob, fun _ _ q _ => noT_le _ _ q, fun _ q => .inl q, h.tr, fun a ha => by
  rcases List.mem_cons.mp ha with rfl | ha
  · exact ⟨g, n, o, k, ld⟩
  · exact h.ex a ha⟩
theorem Wo.back {H1 G1 : Hp} {ρ1 X : List Addr} {os1 : List OO} (h : Wo K W G ρ H os) (k : Wo K ⟨H, ρ, X⟩ G1 ρ1 H1 os1) (s : ∀ a ∈ W.X, a ∈ X) : Wo K W G1 ρ1 H1 os1 := by
  refine ⟨k.gn, k.len, k.nd, k.ob, fun a u q m => ?_, fun a ha => ?_, k.tr, fun a ha => k.ex a (s a ha)⟩
  · refine k.fr a u (noT_of (h.fr a u q m) (noT_no q)) fun z => ?_
    rcases h.ow a z with w | w
    · exact m w
    · rw [w] at q
      cases q
  · rcases k.ow a ha with w | w
    · exact h.ow a w
    · cases e0 : noT W.H0 a with
      | none => exact .inr rfl
      | some u =>
        by_cases m : a ∈ W.M
        · exact .inl m
        · have w2 : noT H a = none := w
          rw [noT_of (h.fr a u e0 m) (noT_no e0)] at w2
          cases w2
/-- what is known grows by what stands -/
theorem Wo.more (h : Wo K W G ρ H os) (g : Same G G') (k : Same G' (noT H)) (n : ∀ a, a ∈ ρ ∨ a ∈ W.X → G a = none → G' a = none) : Wo K W G' ρ H os := ⟨k, h.len, h.nd, fun j b z hb hz => (h.ob j b z hb hz).imp (fun q => ⟨q.1, q.2.imp fun _ => g _ _⟩) fun q => ⟨n b (.inl (mem_of hb)) q.1, OOR.mono (Ext.of g) rfl q.2⟩, h.fr, h.ow, h.tr,
  fun a ha => let ⟨x1, x2, x3⟩ := h.ex a ha; ⟨n a (.inr ha) x1, x2, x3⟩⟩
/-- what is neither known nor of the table may change -/
theorem Wo.side (h : Wo K W G ρ H os) (g : G p = none) (n : p ∉ ρ) (w : p ∈ W.M ∨ noT W.H0 p = none) (ld : LDo o := by trivial) : Wo K W G ρ (upd H p o) os := by
  refine ⟨fun b u q => ?_, h.len, h.nd, fun j b z hb hz => ?_, fun b u q m => ?_, h.ow, fun b hb => ?_, fun b hb => ?_⟩
  · rw [noT_ne (ne_of_none q g)]
    exact h.gn _ _ q
  · have ne : b ≠ p := fun z => n (z ▸ mem_of hb)
    exact (h.ob j b z hb hz).imp id fun q => ⟨q.1, OOR.mono Ext.refl (upd_ne ne) q.2⟩
  · have ne : b ≠ p := fun z => by
      subst z
      rcases w with w | w
      · exact m w
      · rw [w] at q
        cases q
    rw [upd_ne ne]
    exact h.fr b u q m
  · have ne : b ≠ p := fun z => n (z ▸ hb)
    rw [upd_ne ne]
    exact h.tr b hb
  · obtain ⟨x1, x2, u, q⟩ := h.ex b hb
    refine ⟨x1, x2, ?_⟩
    by_cases e : b = p
    · rw [e]
      exact ⟨_, upd_same, ld⟩
    · rw [upd_ne e]
      exact ⟨u, q⟩
end
end De
namespace De
open PySem L2 Bl
structure Zs where
  L : Addr
  M : Addr
  N : Addr
abbrev Exn := (Str × List Str) × List Dt
abbrev Sl := List (Option Ov)
abbrev DG (β : Type) := Sl → List OO → (β → List OO → Prop) → (Exn → List OO → Prop) → Prop
abbrev DE := DG Ov
abbrev DT := DG Bool
abbrev DA := DG (List Ov)
structure SlR (K : PySem.W.Frag) (G : Hp) (ρ : List Addr) (σ : St) (sl : Sl) : Prop where
  len : σ.length = sl.length
  at_ : ∀ (i : Nat) (x : Ov), sl[i]? = some (some x) → ∃ v, σ[i]? = some (some v) ∧ OvR K G ρ v x
theorem SlR.mono {K : PySem.W.Frag} {G G' : Hp} {ρ ρ' : List Addr} {σ : St} {sl : Sl} (h : SlR K G ρ σ sl) (e : Ext G ρ G' ρ') : SlR K G' ρ' σ sl := ⟨h.len, fun i x q => let ⟨v, a, b⟩ := h.at_ i x q; ⟨v, a, b.mono e⟩⟩
theorem SlR.set {K : PySem.W.Frag} {G : Hp} {ρ : List Addr} {σ : St} {sl : Sl} {i : Nat} {v : V} {x : Ov} (h : SlR K G ρ σ sl) (r : OvR K G ρ v x) : SlR K G ρ (σ.set i (some v)) (sl.set i (some x)) := by
  refine ⟨by rw [List.length_set, List.length_set]; exact h.len, fun j y q => ?_⟩
  by_cases e : i = j
  · subst e
    by_cases hi : i < sl.length
    · rw [List.getElem?_set_self hi] at q
      obtain rfl := Option.some.inj (Option.some.inj q)
      exact ⟨v, List.getElem?_set_self (by rw [h.len]; exact hi), r⟩
    · rw [List.getElem?_eq_none (by rw [List.length_set]; omega)] at q
      cases q
  · rw [List.getElem?_set_ne e] at q ⊢
    exact h.at_ j y q
/-- an error leaves -/
def EKr (K : PySem.W.Frag) (Z : Zs) (W : Wd) (G : Hp) (ρ : List Addr) (E : XK) (Ex : Exn → List OO → Prop) : Prop :=
  ∀ (r : Str × List Str) (ys : List V) (ds : List Dt) (cls : Value) (d : Option Addr) (G' : Hp) (ρ' : List Addr) (H' : Hp) (os' : List OO), Ex (r, ds) os' → Wo K W G' ρ' H' os' → Ext G ρ G' ρ' → Rsd K Z.L Z.M Z.N H' cls d r ys → RepAll K G' ys ds → E cls d H'
theorem EKr.mono {K : PySem.W.Frag} {Z : Zs} {W : Wd} {G G' : Hp} {ρ ρ' : List Addr} {E : XK} {Ex : Exn → List OO → Prop} (h : EKr K Z W G ρ E Ex) (e : Ext G ρ G' ρ') : EKr K Z W G' ρ' E Ex := fun r ys ds cls d G1 ρ1 H1 os1 a b c => h r ys ds cls d G1 ρ1 H1 os1 a b (e.trans c)
theorem EKr.no {K : PySem.W.Frag} {Z : Zs} {W : Wd} {G : Hp} {ρ : List Addr} {E : XK} : EKr K Z W G ρ E (fun _ _ => False) := fun _ _ _ _ _ _ _ _ _ a => a.elim
structure Pk {α β : Type} (K : PySem.W.Frag) (Z : Zs) (E : XK) (RR : Hp → List Addr → α → β → Prop) (σ : St) (H : Hp) (Q : α → Hp → Prop) (W : Wd) (G : Hp) (ρ : List Addr) (sl : Sl) (os : List OO) (Qd : β → List OO → Prop) (Ex : Exn → List OO → Prop) : Prop where
  wo : Wo K W G ρ H os
  sl : SlR K G ρ σ sl
  ek : EKr K Z W G ρ E Ex
  po : ∀ (x : β) (os' : List OO) (v : α) (G' : Hp) (ρ' : List Addr) (H' : Hp), Qd x os' → Wo K W G' ρ' H' os' → Ext G ρ G' ρ' → RR G' ρ' v x → Q v H'
/-- a reading that says what d says -/
def lift {α β : Type} (K : PySem.W.Frag) (Z : Zs) (E : XK) (RR : Hp → List Addr → α → β → Prop) (d : DG β) : St → Hp → (α → Hp → Prop) → Prop := fun σ H Q =>
  ∃ (W : Wd) (G : Hp) (ρ : List Addr) (sl : Sl) (os : List OO) (Qd : β → List OO → Prop) (Ex : Exn → List OO → Prop), Pk K Z E RR σ H Q W G ρ sl os Qd Ex ∧ d sl os Qd Ex
section
variable {α β α' β' : Type} {K : PySem.W.Frag} {Z : Zs} {E : XK} {RR : Hp → List Addr → α → β → Prop} {RS : Hp → List Addr → α' → β' → Prop} {σ : St} {H H1 : Hp} {Q : α → Hp → Prop} {Q' : α' → Hp → Prop} {W : Wd} {G G1 : Hp} {ρ ρ1 : List Addr} {sl : Sl} {os os1 : List OO} {Qd : β → List OO → Prop} {Ex : Exn → List OO → Prop}
theorem Pk.at (p : Pk K Z E RR σ H Q W G ρ sl os Qd Ex) (w : Wo K W G1 ρ1 H1 os1) (e : Ext G ρ G1 ρ1) : Pk K Z E RR σ H1 Q W G1 ρ1 sl os1 Qd Ex := ⟨w, p.sl.mono e, p.ek.mono e, fun x os' v G' ρ' H' a b c => p.po x os' v G' ρ' H' a b (e.trans c)⟩
/-- first a part, then what comes behind -/
theorem Pk.bind {d : DG β'} (p : Pk K Z E RR σ H Q W G ρ sl os Qd Ex) (k : β' → List OO → Prop) (h : d sl os k Ex)
    (n : ∀ (x : β') (os' : List OO) (v : α') (G' : Hp) (ρ' : List Addr) (H' : Hp), k x os' → Pk K Z E RR σ H' Q W G' ρ' sl os' Qd Ex → RS G' ρ' v x → Ext G ρ G' ρ' → Q' v H') : lift K Z E RS d σ H Q' :=
  ⟨W, G, ρ, sl, os, k, Ex, ⟨p.wo, p.sl, p.ek, fun x os' v G' ρ' H' a b c r => n x os' v G' ρ' H' a (p.at b c) r c⟩, h⟩
theorem Pk.end_ (p : Pk K Z E RR σ H Q W G ρ sl os Qd Ex) {x : β} {v : α} (q : Qd x os) (r : RR G ρ v x) : Q v H := p.po x os v G ρ H q p.wo Ext.refl r
end
theorem PE.weak {X : Cx} {e : Expr} {t t' : TE} (h : PE X e t) (k : ∀ σ H Q, t' σ H Q → t σ H Q) : PE X e t' := ⟨fun pins s σ H Q I q => h.run pins s σ H Q I (k _ _ _ q)⟩
theorem PT.weak {X : Cx} {e : Expr} {t t' : TT} (h : PT X e t) (k : ∀ σ H Q, t' σ H Q → t σ H Q) : PT X e t' := ⟨fun pins s σ H Q I q => h.run pins s σ H Q I (k _ _ _ q)⟩
theorem PW.weak {X : Cx} {e : Expr} {t t' : TT} (h : PW X e t) (k : ∀ σ H Q, t' σ H Q → t σ H Q) : PW X e t' := ⟨fun w pins s σ H Q I q => h.run w pins s σ H Q I (k _ _ _ q)⟩
theorem PA.weak {X : Cx} {e : List Expr} {t t' : TA} (h : PA X e t) (k : ∀ σ H Q, t' σ H Q → t σ H Q) : PA X e t' := ⟨fun pos pins s σ H Q I q => h.run pos pins s σ H Q I (k _ _ _ q)⟩
theorem pe_or2 {X : Cx} {e : Expr} {t u : TE} (h : PE X e t) (k : PE X e u) : PE X e (fun σ H Q => t σ H Q ∨ u σ H Q) := ⟨fun pins s σ H Q I q => q.elim (h.run pins s σ H Q I) (k.run pins s σ H Q I)⟩
theorem op_or {X : Cx} {f : Value → Value → Sem Value} {r r' : R2} (h : OpR X f r) (k : OpR X f r') : OpR X f (fun x y H Q => r x y H Q ∨ r' x y H Q) := fun pins s σ H x y v u Q I a b q => q.elim (h pins s σ H x y v u Q I a b) (k pins s σ H x y v u Q I a b)
theorem ix_or {X : Cx} {r r' : R2} (h : IxR X r) (k : IxR X r') : IxR X (fun x y H Q => r x y H Q ∨ r' x y H Q) := fun va sl pins s σ H x y v u Q I a b q => q.elim (h va sl pins s σ H x y v u Q I a b) (k va sl pins s σ H x y v u Q I a b)
def RE (K : PySem.W.Frag) (G : Hp) (ρ : List Addr) (v : V) (x : Ov) : Prop := OvR K G ρ v x
def RT (_ : Hp) (_ : List Addr) (v : Bool) (x : Bool) : Prop := v = x
def RA (K : PySem.W.Frag) (G : Hp) (ρ : List Addr) (v : List V) (x : List Ov) : Prop := Paired (OvR K G ρ) v x
abbrev PD (X : Cx) (Z : Zs) (E : XK) (e : Expr) (d : DE) : Prop := PE X e (lift X.K Z E (RE X.K) d)
abbrev PTD (X : Cx) (Z : Zs) (E : XK) (e : Expr) (d : DT) : Prop := PT X e (lift X.K Z E RT d)
abbrev PWD (X : Cx) (Z : Zs) (E : XK) (e : Expr) (d : DT) : Prop := PW X e (lift X.K Z E RT d)
abbrev PAD (X : Cx) (Z : Zs) (E : XK) (e : List Expr) (d : DA) : Prop := PA X e (lift X.K Z E (RA X.K) d)
def dts : List Ov → Option (List Dt)
  | [] => some []
  | .d x :: r => (dts r).map (x :: ·)
  | .o _ :: _ => none
def dtk {κ : Type} : List (κ × Ov) → Option (List (κ × Dt))
  | [] => some []
  | (k, .d x) :: r => (dtk r).map ((k, x) :: ·)
  | (_, .o _) :: _ => none
def rdD (os : List OO) : Ov → Option Dt
  | .d x => some x
  | .o k => match os[k]? with
    | some (.lst xs) => (dts xs).map .lst
    | some (.dct ks) => (dtk ks).map .dct
    | _ => none
/-- with what is read -/
def Rdd (os : List OO) (x : Ov) (k : Dt → Prop) : Prop := match rdD os x with
  | some d => k d
  | none => False
def Rdds (os : List OO) : List Ov → (List Dt → Prop) → Prop
  | [], k => k []
  | x :: xs, k => Rdd os x fun d => Rdds os xs fun ds => k (d :: ds)
def Snp (K : PySem.W.Frag) (G H : Hp) (v : V) : Dt → Prop
  | .lst ds => ∃ a vs, v = .ref a ∧ H a = some (.lst vs) ∧ RepAll K G vs ds ∧ ds.length ≤ sizeLine
  | .dct ks => ∃ a kvs, v = .ref a ∧ Rd H a (.dK kvs) ∧ RepK K G kvs ks
  | d => Rep K G v d
section
variable {K : PySem.W.Frag} {W : Wd} {G H : Hp} {ρ : List Addr} {os : List OO} {v : V} {x : Ov} {d : Dt}
theorem Snp.of (g : Same G H) (h : Rep K G v d) : Snp K G H v d := by
  cases h with
  | lst h k l => exact ⟨_, _, rfl, g _ _ h, k, l⟩
  | dct h k => exact ⟨_, _, rfl, rd_mono g h, k⟩
  | tup h k l => exact Rep.tup h k l
  | ins h k => exact Rep.ins h k
  | non => exact Rep.non
  | bl b => exact Rep.bl b
  | int b => exact Rep.int b
  | str b h => exact Rep.str b h
  | raw _ => exact Rep.raw _
  | lam L h => exact Rep.lam L h
theorem Snp.rep (g : Same G H) (h : Snp K G H v d) : Rep K H v d := by
  cases d with
  | lst ds =>
    obtain ⟨a, vs, rfl, h1, h2, h3⟩ := h
    exact .lst h1 (h2.mono g) h3
  | dct ds =>
    obtain ⟨a, vs, rfl, h1, h2⟩ := h
    exact .dct h1 (h2.mono g)
  | _ => exact Rep.mono g h
theorem dts_rep : ∀ {vs : List V} {xs : List Ov} {ds : List Dt}, Paired (OvR K G ρ) vs xs → dts xs = some ds → RepAll K G vs ds
  | _, _, _, .nil, e => by
    obtain rfl := Option.some.inj e
    exact .nil
  | _, .d x :: xs, ds, .cons h t, e => by
    have e2 : (dts xs).map (x :: ·) = some ds := e
    cases q : dts xs with
    | none => rw [q] at e2; cases e2
    | some es =>
      rw [q] at e2
      obtain rfl := Option.some.inj e2
      exact .cons h (dts_rep t q)
  | _, .o _ :: _, _, .cons _ _, e => nomatch e
theorem dtk_rep : ∀ {vs : List (Key × V)} {xs : List (Key × Ov)} {ds : List (Key × Dt)}, Paired (fun p q => p.1 = q.1 ∧ OvR K G ρ p.2 q.2) vs xs → dtk xs = some ds → RepK K G vs ds
  | _, _, _, .nil, e => by
    obtain rfl := Option.some.inj e
    exact .nil
  | (k, v) :: _, (_, .d x) :: xs, ds, .cons ⟨h0, h⟩ t, e => by
    obtain rfl := h0
    have e2 : (dtk xs).map ((k, x) :: ·) = some ds := e
    cases q : dtk xs with
    | none => rw [q] at e2; cases e2
    | some es =>
      rw [q] at e2
      obtain rfl := Option.some.inj e2
      exact .cons h (dtk_rep t q)
  | _, (_, .o _) :: _, _, .cons _ _, e => nomatch e
theorem Wo.snp (w : Wo K W G ρ H os) (r : OvR K G ρ v x) (e : rdD os x = some d) : Snp K G H v d := by
  cases x with
  | d y =>
    obtain rfl := Option.some.inj e
    exact Snp.of w.gh r
  | o k =>
    obtain ⟨a, ha, rfl⟩ := r
    cases q : os[k]? with
    | none =>
      simp only [rdD, q] at e
      cases e
    | some y =>
      cases y with
      | lst xs =>
        simp only [rdD, q] at e
        cases q2 : dts xs with
        | none => rw [q2] at e; cases e
        | some ds =>
          rw [q2] at e
          obtain rfl := Option.some.inj e
          rcases w.ob k a _ ha q with z | ⟨_, vs, z, p, hl⟩
          · cases z.1
          · have r := dts_rep p q2
            exact ⟨a, vs, rfl, z, r, by rw [← r.len, Paired.length p]; exact hl⟩
      | dct xs =>
        simp only [rdD, q] at e
        cases q2 : dtk xs with
        | none => rw [q2] at e; cases e
        | some ds =>
          rw [q2] at e
          obtain rfl := Option.some.inj e
          rcases w.ob k a _ ha q with z | ⟨_, vs, z, p⟩
          · cases z.1
          · exact ⟨a, vs, rfl, .inl z, dtk_rep p q2⟩
      | dead =>
        simp only [rdD, q] at e
        cases e
      | ins C fs =>
        simp only [rdD, q] at e
        cases e
      | tbl P q0 =>
        simp only [rdD, q] at e
        cases e
theorem Rdd.get {k : Dt → Prop} (h : Rdd os x k) : ∃ d, rdD os x = some d ∧ k d := by
  unfold Rdd at h
  split at h
  · rename_i d e
    exact ⟨d, e, h⟩
  · exact h.elim
theorem Rdds.get : ∀ {xs : List Ov} {vs : List V} {k : List Dt → Prop}, Wo K W G ρ H os → Paired (OvR K G ρ) vs xs → Rdds os xs k → ∃ ds, Paired (Snp K G H) vs ds ∧ k ds
  | _, _, _, _, .nil, h => ⟨[], .nil, h⟩
  | _, _, _, w, .cons r t, h => by
    obtain ⟨d, e, h⟩ := Rdd.get h
    obtain ⟨ds, p, q⟩ := Rdds.get w t h
    exact ⟨d :: ds, .cons (w.snp r e) p, q⟩
end
/-- what an operation on data hands out -/
def Res (K : PySem.W.Frag) (W : Wd) (G : Hp) (ρ : List Addr) (os : List OO) (z : Dt) (Q : VK) : Prop := ∀ (w : V) (G' H' : Hp), Same G G' → Wo K W G' ρ H' os → Rep K G' w z → Q w H'
theorem Pk.res {K : PySem.W.Frag} {Z : Zs} {E : XK} {σ : St} {H : Hp} {Q : VK} {W : Wd} {G : Hp} {ρ : List Addr} {sl : Sl} {os : List OO} {Qd : Ov → List OO → Prop} {Ex : Exn → List OO → Prop} {z : Dt} (p : Pk K Z E (RE K) σ H Q W G ρ sl os Qd Ex) (q : Qd (.d z) os) : Res K W G ρ os z Q :=
  fun w G' H' s wo r => p.po _ _ _ _ _ _ q wo (Ext.of s) r
abbrev G2 := Dt → Dt → (Dt → Prop) → Prop
abbrev GN := List Dt → (Dt → Prop) → Prop
def OpD (X : Cx) (f : Value → Value → Sem Value) (g : G2) : Prop := ∃ r : R2, OpR X f r ∧ ∀ (W : Wd) (G : Hp) (ρ : List Addr) (H : Hp) (os : List OO) (v u : V) (d e : Dt) (Q : VK) (k : Dt → Prop), Wo X.K W G ρ H os → Snp X.K G H v d → Snp X.K G H u e → g d e k → (∀ z, k z → Res X.K W G ρ os z Q) → r v u H Q
def CallD (X : Cx) (f : Value) (g : GN) : Prop := ∃ r : List V → Hp → VK → Prop, CallR X f r ∧ ∀ (W : Wd) (G : Hp) (ρ : List Addr) (H : Hp) (os : List OO) (vs : List V) (ds : List Dt) (Q : VK) (k : Dt → Prop), Wo X.K W G ρ H os → Paired (Snp X.K G H) vs ds → g ds k → (∀ z, k z → Res X.K W G ρ os z Q) → r vs H Q
def IxD (X : Cx) (g : G2) : Prop := ∃ r : R2, IxR X r ∧ ∀ (W : Wd) (G : Hp) (ρ : List Addr) (H : Hp) (os : List OO) (v u : V) (d e : Dt) (Q : VK) (k : Dt → Prop), Wo X.K W G ρ H os → Snp X.K G H v d → Snp X.K G H u e → g d e k → (∀ z, k z → Res X.K W G ρ os z Q) → r v u H Q
def dVar (i : Nat) : DE := fun sl os Q _ => ∃ x, sl[i]? = some (some x) ∧ Q x os
def dC (d : Dt) : DE := fun _ os Q _ => Q (.d d) os
def dNil : DA := fun _ os Q _ => Q [] os
def dCons (a : DE) (r : DA) : DA := fun sl os Q Ex => a sl os (fun x os1 => r sl os1 (fun xs os2 => Q (x :: xs) os2) Ex) Ex
def dOp (g : G2) (a b : DE) : DE := fun sl os Q Ex => a sl os (fun x os1 => b sl os1 (fun y os2 => Rdd os2 x fun d => Rdd os2 y fun e => g d e fun z => Q (.d z) os2) Ex) Ex
def dFn (g : GN) (a : DA) : DE := fun sl os Q Ex => a sl os (fun xs os1 => Rdds os1 xs fun ds => g ds fun z => Q (.d z) os1) Ex
section
variable {X : Cx} {Z : Zs} {E : XK} {e a b c : Expr} {es : List Expr} {da db dc : DE} {dr : DA} {pos p : Pos}
theorem pd_of {t : TE} {d : DE} (h : PE X e t) (k : ∀ (σ : St) (H : Hp) (Q : VK) (W : Wd) (G : Hp) (ρ : List Addr) (sl : Sl) (os : List OO) (Qd : Ov → List OO → Prop) (Ex : Exn → List OO → Prop), Pk X.K Z E (RE X.K) σ H Q W G ρ sl os Qd Ex → d sl os Qd Ex → t σ H Q) : PD X Z E e d :=
  PE.weak h fun σ H Q ⟨W, G, ρ, sl, os, Qd, Ex, p, q⟩ => k σ H Q W G ρ sl os Qd Ex p q
theorem pd_var {i : Nat} (h : PE X e (tVar i)) : PD X Z E e (dVar i) := pd_of h fun σ H Q W G ρ sl os Qd Ex p ⟨x, hx, q⟩ => by
  obtain ⟨v, hv, r⟩ := p.sl.at_ i x hx
  exact ⟨v, hv, p.end_ q r⟩
theorem pd_c {v : V} {d : Dt} (h : PE X e (tC v)) (r : ∀ G : Hp, Rep X.K G v d) : PD X Z E e (dC d) := pd_of h fun σ H Q W G ρ sl os Qd Ex p q => p.end_ q (r G)
theorem pd_int {i j} : PD X Z E (.Constant (.int i) j pos) (dC (.int i)) := pd_c pe_int fun _ => .int i
theorem pd_str {i j} (h : okz i := by decide +kernel) : PD X Z E (.Constant (.str i) j pos) (dC (.str i)) := pd_c pe_str fun _ => .str i h
theorem pd_bl {i j} : PD X Z E (.Constant (.bool i) j pos) (dC (.bl i)) := pd_c pe_bl fun _ => .bl i
theorem pd_non {j} : PD X Z E (.Constant .none j pos) (dC .non) := pd_c pe_non fun _ => .non
theorem pad_nil : PAD X Z E [] dNil := PA.weak pa_nil fun σ H Q ⟨W, G, ρ, sl, os, Qd, Ex, p, q⟩ => p.end_ (v := []) q .nil
theorem pad_cons (ha : PD X Z E e da) (hr : PAD X Z E es dr) (hs : starEach (e :: es) X.env = (false, eval e X.env) :: starEach es X.env := by rfl) : PAD X Z E (e :: es) (dCons da dr) := PA.weak (pa_cons ha hr hs) fun σ H Q ⟨W, G, ρ, sl, os, Qd, Ex, p, q⟩ =>
  p.bind (RS := RE X.K) _ q fun x os1 v G1 ρ1 H1 q1 p1 r1 e1 => p1.bind (RS := RA X.K) _ q1 fun xs os2 vs G2 ρ2 H2 q2 p2 r2 e2 => p2.end_ q2 (.cons (OvR.mono e2 r1) r2)
theorem pd_op {op : Operator} {g : G2} (ho : OpD X (binaryOp op) g) (ha : PD X Z E a da) (hb : PD X Z E b db) : PD X Z E (.BinOp a op b pos) (dOp g da db) := by
  obtain ⟨r, hr, k⟩ := ho
  refine pd_of (pe_op hr ha hb) fun σ H Q W G ρ sl os Qd Ex p q => ?_
  refine p.bind (RS := RE X.K) _ q fun x os1 v G1 ρ1 H1 q1 p1 r1 e1 => p1.bind (RS := RE X.K) _ q1 fun y os2 u G2 ρ2 H2 q2 p2 r2 e2 => ?_
  obtain ⟨d, hd, q3⟩ := Rdd.get q2
  obtain ⟨e, he, q4⟩ := Rdd.get q3
  exact k W G2 ρ2 H2 os2 v u d e Q _ p2.wo (p2.wo.snp (OvR.mono e2 r1) hd) (p2.wo.snp r2 he) q4 fun z hz => p2.res hz
theorem pd_cmp {op : CmpOp} {g : G2} (ho : OpD X (compareOp op) g) (ha : PD X Z E a da) (hb : PD X Z E b db) (h1 : behindInMarks op b = false) : PD X Z E (.Compare a [op] [b] pos) (dOp g da db) := by
  obtain ⟨r, hr, k⟩ := ho
  refine pd_of (pe_cmpR hr ha hb h1) fun σ H Q W G ρ sl os Qd Ex p q => ?_
  refine p.bind (RS := RE X.K) _ q fun x os1 v G1 ρ1 H1 q1 p1 r1 e1 => p1.bind (RS := RE X.K) _ q1 fun y os2 u G2 ρ2 H2 q2 p2 r2 e2 => ?_
  obtain ⟨d, hd, q3⟩ := Rdd.get q2
  obtain ⟨e, he, q4⟩ := Rdd.get q3
  exact k W G2 ρ2 H2 os2 v u d e Q _ p2.wo (p2.wo.snp (OvR.mono e2 r1) hd) (p2.wo.snp r2 he) q4 fun z hz => p2.res hz
end
end De
namespace De
open PySem L2 Bl
def asB (x : Ov) (k : Bool → Prop) : Prop := match x with | .d (.bl b) => k b | _ => False
def asL (x : Option (List Dt)) (k : List Dt → Prop) : Prop := match x with | some ds => k ds | none => False
def dTst (a : DE) : DT := fun sl os Q Ex => a sl os (fun x os1 => asB x fun b => Q b os1) Ex
def dAndT (a b : DT) : DT := fun sl os Q Ex => a sl os (fun c os1 => if c = true then b sl os1 Q Ex else Q false os1) Ex
def dOrT (a b : DT) : DT := fun sl os Q Ex => a sl os (fun c os1 => if c = true then Q true os1 else b sl os1 Q Ex) Ex
def dNotT (a : DT) : DT := fun sl os Q Ex => a sl os (fun c os1 => Q (!c) os1) Ex
def dAnd (a b : DE) : DE := fun sl os Q Ex => a sl os (fun x os1 => asB x fun c => if c = true then b sl os1 Q Ex else Q (.d (.bl false)) os1) Ex
def dOr (a b : DE) : DE := fun sl os Q Ex => a sl os (fun x os1 => asB x fun c => if c = true then Q (.d (.bl true)) os1 else b sl os1 Q Ex) Ex
def dNot (a : DE) : DE := fun sl os Q Ex => a sl os (fun x os1 => asB x fun c => Q (.d (.bl (!c))) os1) Ex
def dIfE (c : DT) (a b : DE) : DE := fun sl os Q Ex => c sl os (fun c os1 => if c = true then a sl os1 Q Ex else b sl os1 Q Ex) Ex
theorem bl_get {K : PySem.W.Frag} {G : Hp} {ρ : List Addr} {v : V} {x : Ov} {k : Bool → Prop} (r : OvR K G ρ v x) (h : asB x k) : ∃ b, v = .bl b ∧ x = .d (.bl b) ∧ k b := by
  cases x with
  | o j => exact h.elim
  | d d =>
    cases d with
    | bl b =>
      cases r
      exact ⟨b, rfl, rfl, h⟩
    | _ => exact h.elim
section
variable {X : Cx} {Z : Zs} {E : XK} {e a b c : Expr} {es rest : List Expr} {da db dc : DE} {ta tb : DT} {dr : DA} {pos p : Pos}
theorem pd_one {op} (h : PD X Z E a da) : PD X Z E (.BoolOp op [a] pos) da := pe_one h
theorem pd_and (ha : PD X Z E a da) (hb : PD X Z E (.BoolOp .And (b :: rest) pos) db) : PD X Z E (.BoolOp .And (a :: b :: rest) pos) (dAnd da db) :=
  pd_of (pe_and ha hb) fun σ H Q W G ρ sl os Qd Ex p q => p.bind (RS := RE X.K) _ q fun x os1 v G1 ρ1 H1 q1 p1 r1 e1 => by
    obtain ⟨c, rfl, rfl, q2⟩ := bl_get (k := fun c => if c = true then db sl os1 Qd Ex else Qd (.d (.bl false)) os1) r1 q1
    refine ⟨c, rfl, ?_⟩
    cases c with
    | true => exact iteT (p1.bind (RS := RE X.K) _ q2 fun y os2 u G2 ρ2 H2 q3 p2 r2 e2 => p2.end_ q3 r2)
    | false => exact iteF (p1.end_ q2 (.bl false))
theorem pd_or (ha : PD X Z E a da) (hb : PD X Z E (.BoolOp .Or (b :: rest) pos) db) : PD X Z E (.BoolOp .Or (a :: b :: rest) pos) (dOr da db) :=
  pd_of (pe_or ha hb) fun σ H Q W G ρ sl os Qd Ex p q => p.bind (RS := RE X.K) _ q fun x os1 v G1 ρ1 H1 q1 p1 r1 e1 => by
    obtain ⟨c, rfl, rfl, q2⟩ := bl_get (k := fun c => if c = true then Qd (.d (.bl true)) os1 else db sl os1 Qd Ex) r1 q1
    refine ⟨c, rfl, ?_⟩
    cases c with
    | false => exact iteF (p1.bind (RS := RE X.K) _ q2 fun y os2 u G2 ρ2 H2 q3 p2 r2 e2 => p2.end_ q3 r2)
    | true => exact iteT (p1.end_ q2 (.bl true))
theorem ptd_of {t : TT} {d : DT} (h : PT X e t) (k : ∀ (σ : St) (H : Hp) (Q : Bool → Hp → Prop) (W : Wd) (G : Hp) (ρ : List Addr) (sl : Sl) (os : List OO) (Qd : Bool → List OO → Prop) (Ex : Exn → List OO → Prop), Pk X.K Z E RT σ H Q W G ρ sl os Qd Ex → d sl os Qd Ex → t σ H Q) : PTD X Z E e d :=
  PT.weak h fun σ H Q ⟨W, G, ρ, sl, os, Qd, Ex, p, q⟩ => k σ H Q W G ρ sl os Qd Ex p q
/-- a test by its value -/
theorem ptd_tst (h : PD X Z E e da) (he : ∀ whole, isTrue e X.env whole = (do let v ← whole; standAt e.pos; holding [v] (truthy v)) := by intro _; rfl) : PTD X Z E e (dTst da) :=
  ptd_of (pt_val h he) fun σ H Q W G ρ sl os Qd Ex p q => p.bind (RS := RE X.K) _ q fun x os1 v G1 ρ1 H1 q1 p1 r1 e1 => by
    obtain ⟨c, rfl, rfl, q2⟩ := bl_get (k := fun c => Qd c os1) r1 q1
    exact ⟨c, rfl, p1.end_ (v := c) q2 rfl⟩
theorem ptd_cmp {op : CmpOp} {g : G2} (ho : OpD X (compareOp op) g) (ha : PD X Z E a da) (hb : PD X Z E b db) (h1 : behindInMarks op b = false) : PTD X Z E (.Compare a [op] [b] pos) (dTst (dOp g da db)) := by
  obtain ⟨r, hr, k⟩ := ho
  refine ptd_of (pt_cmpR hr ha hb h1) fun σ H Q W G ρ sl os Qd Ex p q => ?_
  refine p.bind (RS := RE X.K) _ q fun x os1 v G1 ρ1 H1 q1 p1 r1 e1 => p1.bind (RS := RE X.K) _ q1 fun y os2 u G2 ρ2 H2 q2 p2 r2 e2 => ?_
  obtain ⟨d, hd, q3⟩ := Rdd.get q2
  obtain ⟨e, he, q4⟩ := Rdd.get q3
  refine k W G2 ρ2 H2 os2 v u d e _ _ p2.wo (p2.wo.snp (OvR.mono e2 r1) hd) (p2.wo.snp r2 he) q4 fun z hz => ?_
  intro w G' H' s wo rw
  obtain ⟨c, rfl, _, q5⟩ := bl_get (K := X.K) (G := G') (ρ := ρ2) (x := .d z) (k := fun c => Qd c os2) rw hz
  exact ⟨c, rfl, (p2.at wo (Ext.of s)).end_ (v := c) q5 rfl⟩
theorem pwd_or1 (ha : PTD X Z E a ta) : PWD X Z E (.BoolOp .Or [a] pos) ta := pw_or1 ha
theorem pwd_of {t : TT} {d : DT} (h : PW X e t) (k : ∀ (σ : St) (H : Hp) (Q : Bool → Hp → Prop) (W : Wd) (G : Hp) (ρ : List Addr) (sl : Sl) (os : List OO) (Qd : Bool → List OO → Prop) (Ex : Exn → List OO → Prop), Pk X.K Z E RT σ H Q W G ρ sl os Qd Ex → d sl os Qd Ex → t σ H Q) : PWD X Z E e d :=
  PW.weak h fun σ H Q ⟨W, G, ρ, sl, os, Qd, Ex, p, q⟩ => k σ H Q W G ρ sl os Qd Ex p q
theorem pwd_or (ha : PTD X Z E a ta) (hb : PWD X Z E (.BoolOp .Or (b :: rest) pos) tb) : PWD X Z E (.BoolOp .Or (a :: b :: rest) pos) (dOrT ta tb) :=
  pwd_of (pw_or ha hb) fun σ H Q W G ρ sl os Qd Ex p q => p.bind (RS := RT) _ q fun c os1 v G1 ρ1 H1 q1 p1 r1 e1 => by
    obtain rfl : v = c := r1
    cases v with
    | false => exact iteF (p1.bind (RS := RT) _ q1 fun y os2 u G2 ρ2 H2 q3 p2 r2 e2 => p2.end_ q3 r2)
    | true => exact iteT (p1.end_ (v := true) q1 rfl)
theorem ptd_w (h : PWD X Z E e ta) : PTD X Z E e ta := PW.pt h
theorem ptd_not (ha : PTD X Z E a ta) : PTD X Z E (.UnaryOp .Not a pos) (dNotT ta) :=
  ptd_of (pt_not ha) fun σ H Q W G ρ sl os Qd Ex p q => p.bind (RS := RT) _ q fun c os1 v G1 ρ1 H1 q1 p1 r1 e1 => by
    obtain rfl : v = c := r1
    exact p1.end_ (v := !v) q1 rfl
theorem pd_ifE (hc : PTD X Z E c ta) (ha : PD X Z E a da) (hb : PD X Z E b db) : PD X Z E (.IfExp c a b pos) (dIfE ta da db) :=
  pd_of (pe_ifExp hc ha hb) fun σ H Q W G ρ sl os Qd Ex p q => p.bind (RS := RT) _ q fun c os1 v G1 ρ1 H1 q1 p1 r1 e1 => by
    obtain rfl : v = c := r1
    cases v with
    | true => exact iteT (p1.bind (RS := RE X.K) _ (by simpa using q1) fun y os2 u G2 ρ2 H2 q3 p2 r2 e2 => p2.end_ q3 r2)
    | false => exact iteF (p1.bind (RS := RE X.K) _ (by simpa using q1) fun y os2 u G2 ρ2 H2 q3 p2 r2 e2 => p2.end_ q3 r2)
/-- a < b < c -/
def dChain (g g' : G2) (a b c : DE) : DE := fun sl os Q Ex => a sl os (fun x os1 => b sl os1 (fun y os2 => Rdd os2 x fun d => Rdd os2 y fun e => g d e fun z => asB (.d z) fun k => if k = true then c sl os2 (fun w os3 => Rdd os3 y fun e => Rdd os3 w fun f => g' e f fun z => Q (.d z) os3) Ex else Q (.d (.bl false)) os2) Ex) Ex
theorem ptd_chain {op op' : CmpOp} {g g' : G2} (ho : OpD X (compareOp op) g) (ho' : OpD X (compareOp op') g') (ha : PD X Z E a da) (hb : PD X Z E b db) (hc : PD X Z E c dc)
    (hm : lastMarks [op, op'] [b, c] = false := by with_unfolding_all rfl) : PTD X Z E (.Compare a [op, op'] [b, c] pos) (dTst (dChain g g' da db dc)) := by
  obtain ⟨r, hr, k⟩ := ho
  obtain ⟨r', hr', k'⟩ := ho'
  refine ptd_of (pt_chain hr hr' ha hb hc hm) fun σ H Q W G ρ sl os Qd Ex p q => ?_
  refine p.bind (RS := RE X.K) _ q fun x os1 v G1 ρ1 H1 q1 p1 r1 e1 => p1.bind (RS := RE X.K) _ q1 fun y os2 u G2 ρ2 H2 q2 p2 r2 e2 => ?_
  obtain ⟨d, hd, q3⟩ := Rdd.get q2
  obtain ⟨e, he, q4⟩ := Rdd.get q3
  refine k W G2 ρ2 H2 os2 v u d e _ _ p2.wo (p2.wo.snp (OvR.mono e2 r1) hd) (p2.wo.snp r2 he) q4 fun z hz => ?_
  intro w G' H' s wo rw
  obtain ⟨c, rfl, ez, q5⟩ := bl_get (K := X.K) (G := G') (ρ := ρ2) (x := .d z) (k := fun c => if c = true then dc sl os2 _ Ex else Qd false os2) rw hz
  have p3 := p2.at wo (Ext.of s)
  refine ⟨c, rfl, ?_⟩
  cases c with
  | false => exact iteF ⟨false, rfl, p3.end_ (v := false) q5 rfl⟩
  | true =>
    refine iteT (p3.bind (RS := RE X.K) _ q5 fun w' os3 t G3 ρ3 H3 q6 p4 r4 e4 => ?_)
    obtain ⟨d', hd', q7⟩ := Rdd.get q6
    obtain ⟨f, hf, q8⟩ := Rdd.get q7
    refine k' W G3 ρ3 H3 os3 u t d' f _ _ p4.wo (p4.wo.snp (OvR.mono e4 (OvR.mono (Ext.of s) r2)) hd') (p4.wo.snp r4 hf) q8 fun z hz => ?_
    intro w G' H' s' wo' rw'
    obtain ⟨c, rfl, _, q9⟩ := bl_get (K := X.K) (G := G') (ρ := ρ3) (x := .d z) (k := fun c => Qd c os3) rw' hz
    exact ⟨c, rfl, (p4.at wo' (Ext.of s')).end_ (v := c) q9 rfl⟩
def dTup (a : DA) : DE := fun sl os Q Ex => a sl os (fun xs os1 => xs.length ≤ sizeLine ∧ asL (dts xs) fun ds => Q (.d (.tup ds)) os1) Ex
def dLst (a : DA) : DE := fun sl os Q Ex => a sl os (fun xs os1 => xs.length ≤ sizeLine ∧ asL (dts xs) fun ds => Q (.d (.lst ds)) os1) Ex
theorem dts_get {xs : List Ov} {k : List Dt → Prop} (h : asL (dts xs) k) : ∃ ds, dts xs = some ds ∧ k ds := by
  unfold asL at h
  split at h
  · rename_i d e
    exact ⟨d, e, h⟩
  · exact h.elim
theorem dts_len : ∀ {xs : List Ov} {ds : List Dt}, dts xs = some ds → ds.length = xs.length
  | [], _, e => by
    obtain rfl := Option.some.inj e
    rfl
  | .d x :: xs, ds, e => by
    have e2 : (dts xs).map (x :: ·) = some ds := e
    cases q : dts xs with
    | none => rw [q] at e2; cases e2
    | some es =>
      rw [q] at e2
      obtain rfl := Option.some.inj e2
      rw [List.length_cons, List.length_cons, dts_len q]
  | .o _ :: _, _, e => nomatch e
theorem pairs_len {α β : Type} {F : α → β → Prop} {l : List α} {m : List β} (h : Paired F l m) : l.length = m.length := Paired.length h
theorem pd_tup {x1} (h : PAD X Z E es dr) : PD X Z E (.Tuple es x1 pos) (dTup dr) := pd_of (pe_tup h) fun σ H Q W G ρ sl os Qd Ex p q =>
  p.bind (RS := RA X.K) _ q fun xs os1 vs G1 ρ1 H1 q1 p1 r1 e1 => by
    obtain ⟨hl, q1⟩ := q1
    obtain ⟨ds, e, q2⟩ := dts_get (k := fun ds => Qd (.d (.tup ds)) os1) q1
    refine ⟨by rw [pairs_len r1]; exact hl, fun a ha => ?_⟩
    obtain ⟨w, g⟩ := p1.wo.new ha (.tup vs)
    exact (p1.at w (Ext.of g)).end_ q2 (Rep.tup (SqT.of upd_same) ((dts_rep r1 e).mono g) (by rw [dts_len e]; exact hl))
theorem pd_lst (h : PAD X Z E es dr) : PD X Z E (.List es pos) (dLst dr) := pd_of (pe_lst h) fun σ H Q W G ρ sl os Qd Ex p q =>
  p.bind (RS := RA X.K) _ q fun xs os1 vs G1 ρ1 H1 q1 p1 r1 e1 => by
    obtain ⟨hl, q1⟩ := q1
    obtain ⟨ds, e, q2⟩ := dts_get (k := fun ds => Qd (.d (.lst ds)) os1) q1
    refine ⟨by rw [pairs_len r1]; exact hl, fun a ha => ?_⟩
    obtain ⟨w, g⟩ := p1.wo.new ha (.lst vs)
    exact (p1.at w (Ext.of g)).end_ q2 (Rep.lst upd_same ((dts_rep r1 e).mono g) (by rw [dts_len e]; exact hl))
/-- a list that will change: an object -/
def dLstO (a : DA) : DE := fun sl os Q Ex => a sl os (fun xs os1 => xs.length ≤ sizeLine ∧ Q (.o os1.length) (os1 ++ [.lst xs])) Ex
theorem at_last {ρ : List Addr} {os : List OO} {p : Addr} (h : ρ.length = os.length) : (ρ ++ [p])[os.length]? = some p := by
  rw [← h, List.getElem?_append_right (Nat.le_refl _), Nat.sub_self]
  rfl
theorem pd_lstO (h : PAD X Z E es dr) : PD X Z E (.List es pos) (dLstO dr) := pd_of (pe_lst h) fun σ H Q W G ρ sl os Qd Ex p q =>
  p.bind (RS := RA X.K) _ q fun xs os1 vs G1 ρ1 H1 q1 p1 r1 e1 => by
    obtain ⟨hl, q1⟩ := q1
    refine ⟨by rw [pairs_len r1]; exact hl, fun a ha => ?_⟩
    obtain ⟨w, g⟩ := p1.wo.obj ha (o := .lst vs) (x := .lst xs) fun e => ⟨vs, upd_same, OvRs.mono e r1, hl⟩
    exact (p1.at w g).end_ q1 ⟨a, at_last p1.wo.len, rfl⟩
theorem pd_ix {g : G2} (ho : IxD X g) (ha : PD X Z E a da) (hb : PD X Z E b db) (hs : PlainIx b := by exact fun _ _ => rfl) : PD X Z E (.Subscript a b pos) (dOp g da db) := by
  obtain ⟨r, hr, k⟩ := ho
  refine pd_of (pe_ix hr ha hb hs) fun σ H Q W G ρ sl os Qd Ex p q => ?_
  refine p.bind (RS := RE X.K) _ q fun x os1 v G1 ρ1 H1 q1 p1 r1 e1 => p1.bind (RS := RE X.K) _ q1 fun y os2 u G2 ρ2 H2 q2 p2 r2 e2 => ?_
  obtain ⟨d, hd, q3⟩ := Rdd.get q2
  obtain ⟨e, he, q4⟩ := Rdd.get q3
  exact k W G2 ρ2 H2 os2 v u d e Q _ p2.wo (p2.wo.snp (OvR.mono e2 r1) hd) (p2.wo.snp r2 he) q4 fun z hz => p2.res hz
theorem pd_callB {x : Str} {id : String} {g : GN} (hc : CallD X (.builtin id) g) (hg : Gl X x) (hm : X.mg x = none) (hv : bootBuiltins x = some (.builtin id)) (ha : PAD X Z E (e :: es) dr) (hn : x ≠ "__name__" := by decide) (hdb : (x == ("__debug__" : Str)) = false := by decide)
    (he : starEach (e :: es) X.env = (false, eval e X.env) :: starEach es X.env := by rfl) (hpl : (backTo pos (starEach es X.env)).any (·.1) = false := by rfl) : PD X Z E (.Call (.Name x p) (e :: es) [] pos) (dFn g dr) := by
  obtain ⟨r, hr, k⟩ := hc
  refine pd_of (pe_callB hr hg hm hv ha hn hdb he hpl) fun σ H Q W G ρ sl os Qd Ex p q => ?_
  refine p.bind (RS := RA X.K) _ q fun xs os1 vs G1 ρ1 H1 q1 p1 r1 e1 => ?_
  obtain ⟨ds, hd, q2⟩ := Rdds.get p1.wo r1 q1
  exact k W G1 ρ1 H1 os1 vs ds Q _ p1.wo hd q2 fun z hz => p1.res hz
theorem pd_callTy {x : Str} {T : String} {g : GN} (hc : CallD X (.type T) g) (hg : Gl X x) (hm : X.mg x = none) (hv : bootBuiltins x = some (.type T)) (ha : PAD X Z E (e :: es) dr) (hn : x ≠ "__name__" := by decide) (hdb : (x == ("__debug__" : Str)) = false := by decide)
    (he : starEach (e :: es) X.env = (false, eval e X.env) :: starEach es X.env := by rfl) (hpl : (backTo pos (starEach es X.env)).any (·.1) = false := by rfl) : PD X Z E (.Call (.Name x p) (e :: es) [] pos) (dFn g dr) := by
  obtain ⟨r, hr, k⟩ := hc
  refine pd_of (pe_callTy hr hg hm hv ha hn hdb he hpl) fun σ H Q W G ρ sl os Qd Ex p q => ?_
  refine p.bind (RS := RA X.K) _ q fun xs os1 vs G1 ρ1 H1 q1 p1 r1 e1 => ?_
  obtain ⟨ds, hd, q2⟩ := Rdds.get p1.wo r1 q1
  exact k W G1 ρ1 H1 os1 vs ds Q _ p1.wo hd q2 fun z hz => p1.res hz
end
end De
namespace De
open PySem L2 Bl
abbrev DTg := Ov → Sl → List OO → (Sl → List OO → Prop) → Prop
/-- a target: the slots T may change -/
def liftG (K : PySem.W.Frag) (T : List Nat) (d : DTg) : TG := fun v σ H Q => ∃ (W : Wd) (G : Hp) (ρ : List Addr) (sl : Sl) (os : List OO) (x : Ov) (k : Sl → List OO → Prop), Wo K W G ρ H os ∧ SlR K G ρ σ sl ∧ OvR K G ρ v x ∧ d x sl os k ∧
  ∀ (sl' : Sl) (os' : List OO) (σ' : St) (G' : Hp) (ρ' : List Addr) (H' : Hp), k sl' os' → Wo K W G' ρ' H' os' → SlR K G' ρ' σ' sl' → Ext G ρ G' ρ' → (∀ i, i ∉ T → σ'[i]? = σ[i]?) → σ'.length = σ.length → Q σ' H'
theorem PG.weak {X : Cx} {e : Expr} {t t' : TG} (h : PG X e t) (k : ∀ v σ H Q, t' v σ H Q → t v σ H Q) : PG X e t' := ⟨fun pins s σ H x u Q I r q => h.run pins s σ H x u Q I r (k _ _ _ _ q)⟩
theorem PGs.weak {X : Cx} {e : List Expr} {t t' : TGs} (h : PGs X e t) (k : ∀ v σ H Q, t' v σ H Q → t v σ H Q) : PGs X e t' := ⟨fun pins s σ H x u Q I r q => h.run pins s σ H x u Q I r (k _ _ _ _ q)⟩
abbrev PGD (X : Cx) (T : List Nat) (e : Expr) (d : DTg) : Prop := PG X e (liftG X.K T d)
def dgName (i : Nat) : DTg := fun x sl os k => k (sl.set i (some x)) os
theorem pgd_name {X : Cx} {e : Expr} {i : Nat} (h : PG X e (gName i)) : PGD X [i] e (dgName i) := PG.weak h fun v σ H Q ⟨W, G, ρ, sl, os, x, k, wo, s, r, q, n⟩ =>
  n _ _ _ _ _ _ q wo (s.set r) Ext.refl (fun j hj => List.getElem?_set_ne fun e => hj (by simp [e])) (by rw [List.length_set])
abbrev DTgs := List Ov → Sl → List OO → (Sl → List OO → Prop) → Prop
def liftGs (K : PySem.W.Frag) (T : List Nat) (d : DTgs) : TGs := fun v σ H Q => ∃ (W : Wd) (G : Hp) (ρ : List Addr) (sl : Sl) (os : List OO) (x : List Ov) (k : Sl → List OO → Prop), Wo K W G ρ H os ∧ SlR K G ρ σ sl ∧ Paired (OvR K G ρ) v x ∧ d x sl os k ∧
  ∀ (sl' : Sl) (os' : List OO) (σ' : St) (G' : Hp) (ρ' : List Addr) (H' : Hp), k sl' os' → Wo K W G' ρ' H' os' → SlR K G' ρ' σ' sl' → Ext G ρ G' ρ' → (∀ i, i ∉ T → σ'[i]? = σ[i]?) → σ'.length = σ.length → Q σ' H'
abbrev PGsD (X : Cx) (T : List Nat) (e : List Expr) (d : DTgs) : Prop := PGs X e (liftGs X.K T d)
def dgNil : DTgs := fun xs sl os k => xs = [] ∧ k sl os
def dgCons (a : DTg) (r : DTgs) : DTgs := fun xs sl os k => match xs with
  | x :: xs => a x sl os fun sl1 os1 => r xs sl1 os1 k
  | [] => False
theorem pgsd_nil {X : Cx} : PGsD X [] [] dgNil := PGs.weak pgs_nil fun v σ H Q ⟨W, G, ρ, sl, os, x, k, wo, s, r, ⟨hx, q⟩, n⟩ => by
  subst hx
  cases r
  exact ⟨rfl, n _ _ _ _ _ _ q wo s Ext.refl (fun _ _ => rfl) rfl⟩
theorem pgsd_cons {X : Cx} {e : Expr} {es : List Expr} {T T' : List Nat} {a : DTg} {r : DTgs} (h3 : PGs X (e :: es) (gCons (liftG X.K T a) (liftGs X.K T' r))) : PGsD X (T ++ T') (e :: es) (dgCons a r) := PGs.weak h3 fun v σ H Q ⟨W, G, ρ, sl, os, x, k, wo, s, rr, q, n⟩ => by
  cases rr with
  | nil => exact q.elim
  | @cons v x vs xs r1 rt =>
    refine ⟨v, vs, rfl, W, G, ρ, sl, os, x, _, wo, s, r1, q, fun sl1 os1 σ1 G1 ρ1 H1 q1 wo1 s1 e1 f1 l1 => ?_⟩
    exact ⟨W, G1, ρ1, sl1, os1, xs, k, wo1, s1, OvRs.mono e1 rt, q1, fun sl2 os2 σ2 G2 ρ2 H2 q2 wo2 s2 e2 f2 l2 => n _ _ _ _ _ _ q2 wo2 s2 (e1.trans e2) (fun i hi => (f2 i fun z => hi (List.mem_append_right _ z)).trans (f1 i fun z => hi (List.mem_append_left _ z))) (l2.trans l1)⟩
/-- a, b = a tuple -/
def dgTup (n : Nat) (r : DTgs) : DTg := fun x sl os k => match x with
  | .d (.tup ds) => ds.length = n ∧ r (ds.map .d) sl os k
  | _ => False
theorem ovs_of {K : PySem.W.Frag} {G : Hp} {ρ : List Addr} : ∀ {vs : List V} {ds : List Dt}, RepAll K G vs ds → Paired (OvR K G ρ) vs (ds.map .d)
  | _, _, .nil => .nil
  | _, _, .cons h k => .cons h (ovs_of k)
theorem pgd_tup {X : Cx} {e : Expr} {T : List Nat} {n : Nat} {r : DTgs} (h : PG X e (gTup X.K n (liftGs X.K T r))) : PGD X T e (dgTup n r) := PG.weak h fun v σ H Q ⟨W, G, ρ, sl, os, x, k, wo, s, rr, q, n⟩ => by
  cases x with
  | o j => exact q.elim
  | d d =>
    cases d with
    | tup ds =>
      obtain ⟨hn, q⟩ := q
      cases rr with
      | tup h1 h2 h3 => exact ⟨_, _, rfl, Bl.Same.tup wo.gh h1, by rw [h2.len]; exact hn, W, G, ρ, sl, os, _, k, wo, s, ovs_of h2, q, n⟩
    | _ => exact q.elim
abbrev DI := DG (List Dt)
/-- J goes through ds, whatever comes -/
def RI (K : PySem.W.Frag) (G : Hp) (_ : List Addr) (J : It) (ds : List Dt) : Prop := ds.length ≤ sizeLine ∧ ∀ (W : Wd) (G' : Hp) (ρ : List Addr) (H : Hp) (os : List OO) (i : Nat), Same G G' → Wo K W G' ρ H os →
  (i < ds.length → J.go i H ∧ ∀ x H', J.yld i H x H' → ∃ d G'', ds[i]? = some d ∧ Same G' G'' ∧ Wo K W G'' ρ H' os ∧ Rep K G'' x d) ∧ (ds.length ≤ i → J.stop i H)
theorem RI.mono {K : PySem.W.Frag} {G G' : Hp} {ρ ρ' : List Addr} {J : It} {ds : List Dt} (h : RI K G ρ J ds) (e : Same G G') : RI K G' ρ' J ds := ⟨h.1, fun W G1 ρ1 H os i s w => h.2 W G1 ρ1 H os i (e.trans s) w⟩
theorem PI.weak {X : Cx} {tg e : Expr} {t t' : TI} (h : PI X tg e t) (k : ∀ σ H R, t' σ H R → t σ H R) : PI X tg e t' := ⟨fun pins s σ H R I q => h.run pins s σ H R I (k _ _ _ q)⟩
abbrev PID (X : Cx) (Z : Zs) (E : XK) (tg e : Expr) (d : DI) : Prop := PI X tg e (lift X.K Z E (RI X.K) d)
theorem pid_of {X : Cx} {Z : Zs} {E : XK} {tg e : Expr} {t : TI} {d : DI} (h : PI X tg e t) (k : ∀ (σ : St) (H : Hp) (R : It → Hp → Prop) (W : Wd) (G : Hp) (ρ : List Addr) (sl : Sl) (os : List OO) (Qd : List Dt → List OO → Prop) (Ex : Exn → List OO → Prop), Pk X.K Z E (RI X.K) σ H R W G ρ sl os Qd Ex → d sl os Qd Ex → t σ H R) : PID X Z E tg e d :=
  PI.weak h fun σ H R ⟨W, G, ρ, sl, os, Qd, Ex, p, q⟩ => k σ H R W G ρ sl os Qd Ex p q
def chars (z : Str) : List Dt := z.cps.toList.map fun c => .str ⟨#[c]⟩
/-- what a walk over a value goes through -/
def seqD (os : List OO) (x : Ov) (k : List Dt → List OO → Prop) : Prop := match x with
  | .d (.lst ds) => k ds os
  | .d (.tup ds) => k ds os
  | .d (.str z) => k (chars z) os
  | .o j => match os[j]? with
    | some (.lst xs) => asL (dts xs) fun ds => k ds (os.set j .dead)
    | _ => False
  | _ => False
def dSeq (a : DE) : DI := fun sl os Q Ex => a sl os (fun x os1 => seqD os1 x Q) Ex
section
variable {K : PySem.W.Frag} {G : Hp} {ρ : List Addr} {a : Addr} {vs : List V} {ds : List Dt}
theorem ri_list (h : G a = some (.lst vs)) (r : RepAll K G vs ds) (hl0 : ds.length ≤ sizeLine) : RI K G ρ (Itl K a) ds := ⟨hl0, fun W G' ρ' H os i s w => by
  have hl : SqL K H a vs := SqL.of (w.gh _ _ (s _ _ h))
  have rr := r.mono s
  refine ⟨fun hi => ?_, fun hi => ⟨vs, hl, by rw [rr.len]; exact hi⟩⟩
  obtain ⟨v, hv, rv⟩ := rr.get' (List.getElem?_eq_getElem hi)
  refine ⟨⟨vs, v, hl, hv⟩, ?_⟩
  rintro x H' ⟨rfl, hx⟩
  have := hx vs hl
  rw [hv] at this
  obtain rfl := Option.some.inj this
  exact ⟨_, G', List.getElem?_eq_getElem hi, Same.refl _, w, rv⟩⟩
theorem ri_tup (h : SqT K G a vs) (r : RepAll K G vs ds) (hl0 : ds.length ≤ sizeLine) : RI K G ρ (Itt K a) ds := ⟨hl0, fun W G' ρ' H os i s w => by
  have hl : SqT K H a vs := Bl.Same.tup w.gh (Bl.Same.tup s h)
  have rr := r.mono s
  refine ⟨fun hi => ?_, fun hi => ⟨vs, hl, by rw [rr.len]; exact hi⟩⟩
  obtain ⟨v, hv, rv⟩ := rr.get' (List.getElem?_eq_getElem hi)
  refine ⟨⟨vs, v, hl, hv⟩, ?_⟩
  rintro x H' ⟨rfl, hx⟩
  have := hx vs hl
  rw [hv] at this
  obtain rfl := Option.some.inj this
  exact ⟨_, G', List.getElem?_eq_getElem hi, Same.refl _, w, rv⟩⟩
theorem okz_char {z : Str} {c : Nat} (h : okz z) (hc : c ∈ z.cps.toList) : okz ⟨#[c]⟩ := by
  have h1 : z.cps.all (· < 0x110000) = true := h.1
  rw [← Array.all_toList, List.all_eq_true] at h1
  have h2 := h1 c hc
  refine ⟨?_, by show 1 ≤ sizeLine; decide⟩
  show (#[c] : Array Nat).all (· < 0x110000) = true
  rw [← Array.all_toList]
  simpa using h2
theorem chars_len {z : Str} : (chars z).length = z.cps.size := by unfold chars; rw [List.length_map, Array.length_toList]
theorem ri_str {z : Str} (h : okz z) : RI K G ρ (Its z) (chars z) := by
  refine ⟨by rw [chars_len]; exact h.2, fun W G' ρ' H os i s w => ?_⟩
  have hl : (chars z).length = z.cps.size := chars_len
  refine ⟨fun hi => ⟨by rw [hl] at hi; exact hi, ?_⟩, fun hi => by rw [hl] at hi; exact hi⟩
  rintro x H' ⟨rfl, c, hc, rfl⟩
  have hc2 : z.cps.toList[i]? = some c := by rw [Array.getElem?_toList]; exact hc
  refine ⟨.str ⟨#[c]⟩, G', ?_, Same.refl _, w, .str _ (okz_char h (List.mem_of_getElem? hc2))⟩
  unfold chars
  rw [List.getElem?_map, hc2]
  rfl
end
def rIt (K : PySem.W.Frag) : V → Hp → (It → Hp → Prop) → Prop := fun v H R =>
  (∃ a xs, v = .ref a ∧ SqL K H a xs ∧ R (Itl K a) H) ∨ (∃ a xs, v = .ref a ∧ SqT K H a xs ∧ R (Itt K a) H) ∨ ∃ z, v = .str z ∧ R (Its z) H
theorem pi_any {X : Cx} {tg l : Expr} {tl : TE} (hl : PE X l tl) : PI X tg l (fun σ H R => tl σ H fun v H1 => rIt X.K v H1 R) := by
  refine ⟨fun pins s σ H R I h => thn (hl.run pins s σ H _ I h) fun u s1 ⟨v, H1, I1, r, q⟩ => ?_⟩
  rcases q with ⟨a, xs, rfl, hq, q⟩ | ⟨a, xs, rfl, hq, q⟩ | ⟨z, rfl, q⟩
  · cases r
    obtain ⟨_, _, p, _⟩ := I1.list hq
    exact wpAny_pyIter_list p.isList (pi_one (tk := s1.toks) I1 _ (turn_list a _) ⟨_, Heap.get?_push_size _ rfl, rfl, rfl⟩ q)
  · cases r
    obtain ⟨its, _, p, _⟩ := I1.tuple hq
    exact wpAny_pyIter_tuple (items := its.toArray) p (pi_one (tk := s1.toks) I1 _ (turn_tuple a _) ⟨_, Heap.get?_push_size _ rfl, rfl, rfl⟩ q)
  · obtain ⟨t, rfl⟩ := r
    by_cases ha : z.cps.all (· < 128) = true
    · exact wpAny_pyIter_ascii ha (pi_one (tk := s1.toks) I1 _ (turn_str (tg := tg) _ z t _ (.inl rfl)) ⟨_, Heap.get?_push_size _ rfl, rfl, rfl⟩ q)
    · exact wpAny_pyIter_wide (Bool.eq_false_iff.mpr ha) (pi_one (tk := s1.toks) I1 _ (turn_str (tg := tg) _ z t _ (.inr rfl)) ⟨_, Heap.get?_push_size _ rfl, rfl, rfl⟩ q)
/-- a list, a tuple, a text -/
theorem pid_seq {X : Cx} {Z : Zs} {E : XK} {tg l : Expr} {da : DE} (hl : PD X Z E l da) : PID X Z E tg l (dSeq da) := by
  refine pid_of (pi_any hl) fun σ H R W G ρ sl os Qd Ex p q => ?_
  refine p.bind (RS := RE X.K) _ q fun x os' v G' ρ' H' q1 p1 r1 e1 => ?_
  cases x with
  | o j =>
    obtain ⟨a, ha, rfl⟩ := r1
    unfold seqD at q1
    cases e : os'[j]? with
    | none => simp only [e] at q1
    | some y =>
      cases y with
      | lst xs =>
        simp only [e] at q1
        obtain ⟨ds, e2, q2⟩ := dts_get q1
        rcases p1.wo.ob j a _ ha e with z | ⟨live, vs, hv, pr, hl⟩
        · cases z.1
        · obtain ⟨w, g⟩ := p1.wo.freeze ha live hv
          exact .inl ⟨a, vs, rfl, SqL.of hv, (p1.at w (Ext.of g)).end_ q2 (ri_list upd_same ((dts_rep pr e2).mono g) (by rw [dts_len e2]; exact hl))⟩
      | _ => simp only [e] at q1
  | d d =>
    cases d with
    | lst ds =>
      cases r1 with
      | lst h1 h2 h3 => exact .inl ⟨_, _, rfl, SqL.of (p1.wo.gh _ _ h1), p1.end_ q1 (ri_list h1 h2 h3)⟩
    | tup ds =>
      cases r1 with
      | tup h1 h2 h3 => exact .inr (.inl ⟨_, _, rfl, Bl.Same.tup p1.wo.gh h1, p1.end_ q1 (ri_tup h1 h2 h3)⟩)
    | str z =>
      cases r1 with
      | str _ h => exact .inr (.inr ⟨z, rfl, p1.end_ q1 (ri_str h)⟩)
    | _ => exact q1.elim
def wipeS (sl : Sl) : List Nat → Sl
  | [] => sl
  | v :: vs => (wipeS sl vs).set v none
theorem wipe_at {σ : St} {i : Nat} : ∀ {vs : List Nat}, i ∉ vs → (wipe σ vs)[i]? = σ[i]?
  | [], _ => rfl
  | v :: vs, h => by
    unfold wipe
    rw [List.mem_cons, not_or] at h
    rw [List.getElem?_set_ne (Ne.symm h.1)]
    exact wipe_at h.2
theorem wipe_in {σ : St} {i : Nat} : ∀ {vs : List Nat}, i ∈ vs → (wipe σ vs)[i]? = if i < σ.length then some none else none
  | [], h => by cases h
  | v :: vs, h => by
    unfold wipe
    by_cases e : v = i
    · subst e
      by_cases hl : v < σ.length
      · rw [if_pos hl, List.getElem?_set_self (by rw [wipe_length]; exact hl)]
      · rw [if_neg hl, List.getElem?_eq_none (by rw [List.length_set, wipe_length]; omega)]
    · rw [List.getElem?_set_ne e]
      exact wipe_in ((List.mem_cons.mp h).resolve_left (Ne.symm e))
theorem wipe_eq {σ τ : St} {vs : List Nat} (l : σ.length = τ.length) (h : ∀ i, i ∉ vs → σ[i]? = τ[i]?) : wipe σ vs = wipe τ vs := by
  refine List.ext_getElem? fun i => ?_
  by_cases hi : i ∈ vs
  · rw [wipe_in hi, wipe_in hi, l]
  · rw [wipe_at hi, wipe_at hi, h i hi]
theorem wipe_wipe {σ : St} {vs : List Nat} : wipe (wipe σ vs) vs = wipe σ vs := wipe_eq (wipe_length σ vs) fun _ hi => wipe_at hi
theorem SlR.wipe {K : PySem.W.Frag} {G : Hp} {ρ : List Addr} {σ : St} {sl : Sl} (h : SlR K G ρ σ sl) : ∀ vs : List Nat, SlR K G ρ (wipe σ vs) (wipeS sl vs)
  | [] => h
  | v :: vs => by
    have ih := SlR.wipe h vs
    refine ⟨by unfold L2.wipe wipeS; rw [List.length_set, List.length_set]; exact ih.len, fun i x q => ?_⟩
    unfold wipeS at q
    unfold L2.wipe
    by_cases e : v = i
    · subst e
      by_cases hl : v < (wipeS sl vs).length
      · rw [List.getElem?_set_self hl] at q
        cases q
      · rw [List.getElem?_eq_none (by rw [List.length_set]; omega)] at q
        cases q
    · rw [List.getElem?_set_ne e] at q ⊢
      exact ih.at_ i x q
def noX : Exn → List OO → Prop := fun _ _ => False
/-- the turns of a comprehension -/
def lcGo (dg : DTg) (dt : DT) (de : DE) (sl : Sl) : List Dt → List Dt → List OO → (List Dt → List OO → Prop) → Prop
  | [], acc, os, Q => Q acc os
  | d :: ds, acc, os, Q => dg (.d d) sl os fun sl1 os1 => dt sl1 os1 (fun b os2 => if b = true then de sl1 os2 (fun x os3 => ∃ z, x = .d z ∧ lcGo dg dt de sl ds (acc ++ [z]) os3 Q) noX else lcGo dg dt de sl ds acc os2 Q) noX
def dYes : DT := fun _ os Q _ => Q true os
def dLc (di : DI) (dg : DTg) (dt : DT) (de : DE) (vs : List Nat) : DE := fun sl os Q Ex => di sl os (fun ds os1 => lcGo dg dt de (wipeS sl vs) ds [] os1 fun zs os2 => Q (.d (.lst zs)) os2) Ex
def dLcO (di : DI) (dg : DTg) (dt : DT) (de : DE) (vs : List Nat) : DE := fun sl os Q Ex => di sl os (fun ds os1 => lcGo dg dt de (wipeS sl vs) ds [] os1 fun zs os2 => Q (.o os2.length) (os2 ++ [.lst (zs.map .d)])) Ex
theorem drop_cons {ds : List Dt} {i : Nat} {d : Dt} (h : ds[i]? = some d) : ds.drop i = d :: ds.drop (i + 1) := by
  obtain ⟨hi, e⟩ := List.getElem?_eq_some_iff.mp h
  rw [List.drop_eq_getElem_cons hi, e]
/-- the heart of it -/
theorem lc_run {K : PySem.W.Frag} {Z : Zs} {E0 : XK} {W : Wd} {G H1 : Hp} {ρ : List Addr} {σ : St} {sl : Sl} {os : List OO} {J : It} {ds : List Dt} {dg : DTg} {dt : DT} {de : DE} {T vs : List Nat} {R : List Dt → List OO → Prop} {Qf : Addr → Hp → Prop} (wo : Wo K W G ρ H1 os) (s : SlR K G ρ σ sl) (r : RI K G ρ J ds)
    (hT : ∀ i ∈ T, i ∈ vs) (h : lcGo dg dt de (wipeS sl vs) ds [] os R)
    (fin : ∀ (D : Addr) (zs : List Dt) (os' : List OO) (G' : Hp) (ρ' : List Addr) (H' : Hp) (us : List V), R zs os' → Wo K W G' ρ' H' os' → Ext G ρ G' ρ' → D ∉ ρ' → G' D = none → D ∉ W.X → (D ∈ W.M ∨ noT W.H0 D = none) → H' D = some (.lst us) → RepAll K G' us zs → zs.length ≤ sizeLine → Qf D H') : ∀ D, H1 D = none →
    ∃ Wi : Nat → Nat → Hp → Prop, (∃ m, Wi 0 m (upd H1 D (.lst []))) ∧ ∀ i m H, Wi i m H →
      (J.stop i H ∧ Qf D H) ∨ (J.go i H ∧ ∃ Nx : Hp → Prop, (∀ H', Nx H' → ∃ m', m' < m ∧ Wi (i + 1) m' H') ∧ ∀ x H', J.yld i H x H' → liftG K T dg x (wipe σ vs) H' fun σ2 H2 => wipe σ2 vs = wipe σ vs ∧ lift K Z E0 RT dt σ2 H2 fun b H3 =>
        if b = true then lift K Z E0 (RE K) de σ2 H3 fun y H4 => ∃ acc, H4 D = some (.lst acc) ∧ acc.length < sizeLine ∧ Nx (upd H4 D (.lst (acc ++ [y]))) else Nx H3) := by
  intro D hD
  have gD : G D = none := by
    cases q : G D with
    | none => rfl
    | some u => rw [wo.gh _ _ q] at hD; cases hD
  have wD : D ∈ W.M ∨ noT W.H0 D = none := by
    by_cases m : D ∈ W.M
    · exact .inl m
    · cases q : noT W.H0 D with
      | none => exact .inr rfl
      | some u => rw [wo.fr D u q m] at hD; cases hD
  have nX : D ∉ W.X := fun m => by
    obtain ⟨_, _, u, q⟩ := wo.ex D m
    rw [hD] at q
    cases q.1
  refine ⟨fun i m H => m = ds.length - i ∧ i ≤ ds.length ∧ ∃ (G' : Hp) (ρ' : List Addr) (os' : List OO) (acc : List Dt) (us : List V), Wo K W G' ρ' H os' ∧ Ext G ρ G' ρ' ∧ D ∉ ρ' ∧ G' D = none ∧ H D = some (.lst us) ∧ RepAll K G' us acc ∧ acc.length ≤ i ∧ lcGo dg dt de (wipeS sl vs) (ds.drop i) acc os' R,
    ⟨ds.length, by omega, Nat.zero_le _, G, ρ, os, [], [], wo.side gD (wo.fresh hD) wD, Ext.refl, wo.fresh hD, gD, upd_same, .nil, Nat.zero_le _, h⟩, ?_⟩
  rintro i m H ⟨rfl, hi, G', ρ', os', acc, us, w, e, nD, gD', hDl, ra, hac, hl⟩
  obtain ⟨t1, t2⟩ := r.2 W G' ρ' H os' i e.g w
  by_cases hlt : i < ds.length
  · refine .inr ⟨(t1 hlt).1, fun H' => ∃ (G' : Hp) (ρ' : List Addr) (os' : List OO) (acc : List Dt) (us : List V), Wo K W G' ρ' H' os' ∧ Ext G ρ G' ρ' ∧ D ∉ ρ' ∧ G' D = none ∧ H' D = some (.lst us) ∧ RepAll K G' us acc ∧ acc.length ≤ i + 1 ∧ lcGo dg dt de (wipeS sl vs) (ds.drop (i + 1)) acc os' R,
      fun H' n => ⟨ds.length - (i + 1), by omega, rfl, hlt, n⟩, fun x H2 y => ?_⟩
    have wb : Wo K ⟨H, ρ', D :: W.X⟩ G' ρ' H os' := w.aside gD' nD hDl
    obtain ⟨t1', _⟩ := r.2 _ G' ρ' H os' i e.g wb
    obtain ⟨d, G2, hd, g2, w2, rd⟩ := (t1' hlt).2 x H2 y
    -- what stands at D stays
    have keepD : ∀ {G3 H3 : Hp} {ρ3 : List Addr} {os3 : List OO}, Wo K ⟨H, ρ', D :: W.X⟩ G3 ρ3 H3 os3 → H3 D = some (.lst us) ∧ D ∉ ρ3 ∧ G3 D = none := fun {G3 H3 ρ3 os3} w3 =>
      let ⟨x1, x2, _⟩ := w3.ex D List.mem_cons_self
      ⟨w3.fr D _ (noT_of hDl (by intro _ z; cases z)) nD, x2, x1⟩
    have hbk : ∀ {G3 H3 : Hp} {ρ3 : List Addr} {os3 : List OO}, Wo K ⟨H, ρ', D :: W.X⟩ G3 ρ3 H3 os3 → Wo K W G3 ρ3 H3 os3 := fun w3 => w.back w3 fun a ha => List.mem_cons_of_mem _ ha
    rw [drop_cons hd] at hl
    refine ⟨_, G2, ρ', wipeS sl vs, os', .d d, _, w2, (s.wipe vs).mono (e.trans (Ext.of g2)), rd, hl, fun sl2 os2 σ2 G3 ρ3 H3 q3 w3 s3 e3 f3 l3 => ⟨?_, ?_⟩⟩
    · rw [← wipe_wipe (σ := σ)]
      exact wipe_eq l3 fun j hj => f3 j fun z => hj (hT j z)
    refine ⟨_, G3, ρ3, sl2, os2, _, noX, ⟨w3, s3, EKr.no, fun b os4 b' G4 ρ4 H4 q4 w4 e4 rb => ?_⟩, q3⟩
    obtain rfl : b' = b := rb
    cases b' with
    | false =>
      obtain ⟨k1, k2, k3⟩ := keepD w4
      exact iteF ⟨G4, ρ4, os4, acc, us, hbk w4, e.trans ((Ext.of g2).trans (e3.trans e4)), k2, k3, k1, ra.mono (g2.trans (e3.g.trans e4.g)), Nat.le_succ_of_le hac, by simpa using q4⟩
    | true =>
      refine iteT ⟨_, G4, ρ4, sl2, os4, _, noX, ⟨w4, s3.mono e4, EKr.no, fun x5 os5 v5 G5 ρ5 H5 q5 w5 e5 r5 => ?_⟩, by simpa using q4⟩
      obtain ⟨z, rfl, q6⟩ := q5
      obtain ⟨k1, k2, k3⟩ := keepD w5
      have ra5 : RepAll K G5 us acc := ra.mono (g2.trans (e3.g.trans (e4.g.trans e5.g)))
      have hsz := r.1
      refine ⟨us, k1, by rw [ra5.len]; omega, G5, ρ5, os5, acc ++ [z], us ++ [v5], (hbk w5).side k3 k2 wD, e.trans ((Ext.of g2).trans (e3.trans (e4.trans e5))), k2, k3, upd_same, ra5.app (.cons r5 .nil), by rw [List.length_append]; exact Nat.succ_le_succ hac, q6⟩
  · have ei : i = ds.length := by omega
    subst ei
    rw [List.drop_of_length_le (Nat.le_refl _)] at hl
    exact .inl ⟨t2 (Nat.le_refl _), fin D acc os' G' ρ' H us hl w e nD gD' nX wD hDl ra (Nat.le_trans hac r.1)⟩
end De
namespace De
open PySem L2 Bl
theorem PTs.weak {X : Cx} {e : List Expr} {t t' : TT} (h : PTs X e t) (k : ∀ σ H Q, t' σ H Q → t σ H Q) : PTs X e t' := ⟨fun pins s σ H Q I q => h.run pins s σ H Q I (k _ _ _ q)⟩
abbrev PTsD (X : Cx) (Z : Zs) (E : XK) (e : List Expr) (d : DT) : Prop := PTs X e (lift X.K Z E RT d)
theorem ptsd_nil {X : Cx} {Z : Zs} {E : XK} : PTsD X Z E [] dYes := PTs.weak pts_nil fun σ H Q ⟨W, G, ρ, sl, os, Qd, Ex, p, q⟩ => p.end_ (v := true) q rfl
theorem ptsd_one {X : Cx} {Z : Zs} {E : XK} {c : Expr} {d : DT} (h : PTD X Z E c d) : PTsD X Z E [c] d := pts_one h
section
variable {X : Cx} {Z : Zs} {E E' : XK} {elt tg iter : Expr} {ifs : List Expr} {scope : Scope} {own : List (Str × Nat)} {pos : Pos} {di : DI} {dg : DTg} {dt : DT} {de : DE} {T : List Nat}
theorem lc_weak {K : PySem.W.Frag} {vs : List Nat} (hT : ∀ i ∈ T, i ∈ vs) {σ : St} {H : Hp} {Q : VK} (h : lift K Z E (RE K) (dLc di dg dt de vs) σ H Q) : tLc (lift K Z E (RI K) di) (liftG K T dg) (lift K Z E' RT dt) (lift K Z E' (RE K) de) vs σ H Q := by
  obtain ⟨W, G, ρ, sl, os, Qd, Ex, p, q⟩ := h
  refine p.bind (RS := RI K) _ q fun ds os1 J G1 ρ1 H1 q1 p1 r1 e1 => ?_
  refine lc_run p1.wo p1.sl r1 hT q1 fun D zs os' G' ρ' H' us q2 w e nD gD nX wD hD ra hzs => ?_
  have g := same_new gD (.lst us)
  refine (p1.at w e).po _ _ _ _ _ _ q2 (w.more g (fun b u hb => ?_) fun b hb gb => ?_) (Ext.of g) (Rep.lst upd_same (ra.mono g) hzs)
  · by_cases eb : b = D
    · subst eb
      rw [upd_same] at hb
      rw [noT_of hD (by intro _ z; cases z)]
      exact hb
    · rw [upd_ne eb] at hb
      exact w.gn _ _ hb
  · have ne : b ≠ D := by
      rintro rfl
      rcases hb with hb | hb
      · exact nD hb
      · exact nX hb
    rw [upd_ne ne]
    exact gb
theorem lc_weakO {K : PySem.W.Frag} {vs : List Nat} (hT : ∀ i ∈ T, i ∈ vs) {σ : St} {H : Hp} {Q : VK} (h : lift K Z E (RE K) (dLcO di dg dt de vs) σ H Q) : tLc (lift K Z E (RI K) di) (liftG K T dg) (lift K Z E' RT dt) (lift K Z E' (RE K) de) vs σ H Q := by
  obtain ⟨W, G, ρ, sl, os, Qd, Ex, p, q⟩ := h
  refine p.bind (RS := RI K) _ q fun ds os1 J G1 ρ1 H1 q1 p1 r1 e1 => ?_
  refine lc_run p1.wo p1.sl r1 hT q1 fun D zs os' G' ρ' H' us q2 w e nD gD nX wD hD ra hzs => ?_
  obtain ⟨w2, e2⟩ := w.take nD gD nX wD hD (y := .lst (zs.map .d)) ⟨us, hD, ovs_of ra, by rw [List.length_map]; exact hzs⟩
  exact (p1.at w2 (e.trans e2)).end_ q2 ⟨D, at_last w.len, rfl⟩
theorem pd_lc (hc : X.calm = true) (hN : X.N.Nodup) (hi : PID X Z E tg iter di) (ok : BlkOk X.N X.env.scope scope own)
    (hg : ∀ (s : Shared) (H : Hp) (C : Addr) (cl : List (Str × Addr)) (fp : List Addr), PGD (X.blk s H scope (compEnvC scope cl C X.env) fp) T tg dg)
    (ht : ∀ (s : Shared) (H : Hp) (C : Addr) (cl : List (Str × Addr)) (fp : List Addr), PTsD (X.blk s H scope (compEnvC scope cl C X.env) fp) Z E' ifs dt)
    (he : ∀ (s : Shared) (H : Hp) (C : Addr) (cl : List (Str × Addr)) (fp : List Addr), PD (X.blk s H scope (compEnvC scope cl C X.env) fp) Z E' elt de)
    (hT : ∀ i ∈ T, i ∈ own.map (·.2)) (hs : ∀ x, foldedSetIterable iter X.env x = pure x := by intro _; rfl) : PD X Z E (.ListComp elt [⟨tg, iter, ifs, 0⟩] scope pos) (dLc di dg dt de (own.map (·.2))) :=
  PE.weak (pe_lc (g := liftG X.K T dg) (tt := lift X.K Z E' RT dt) (te := lift X.K Z E' (RE X.K) de) hc hN hi ok hg ht he hs) fun _ _ _ => lc_weak hT
end
structure DEnds where
  nx : Sl → List OO → Prop
  rt : Ov → List OO → Prop
  bk : Sl → List OO → Prop := fun _ _ => False
  ct : Sl → List OO → Prop := fun _ _ => False
  ex : Exn → List OO → Prop
abbrev DS := DEnds → Sl → List OO → Prop
def Go (K : PySem.W.Frag) (W : Wd) (G : Hp) (ρ : List Addr) (k : Sl → List OO → Prop) (D : St → Hp → Prop) : Prop :=
  ∀ (sl' : Sl) (os' : List OO) (σ' : St) (G' : Hp) (ρ' : List Addr) (H' : Hp), k sl' os' → Wo K W G' ρ' H' os' → SlR K G' ρ' σ' sl' → Ext G ρ G' ρ' → D σ' H'
theorem Go.mono {K : PySem.W.Frag} {W : Wd} {G G' : Hp} {ρ ρ' : List Addr} {k : Sl → List OO → Prop} {D : St → Hp → Prop} (h : Go K W G ρ k D) (e : Ext G ρ G' ρ') : Go K W G' ρ' k D := fun sl' os' σ' G1 ρ1 H1 a b c x => h sl' os' σ' G1 ρ1 H1 a b c (e.trans x)
structure Lk (K : PySem.W.Frag) (Z : Zs) (E : XK) (W : Wd) (G : Hp) (ρ : List Addr) (D : Ends) (DD : DEnds) : Prop where
  nx : Go K W G ρ DD.nx D.nx
  bk : Go K W G ρ DD.bk D.bk
  ct : Go K W G ρ DD.ct D.ct
  rt : ∀ (x : Ov) (os' : List OO) (v : V) (G' : Hp) (ρ' : List Addr) (H' : Hp), DD.rt x os' → Wo K W G' ρ' H' os' → Ext G ρ G' ρ' → OvR K G' ρ' v x → D.rt v H'
  ex : EKr K Z W G ρ E DD.ex
theorem Lk.mono {K : PySem.W.Frag} {Z : Zs} {E : XK} {W : Wd} {G G' : Hp} {ρ ρ' : List Addr} {D : Ends} {DD : DEnds} (h : Lk K Z E W G ρ D DD) (e : Ext G ρ G' ρ') : Lk K Z E W G' ρ' D DD :=
  ⟨h.nx.mono e, h.bk.mono e, h.ct.mono e, fun x os' v G1 ρ1 H1 a b c => h.rt x os' v G1 ρ1 H1 a b (e.trans c), h.ex.mono e⟩
def liftS (K : PySem.W.Frag) (Z : Zs) (E : XK) (d : DS) : TS := fun D σ H => ∃ (W : Wd) (G : Hp) (ρ : List Addr) (sl : Sl) (os : List OO) (DD : DEnds), Wo K W G ρ H os ∧ SlR K G ρ σ sl ∧ Lk K Z E W G ρ D DD ∧ d DD sl os
abbrev PSD (X : Cx) (Z : Zs) (E : XK) (st : Stmt) (d : DS) : Prop := PS X st (liftS X.K Z E d)
abbrev PSsD (X : Cx) (Z : Zs) (E : XK) (st : List Stmt) (d : DS) : Prop := PSs X st (liftS X.K Z E d)
theorem PS.weak {X : Cx} {e : Stmt} {t t' : TS} (h : PS X e t) (k : ∀ D σ H, t' D σ H → t D σ H) : PS X e t' := ⟨fun pins s σ H D I q => h.run pins s σ H D I (k _ _ _ q)⟩
theorem PSs.weak {X : Cx} {e : List Stmt} {t t' : TS} (h : PSs X e t) (k : ∀ D σ H, t' D σ H → t D σ H) : PSs X e t' := ⟨fun pins s σ H D I q => h.run pins s σ H D I (k _ _ _ q)⟩
/-- a part of a statement -/
theorem Lk.bind {α β : Type} {K : PySem.W.Frag} {Z : Zs} {E : XK} {W : Wd} {G H : Hp} {ρ : List Addr} {D : Ends} {DD : DEnds} {sl : Sl} {σ : St} {os : List OO} {RS : Hp → List Addr → α → β → Prop} {d : DG β} {Q' : α → Hp → Prop} (l : Lk K Z E W G ρ D DD) (wo : Wo K W G ρ H os) (s : SlR K G ρ σ sl) (k : β → List OO → Prop) (h : d sl os k DD.ex)
    (n : ∀ (x : β) (os' : List OO) (v : α) (G' : Hp) (ρ' : List Addr) (H' : Hp), k x os' → Wo K W G' ρ' H' os' → SlR K G' ρ' σ sl → Lk K Z E W G' ρ' D DD → RS G' ρ' v x → Ext G ρ G' ρ' → Q' v H') : lift K Z E RS d σ H Q' :=
  ⟨W, G, ρ, sl, os, k, DD.ex, ⟨wo, s, l.ex, fun x os' v G' ρ' H' a b c r => n x os' v G' ρ' H' a b (s.mono c) (l.mono c) r c⟩, h⟩
def dNext : DS := fun DD sl os => DD.nx sl os
def dSeqS (a b : DS) : DS := fun DD sl os => a { DD with nx := b DD } sl os
def dBrk : DS := fun DD sl os => DD.bk sl os
def dCnt : DS := fun DD sl os => DD.ct sl os
def dAsg (e : DE) (g : DTg) : DS := fun DD sl os => e sl os (fun x os1 => g x sl os1 DD.nx) DD.ex
def dDrop (e : DE) : DS := fun DD sl os => e sl os (fun _ os1 => DD.nx sl os1) DD.ex
def dRet (e : DE) : DS := fun DD sl os => e sl os DD.rt DD.ex
def dRetN : DS := fun DD _ os => DD.rt (.d .non) os
def dIfS (c : DT) (a b : DS) : DS := fun DD sl os => c sl os (fun c os1 => if c = true then a DD sl os1 else b DD sl os1) DD.ex
def forGo (dg : DTg) (db : DS) (DD : DEnds) : List Dt → Sl → List OO → Prop
  | [], sl, os => DD.nx sl os
  | d :: ds, sl, os => dg (.d d) sl os fun sl1 os1 => db { DD with nx := forGo dg db DD ds, ct := forGo dg db DD ds, bk := DD.nx } sl1 os1
def dFor (di : DI) (dg : DTg) (db : DS) : DS := fun DD sl os => di sl os (fun ds os1 => ds.length ≤ sizeLine → forGo dg db DD ds sl os1) DD.ex
section
variable {X : Cx} {Z : Zs} {E : XK} {e a b c tg iter : Expr} {st : Stmt} {rest sa sb body : List Stmt} {de : DE} {dc : DT} {dg : DTg} {d1 d2 da db : DS} {di : DI} {T : List Nat} {pos : Pos}
theorem pss_nilD : PSsD X Z E [] dNext := PSs.weak pss_nil fun D σ H ⟨W, G, ρ, sl, os, DD, w, s, l, q⟩ => l.nx _ _ _ _ _ _ q w s Ext.refl
theorem pss_consD (h1 : PSD X Z E st d1) (h2 : PSsD X Z E rest d2) : PSsD X Z E (st :: rest) (dSeqS d1 d2) := PSs.weak (pss_cons h1 h2) fun D σ H ⟨W, G, ρ, sl, os, DD, w, s, l, q⟩ =>
  ⟨W, G, ρ, sl, os, { DD with nx := d2 DD }, w, s, ⟨fun sl' os' σ' G' ρ' H' q' w' s' x => ⟨W, G', ρ', sl', os', DD, w', s', l.mono x, q'⟩, l.bk, l.ct, l.rt, l.ex⟩, q⟩
theorem pss_oneD (h1 : PSD X Z E st d1) : PSsD X Z E [st] d1 := pss_one h1
theorem psd_asg (h : PS X (.Assign [tg] e pos) (tAsg (lift X.K Z E (RE X.K) de) (liftG X.K T dg))) : PSD X Z E (.Assign [tg] e pos) (dAsg de dg) :=
  PS.weak h fun D σ H ⟨W, G, ρ, sl, os, DD, w, s, l, q⟩ => l.bind (RS := RE X.K) w s _ q fun x os1 v G1 ρ1 H1 q1 w1 s1 l1 r1 e1 =>
    ⟨W, G1, ρ1, sl, os1, x, _, w1, s1, r1, q1, fun sl' os' σ' G' ρ' H' q2 w2 s2 e2 _ _ => l1.nx _ _ _ _ _ _ q2 w2 s2 e2⟩
theorem psd_setLc {elt : Expr} {ifs : List Expr} {scope : Scope} {own : List (Str × Nat)} {spos : Pos} {dt : DT} {i : Nat} {y : Str} {py : Pos} {E' : XK} (hy : X.N[i]? = some y) (hyl : X.env.scope.names.lookup y = some .local)
    (hsw : swapsWith (.ListComp elt [⟨tg, iter, ifs, 0⟩] scope pos) (some (.Name y py)) spos.line X.env = pure true) (hc : X.calm = true) (hN : X.N.Nodup) (hi : PID X Z E tg iter di) (ok : BlkOk X.N X.env.scope scope own)
    (hg : ∀ (s : Shared) (H : Hp) (C : Addr) (cl : List (Str × Addr)) (fp : List Addr), PGD (X.blk s H scope (compEnvC scope cl C X.env) fp) T tg dg)
    (ht : ∀ (s : Shared) (H : Hp) (C : Addr) (cl : List (Str × Addr)) (fp : List Addr), PTsD (X.blk s H scope (compEnvC scope cl C X.env) fp) Z E' ifs dt)
    (he : ∀ (s : Shared) (H : Hp) (C : Addr) (cl : List (Str × Addr)) (fp : List Addr), PD (X.blk s H scope (compEnvC scope cl C X.env) fp) Z E' elt de)
    (hT : ∀ i ∈ T, i ∈ own.map (·.2)) (hs : ∀ x, foldedSetIterable iter X.env x = pure x := by intro _; rfl) : PSD X Z E (.Assign [.Name y py] (.ListComp elt [⟨tg, iter, ifs, 0⟩] scope pos) spos) (dAsg (dLc di dg dt de (own.map (·.2))) (dgName i)) :=
  PS.weak (ps_setLc (g := liftG X.K T dg) (tt := lift X.K Z E' RT dt) (te := lift X.K Z E' (RE X.K) de) hc hN hy hyl hsw hi ok hg ht he hs) fun D σ H ⟨W, G, ρ, sl, os, DD, w, s, l, q⟩ => lc_weak hT (l.bind (RS := RE X.K) w s _ q fun x os1 v G1 ρ1 H1 q1 w1 s1 l1 r1 e1 =>
    l1.nx _ _ _ _ _ _ q1 w1 (s1.set r1) Ext.refl)
theorem psd_setLcO {elt : Expr} {ifs : List Expr} {scope : Scope} {own : List (Str × Nat)} {spos : Pos} {dt : DT} {i : Nat} {y : Str} {py : Pos} {E' : XK} (hy : X.N[i]? = some y) (hyl : X.env.scope.names.lookup y = some .local)
    (hsw : swapsWith (.ListComp elt [⟨tg, iter, ifs, 0⟩] scope pos) (some (.Name y py)) spos.line X.env = pure true) (hc : X.calm = true) (hN : X.N.Nodup) (hi : PID X Z E tg iter di) (ok : BlkOk X.N X.env.scope scope own)
    (hg : ∀ (s : Shared) (H : Hp) (C : Addr) (cl : List (Str × Addr)) (fp : List Addr), PGD (X.blk s H scope (compEnvC scope cl C X.env) fp) T tg dg)
    (ht : ∀ (s : Shared) (H : Hp) (C : Addr) (cl : List (Str × Addr)) (fp : List Addr), PTsD (X.blk s H scope (compEnvC scope cl C X.env) fp) Z E' ifs dt)
    (he : ∀ (s : Shared) (H : Hp) (C : Addr) (cl : List (Str × Addr)) (fp : List Addr), PD (X.blk s H scope (compEnvC scope cl C X.env) fp) Z E' elt de)
    (hT : ∀ i ∈ T, i ∈ own.map (·.2)) (hs : ∀ x, foldedSetIterable iter X.env x = pure x := by intro _; rfl) : PSD X Z E (.Assign [.Name y py] (.ListComp elt [⟨tg, iter, ifs, 0⟩] scope pos) spos) (dAsg (dLcO di dg dt de (own.map (·.2))) (dgName i)) :=
  PS.weak (ps_setLc (g := liftG X.K T dg) (tt := lift X.K Z E' RT dt) (te := lift X.K Z E' (RE X.K) de) hc hN hy hyl hsw hi ok hg ht he hs) fun D σ H ⟨W, G, ρ, sl, os, DD, w, s, l, q⟩ => lc_weakO hT (l.bind (RS := RE X.K) w s _ q fun x os1 v G1 ρ1 H1 q1 w1 s1 l1 r1 e1 =>
    l1.nx _ _ _ _ _ _ q1 w1 (s1.set r1) Ext.refl)
theorem psd_expr (he : PD X Z E e de) (hs : swapsWith e none pos.line X.env = pure false := by rfl) : PSD X Z E (.Expr e pos) (dDrop de) :=
  PS.weak (ps_expr he hs) fun D σ H ⟨W, G, ρ, sl, os, DD, w, s, l, q⟩ => l.bind (RS := RE X.K) w s _ q fun x os1 v G1 ρ1 H1 q1 w1 s1 l1 r1 e1 => l1.nx _ _ _ _ _ _ q1 w1 s1 Ext.refl
theorem psd_ret (he : PD X Z E e de) : PSD X Z E (.Return (some e) pos) (dRet de) :=
  PS.weak (ps_ret he) fun D σ H ⟨W, G, ρ, sl, os, DD, w, s, l, q⟩ => l.bind (RS := RE X.K) w s _ q fun x os1 v G1 ρ1 H1 q1 w1 s1 l1 r1 e1 => l1.rt _ _ _ _ _ _ q1 w1 Ext.refl r1
theorem psd_if (hc : PTD X Z E c dc) (ha : PSsD X Z E sa da) (hb : PSsD X Z E sb db) : PSD X Z E (.If c sa sb pos) (dIfS dc da db) :=
  PS.weak (ps_if hc ha hb) fun D σ H ⟨W, G, ρ, sl, os, DD, w, s, l, q⟩ => l.bind (RS := RT) w s _ q fun x os1 v G1 ρ1 H1 q1 w1 s1 l1 r1 e1 => by
    obtain rfl : v = x := r1
    cases v with
    | true => exact iteT ⟨W, G1, ρ1, sl, os1, DD, w1, s1, l1, by simpa using q1⟩
    | false => exact iteF ⟨W, G1, ρ1, sl, os1, DD, w1, s1, l1, by simpa using q1⟩
theorem psd_for (hp : PassesOwn (model X.prog X.w) X.A X.env X.xe) (hc : X.calm = true) (hi : PID X Z E tg iter di) (hg : PGD X T tg dg) (hb : PSsD X Z E body db) (hs : ∀ x, foldedSetIterable iter X.env x = pure x := by intro _; rfl) : PSD X Z E (.For tg iter body [] pos) (dFor di dg db) :=
  PS.weak (ps_for hp hc hi hg hb hs) fun D σ H ⟨W, G, ρ, sl, os, DD, w, s, l, q⟩ => l.bind (RS := RI X.K) w s _ q fun ds os1 J G1 ρ1 H1 q1 w1 s1 l1 r1 e1 => by
    refine ⟨fun i m σ H => m = ds.length - i ∧ i ≤ ds.length ∧ ∃ (G' : Hp) (ρ' : List Addr) (sl' : Sl) (os' : List OO), Wo X.K W G' ρ' H os' ∧ SlR X.K G' ρ' σ sl' ∧ Ext G1 ρ1 G' ρ' ∧ forGo dg db DD (ds.drop i) sl' os',
      ⟨ds.length, by omega, Nat.zero_le _, G1, ρ1, sl, os1, w1, s1, Ext.refl, q1 r1.1⟩, ?_⟩
    rintro i m σ H ⟨rfl, hi, G', ρ', sl', os', w', s', e', q'⟩
    obtain ⟨t1, t2⟩ := r1.2 W G' ρ' H os' i e'.g w'
    by_cases hlt : i < ds.length
    · refine .inr ⟨(t1 hlt).1, fun σ H' => ∃ (G' : Hp) (ρ' : List Addr) (sl' : Sl) (os' : List OO), Wo X.K W G' ρ' H' os' ∧ SlR X.K G' ρ' σ sl' ∧ Ext G1 ρ1 G' ρ' ∧ forGo dg db DD (ds.drop (i + 1)) sl' os',
        fun σ' H' n => ⟨ds.length - (i + 1), by omega, rfl, hlt, n⟩, fun x H2 y => ?_⟩
      obtain ⟨d, G2, hd, g2, w2, rd⟩ := (t1 hlt).2 x H2 y
      rw [drop_cons hd] at q'
      refine ⟨W, G2, ρ', sl', os', .d d, _, w2, s'.mono (Ext.of g2), rd, q', fun sl3 os3 σ3 G3 ρ3 H3 q3 w3 s3 e3 _ _ => ?_⟩
      have e4 := e'.trans ((Ext.of g2).trans e3)
      refine ⟨W, G3, ρ3, sl3, os3, { DD with nx := forGo dg db DD (ds.drop (i + 1)), ct := forGo dg db DD (ds.drop (i + 1)), bk := DD.nx }, w3, s3, ⟨?_, ?_, ?_, (l1.mono e4).rt, (l1.mono e4).ex⟩, q3⟩
      · exact fun sl5 os5 σ5 G5 ρ5 H5 q5 w5 s5 e5 => ⟨G5, ρ5, sl5, os5, w5, s5, e4.trans e5, q5⟩
      · exact (l1.mono e4).nx
      · exact fun sl5 os5 σ5 G5 ρ5 H5 q5 w5 s5 e5 => ⟨G5, ρ5, sl5, os5, w5, s5, e4.trans e5, q5⟩
    · have ei : i = ds.length := by omega
      subst ei
      rw [List.drop_of_length_le (Nat.le_refl _)] at q'
      exact .inl ⟨t2 (Nat.le_refl _), (l1.mono e').nx _ _ _ _ _ _ q' w' s' Ext.refl⟩
end
abbrev FD := List Ov → List OO → (Ov → List OO → Prop) → (Exn → List OO → Prop) → Prop
def spD (K : PySem.W.Frag) (Z : Zs) (n : Nat) (f : FD) : Sp := fun vs H Q E => ∃ (W : Wd) (G : Hp) (ρ : List Addr) (os : List OO) (xs : List Ov) (Qd : Ov → List OO → Prop) (Ex : Exn → List OO → Prop), Wo K W G ρ H os ∧ Paired (OvR K G ρ) vs xs ∧ xs.length = n ∧ EKr K Z W G ρ E Ex ∧ f xs os Qd Ex ∧
  ∀ (x : Ov) (os' : List OO) (v : V) (G' : Hp) (ρ' : List Addr) (H' : Hp), Qd x os' → Wo K W G' ρ' H' os' → Ext G ρ G' ρ' → OvR K G' ρ' v x → Q v H'
theorem spD_imp {K : PySem.W.Frag} {Z : Zs} {n : Nat} {f g : FD} (h : ∀ xs os Q Ex, xs.length = n → f xs os Q Ex → g xs os Q Ex) (vs : List V) (H : Hp) (Q : VK) (E : XK) (q : spD K Z n f vs H Q E) : spD K Z n g vs H Q E := by
  obtain ⟨W, G, ρ, os, xs, Qd, Ex, a, b, c, d, e, f⟩ := q
  exact ⟨W, G, ρ, os, xs, Qd, Ex, a, b, c, d, h _ _ _ _ c e, f⟩
def dCall (n : Nat) (f : FD) (a : DA) : DE := fun sl os Q Ex => a sl os (fun xs os1 => xs.length = n ∧ f xs os1 Q Ex) Ex
/-- nothing is let out -/
def dCall0 (n : Nat) (f : FD) (a : DA) : DE := fun sl os Q Ex => a sl os (fun xs os1 => xs.length = n ∧ f xs os1 Q noX) Ex
section
variable {X : Cx} {Z : Zs} {E : XK} {CX : CXT} {k n : Nat} {f : Addr} {fd : FuncData} {ps : List Str} {x : Str} {p pos : Pos} {e : Expr} {es : List Expr} {F : FD} {da : DA}
theorem pd_call0 {E' : XK} (hp : PE X (.Call (.Name x p) (e :: es) [] pos) (tCall (spD X.K Z n F) [] E' (lift X.K Z E (RA X.K) da))) : PD X Z E (.Call (.Name x p) (e :: es) [] pos) (dCall0 n F da) :=
  pd_of hp fun σ H Q W G ρ sl os Qd Ex p q => p.bind (RS := RA X.K) _ q fun xs os1 vs G1 ρ1 H1 q1 p1 r1 e1 => by
    obtain ⟨hn, q1⟩ := q1
    rw [List.append_nil]
    exact ⟨W, G1, ρ1, os1, xs, Qd, noX, p1.wo, r1, hn, EKr.no, q1, fun x os' v G' ρ' H' a b c d => p1.po x os' v G' ρ' H' a b c d⟩
end
def startS (N : List Str) (xs : List Ov) : Sl := xs.map some ++ List.replicate (N.length - xs.length) none
theorem start_rel {K : PySem.W.Frag} {G : Hp} {ρ : List Addr} {N : List Str} {vs : List V} {xs : List Ov} (r : Paired (OvR K G ρ) vs xs) : SlR K G ρ (L2.start N vs) (startS N xs) := by
  have hl := pairs_len r
  have get : ∀ {vs : List V} {xs : List Ov}, Paired (OvR K G ρ) vs xs → ∀ (i : Nat) (x : Ov), xs[i]? = some x → ∃ v, vs[i]? = some v ∧ OvR K G ρ v x := by
    intro vs xs h
    induction h with
    | nil => intro i x q; cases q
    | cons h t ih =>
      intro i x q
      cases i with
      | zero =>
        obtain rfl := Option.some.inj q
        exact ⟨_, rfl, h⟩
      | succ i => exact ih i x q
  refine ⟨by unfold L2.start startS; simp [hl], fun i x q => ?_⟩
  unfold startS at q
  by_cases hi : i < xs.length
  · rw [List.getElem?_append_left (by simpa using hi), List.getElem?_map] at q
    cases e : xs[i]? with
    | none => rw [e] at q; cases q
    | some y =>
      rw [e] at q
      obtain rfl := Option.some.inj (Option.some.inj q)
      obtain ⟨v, hv, rv⟩ := get r i y e
      refine ⟨v, ?_, rv⟩
      unfold L2.start
      rw [List.getElem?_append_left (by simp [hl]; exact hi), List.getElem?_map, hv]
      rfl
  · rw [List.getElem?_append_right (by simpa using hi)] at q
    have := List.mem_of_getElem? q
    rw [List.mem_replicate] at this
    cases this.2
def dDef (N : List Str) (d : DS) : FD := fun xs os Q Ex => d { nx := fun _ os' => Q (.d .non) os', rt := Q, ex := Ex } (startS N xs) os
section
variable {P : Program} {w : World} {K : PySem.W.Frag} {mg : Str → Option Value} {base : Heap}
theorem def_go {Z : Zs} {N : List Str} {d : DS} {vs : List V} {H : Hp} {Q : VK} {E : XK} {n : Nat} (h : spD K Z n (dDef N d) vs H Q E) : liftS K Z E d { nx := fun _ H' => Q .non H', rt := Q } (L2.start N vs) H := by
  obtain ⟨W, G, ρ, os, xs, Qd, Ex, wo, r, hn, ek, q, po⟩ := h
  exact ⟨W, G, ρ, _, os, { nx := fun _ os' => Qd (.d .non) os', rt := Qd, ex := Ex }, wo, start_rel r, ⟨fun sl' os' σ' G' ρ' H' a b c e => po (.d .non) _ _ _ _ _ a b e Rep.non, fun _ _ _ _ _ _ a => a.elim, fun _ _ _ _ _ _ a => a.elim, fun x os' v G' ρ' H' a b c d => po x os' v G' ρ' H' a b c d, ek⟩, q⟩
theorem fn_d {x qual : Str} {st : Stmt} {f : Addr} {fd : FuncData} {N ps : List Str} {k : Nat} {Z : Zs} {d : DS} {F : FD} (Fu : Fun K x qual st f fd) (S : FnScope N ps (defScope st))
    (hbody : ∀ (cdv : Value) (A : Around) (outer : List Env) (s : Shared) (H : Hp) (E : XK), Room k (A.deeper (PyProof.Rows.envOfC qual (defScope st) s.heap.objs.size f cdv)) → PSsD (cxOf CX0 P w K mg base N qual (defScope st) f cdv A outer s H E).nox Z E (defBody st) d)
    (h : ∀ xs os Q Ex, xs.length = ps.length → F xs os Q Ex → dDef N d xs os Q Ex) : FnOk P w K mg base CX0 (k + 1) f fd ps (spD K Z ps.length F) := by
  refine Fu.ok S (fun vs H Q E h => ?_) (fun cdv A outer s H vs Q E hr h2 => ⟨_, hbody cdv A outer s H E hr, def_go (spD_imp h vs H Q E h2)⟩)
  obtain ⟨W, G, ρ, os, xs, Qd, Ex, wo, r, hn, _⟩ := h
  rw [pairs_len r, hn]
theorem fn_dX {x qual : Str} {st : Stmt} {f : Addr} {fd : FuncData} {N ps : List Str} {k : Nat} {Z : Zs} {d : DS} {F : FD} (Fu : Fun K x qual st f fd) (S : FnScope N ps (defScope st))
    (hbody : ∀ (cdv : Value) (A : Around) (outer : List Env) (s : Shared) (H : Hp) (E : XK), Room k (A.deeper (PyProof.Rows.envOfC qual (defScope st) s.heap.objs.size f cdv)) → PSsD (cxOf (L2.CX P w) P w K mg base N qual (defScope st) f cdv A outer s H E) Z E (defBody st) d)
    (h : ∀ xs os Q Ex, xs.length = ps.length → F xs os Q Ex → dDef N d xs os Q Ex) : FnOk P w K mg base (L2.CX P w) (k + 1) f fd ps (spD K Z ps.length F) := by
  refine Fu.okX S (fun vs H Q E h => ?_) (fun cdv A outer s H vs Q E hr h2 => ⟨_, hbody cdv A outer s H E hr, def_go (spD_imp h vs H Q E h2)⟩)
  obtain ⟨W, G, ρ, os, xs, Qd, Ex, wo, r, hn, _⟩ := h
  rw [pairs_len r, hn]
end
end De
namespace De
open PySem L2 Bl
mutual
def toPy : Dt → PyData
  | .non => .none
  | .bl b => .bool b
  | .int i => .int i
  | .str z => .str z
  | .lst ds => .list (toPys ds)
  | .tup ds => .tuple (toPys ds)
  | .dct _ => .none
  | .ins _ _ => .none
  | .raw _ => .none
  | .lam _ => .none
def toPys : List Dt → List PyData
  | [] => []
  | d :: ds => toPy d :: toPys ds
end
mutual
/-- no dicts, no instances within -/
def pln : Dt → Bool
  | .lst ds => plns ds
  | .tup ds => plns ds
  | .dct _ => false
  | .ins _ _ => false
  | .raw _ => false
  | .lam _ => false
  | _ => true
def plns : List Dt → Bool
  | [] => true
  | d :: ds => pln d && plns ds
end
mutual
def dep : Dt → Nat
  | .lst ds => deps ds + 1
  | .tup ds => deps ds + 1
  | _ => 1
def deps : List Dt → Nat
  | [] => 0
  | d :: ds => max (dep d) (deps ds)
end
mutual
/-- == -/
def eqB : Dt → Dt → Bool
  | .non, .non => true
  | .bl a, .bl b => a == b
  | .bl a, .int j => (if a then 1 else 0) == j
  | .int i, .bl b => i == (if b then 1 else 0)
  | .int i, .int j => i == j
  | .str x, .str y => x == y
  | .lst xs, .lst ys => eqBs xs ys
  | .tup xs, .tup ys => eqBs xs ys
  | _, _ => false
def eqBs : List Dt → List Dt → Bool
  | [], [] => true
  | x :: xs, y :: ys => eqB x y && eqBs xs ys
  | _, _ => false
end
theorem eqv_eqB : (∀ d e : Dt, pln d = true → pln e = true → PyData.eqv (toPy d) (toPy e) = eqB d e) ∧ ∀ ds es : List Dt, plns ds = true → plns es = true → PyData.eqvAll (toPys ds) (toPys es) = eqBs ds es := by
  have go : ∀ n : Nat, (∀ d e : Dt, sizeOf d < n → pln d = true → pln e = true → PyData.eqv (toPy d) (toPy e) = eqB d e) ∧ ∀ ds es : List Dt, sizeOf ds < n → plns ds = true → plns es = true → PyData.eqvAll (toPys ds) (toPys es) = eqBs ds es := by
    intro n
    induction n with
    | zero => exact ⟨fun d e h => absurd h (Nat.not_lt_zero _), fun d e h => absurd h (Nat.not_lt_zero _)⟩
    | succ n ih =>
      refine ⟨fun d e h p q => ?_, fun ds es h p q => ?_⟩
      · cases d with
        | lst ds =>
          cases e with
          | lst es =>
            rw [toPy, toPy, PyData.eqv, eqB]
            rw [pln] at p q
            exact ih.2 ds es (by simp at h; omega) p q
          | _ => simp_all [toPy, PyData.eqv, eqB, pln]
        | tup ds =>
          cases e with
          | tup es =>
            rw [toPy, toPy, PyData.eqv, eqB]
            rw [pln] at p q
            exact ih.2 ds es (by simp at h; omega) p q
          | _ => simp_all [toPy, PyData.eqv, eqB, pln]
        | _ => cases e <;> simp_all [toPy, PyData.eqv, eqB, pln]
      · cases ds with
        | nil => cases es <;> simp_all [toPys, PyData.eqvAll, eqBs]
        | cons d ds =>
          cases es with
          | nil => simp_all [toPys, PyData.eqvAll, eqBs]
          | cons e es =>
            rw [plns, Bool.and_eq_true] at p q
            rw [toPys, toPys, PyData.eqvAll, eqBs, ih.1 d e (by simp at h; omega) p.1 q.1, ih.2 ds es (by simp at h; omega) p.2 q.2]
  exact ⟨fun d e => (go (sizeOf d + 1)).1 d e (Nat.lt_succ_self _), fun d e => (go (sizeOf d + 1)).2 d e (Nat.lt_succ_self _)⟩
section
variable {K : PySem.W.Frag} {G H : Hp}
mutual
theorem Rep.dp : ∀ {v : V} {d : Dt}, Rep K G v d → pln d = true → Dp K G v (toPy d) ∧ (toPy d).canLay0 = true ∧ (toPy d).depth ≤ dep d
  | _, _, .non, _ => ⟨.non, by simp [toPy, PyData.canLay0], by simp [toPy, PyData.depth, dep]⟩
  | _, _, .bl b, _ => ⟨.bl b, by simp [toPy, PyData.canLay0], by simp [toPy, PyData.depth, dep]⟩
  | _, _, .int b, _ => ⟨.int b, by simp [toPy, PyData.canLay0], by simp [toPy, PyData.depth, dep]⟩
  | _, _, .str z h, _ => ⟨.str z, h.1, by simp [toPy, PyData.depth, dep]⟩
  | _, _, .lst h k _, p => by
    obtain ⟨a, b, c⟩ := RepAll.dp k (by simpa [pln] using p)
    exact ⟨.lst (SqL.of h) a, by simpa [toPy, PyData.canLay0] using b, by simp [toPy, PyData.depth, dep]; omega⟩
  | _, _, .tup h k _, p => by
    obtain ⟨a, b, c⟩ := RepAll.dp k (by simpa [pln] using p)
    exact ⟨.tup h a, by simpa [toPy, PyData.canLay0] using b, by simp [toPy, PyData.depth, dep]; omega⟩
  | _, _, .dct _ _, p => by simp [pln] at p
  | _, _, .ins _ _, p => by simp [pln] at p
  | _, _, .raw _, p => by simp [pln] at p
  | _, _, .lam _ _, p => by simp [pln] at p
theorem RepAll.dp : ∀ {v : List V} {d : List Dt}, RepAll K G v d → plns d = true → DpAll K G v (toPys d) ∧ PyData.canLayAll0 (toPys d) = true ∧ PyData.depthAll (toPys d) ≤ deps d
  | _, _, .nil, _ => ⟨.nil, by simp [toPys, PyData.canLayAll0], by simp [toPys, PyData.depthAll]⟩
  | _, _, .cons h k, p => by
    rw [plns, Bool.and_eq_true] at p
    obtain ⟨a, b, c⟩ := Rep.dp h p.1
    obtain ⟨a', b', c'⟩ := RepAll.dp k p.2
    exact ⟨.cons a a', by simp [toPys, PyData.canLayAll0, b, b'], by simp only [toPys, PyData.depthAll, deps]; omega⟩
end
theorem snp_lst {v : V} {ds : List Dt} (h : Snp K G H v (.lst ds)) : ∃ a vs, v = .ref a ∧ H a = some (.lst vs) ∧ RepAll K G vs ds ∧ ds.length ≤ sizeLine := h
theorem snp_tup {v : V} {ds : List Dt} (g : Same G H) (h : Snp K G H v (.tup ds)) : ∃ a vs, v = .ref a ∧ SqT K G a vs ∧ SqT K H a vs ∧ RepAll K G vs ds ∧ ds.length ≤ sizeLine := by
  cases (show Rep K G v (.tup ds) from h) with
  | tup h1 h2 h3 => exact ⟨_, _, rfl, h1, Bl.Same.tup g h1, h2, h3⟩
theorem snp_int {v : V} {i : Int} (h : Snp K G H v (.int i)) : v = .int i := by
  cases (show Rep K G v (.int i) from h)
  rfl
theorem snp_str {v : V} {z : Str} (h : Snp K G H v (.str z)) : v = .str z ∧ okz z := by
  cases (show Rep K G v (.str z) from h) with
  | str _ h' => exact ⟨rfl, h'⟩
theorem snp_bl {v : V} {z : Bool} (h : Snp K G H v (.bl z)) : v = .bl z := by
  cases (show Rep K G v (.bl z) from h)
  rfl
theorem snp_non {v : V} (h : Snp K G H v .non) : v = .non := by
  cases (show Rep K G v .non from h)
  rfl
theorem snp_dct {v : V} {ks : List (Key × Dt)} (h : Snp K G H v (.dct ks)) : ∃ a kvs, v = .ref a ∧ Rd H a (.dK kvs) ∧ RepK K G kvs ks := h
theorem okz_app {a b : Str} (h : okz a) (k : okz b) (l : a.length + b.length ≤ sizeLine) : okz (a ++ b) := by
  have h1 : a.cps.all (· < 0x110000) = true := h.1
  have h2 : b.cps.all (· < 0x110000) = true := k.1
  refine ⟨?_, ?_⟩
  · show (a.cps ++ b.cps).all (· < 0x110000) = true
    rw [Array.all_append, h1, h2]
    rfl
  · show (a.cps ++ b.cps).size ≤ sizeLine
    rw [Array.size_append]
    exact l
end
/-- what there is -/
def optP {α : Type} (o : Option α) (k : α → Prop) : Prop := match o with | some x => k x | none => False
theorem optP.get {α : Type} {o : Option α} {k : α → Prop} (h : optP o k) : ∃ x, o = some x ∧ k x := by
  cases o with
  | none => exact h.elim
  | some x => exact ⟨x, rfl, h⟩
def opAdd : G2 := fun d e k => match d, e with
  | .int i, .int j => k (.int (i + j))
  | .str a, .str b => a.length + b.length ≤ sizeLine ∧ k (.str (a ++ b))
  | .lst a, .lst b => a.length + b.length ≤ sizeLine ∧ k (.lst (a ++ b))
  | .tup a, .tup b => a.length + b.length ≤ sizeLine ∧ k (.tup (a ++ b))
  | _, _ => False
section
variable {X : Cx}
theorem od_add : OpD X (binaryOp .Add) opAdd := by
  refine ⟨_, op_or op_add (op_or op_add_str (op_or op_cat op_catA)), fun W G ρ H os v u d e Q k w sv su q fin => ?_⟩
  cases d with
  | int i =>
    cases e with
    | int j =>
      obtain rfl := snp_int sv
      obtain rfl := snp_int su
      exact .inl ⟨i, j, rfl, rfl, fin _ q _ G H (Same.refl _) w (.int _)⟩
    | _ => exact q.elim
  | str a =>
    cases e with
    | str b =>
      obtain ⟨rfl, oa⟩ := snp_str sv
      obtain ⟨rfl, ob⟩ := snp_str su
      exact .inr (.inl ⟨a, b, rfl, rfl, q.1, fin _ q.2 _ G H (Same.refl _) w (.str _ (okz_app oa ob q.1))⟩)
    | _ => exact q.elim
  | lst a =>
    cases e with
    | lst b =>
      obtain ⟨p, xs, rfl, h1, r1, z1⟩ := snp_lst sv
      obtain ⟨p2, ys, rfl, h2, r2, z2⟩ := snp_lst su
      refine .inr (.inr (.inl ⟨p, p2, xs, ys, rfl, rfl, h1, h2, by rw [r1.len, r2.len]; exact q.1, fun r hr => ?_⟩))
      obtain ⟨w2, g⟩ := w.new hr (.lst (xs ++ ys))
      exact fin _ q.2 _ _ _ g w2 (.lst upd_same ((r1.app r2).mono g) (by rw [List.length_append]; exact q.1))
    | _ => exact q.elim
  | tup a =>
    cases e with
    | tup b =>
      obtain ⟨p, xs, rfl, g1, h1, r1, z1⟩ := snp_tup w.gh sv
      obtain ⟨p2, ys, rfl, g2, h2, r2, z2⟩ := snp_tup w.gh su
      refine .inr (.inr (.inr ⟨p, p2, xs, ys, rfl, rfl, h1, h2, by rw [r1.len, r2.len]; exact q.1, fun e0 => ?_, fun _ e0 => ?_, fun _ _ r hr => ?_⟩))
      · subst e0
        cases r1
        exact fin _ q.2 _ G H (Same.refl _) w (.tup g2 r2 z2)
      · subst e0
        cases r2
        exact fin _ q.2 _ G H (Same.refl _) w (.tup g1 (by rw [List.append_nil]; exact r1) (by rw [List.append_nil]; exact z1))
      · obtain ⟨w2, g⟩ := w.new hr (.tup (xs ++ ys))
        exact fin _ q.2 _ _ _ g w2 (.tup (SqT.of upd_same) ((r1.app r2).mono g) (by rw [List.length_append]; exact q.1))
    | _ => exact q.elim
  | _ => exact q.elim
def opInt (C : Int → Int → Prop) (f : Int → Int → Dt) : G2 := fun d e k => match d, e with
  | .int i, .int j => C i j ∧ k (f i j)
  | _, _ => False
def opI0 (f : Int → Int → Dt) : G2 := fun d e k => match d, e with
  | .int i, .int j => k (f i j)
  | _, _ => False
theorem od_i0 {f : Value → Value → Sem Value} {g : Int → Int → V} {gd : Int → Int → Dt} (h : OpR X f (rI0 g)) (hr : ∀ (G : Hp) (i j : Int), Rep X.K G (g i j) (gd i j)) : OpD X f (opI0 gd) := by
  refine ⟨_, h, fun W G ρ H os v u d e Q k w sv su q fin => ?_⟩
  cases d with
  | int i =>
    cases e with
    | int j =>
      obtain rfl := snp_int sv
      obtain rfl := snp_int su
      exact ⟨i, j, rfl, rfl, fin _ q _ G H (Same.refl _) w (hr G i j)⟩
    | _ => exact q.elim
  | _ => exact q.elim
theorem od_lt : OpD X (compareOp .Lt) (opI0 fun i j => .bl (decide (i < j))) := od_i0 op_lt fun _ _ _ => .bl _
theorem od_le : OpD X (compareOp .LtE) (opI0 fun i j => .bl (decide (i ≤ j))) := od_i0 op_le fun _ _ _ => .bl _
theorem od_gt : OpD X (compareOp .Gt) (opI0 fun i j => .bl (decide (j < i))) := od_i0 op_gt fun _ _ _ => .bl _
def isN : Dt → Bool
  | .non => true
  | _ => false
def notRaw : Dt → Bool
  | .raw _ => false
  | .lam _ => false
  | _ => true
def opIsN : G2 := fun d e k => isN e = true ∧ notRaw d = true ∧ k (.bl (isN d))
def opNotN : G2 := fun d e k => isN e = true ∧ notRaw d = true ∧ k (.bl (!isN d))
theorem isN_eq {e : Dt} (h : isN e = true) : e = .non := by
  cases e with
  | non => rfl
  | _ => cases h
theorem isN_of {K : PySem.W.Frag} {G H : Hp} {v : V} {d : Dt} (h : Snp K G H v d) (n : notRaw d = true) : decide (v = .non) = isN d := by
  cases d with
  | non => rw [snp_non h]; rfl
  | bl b => rw [snp_bl h]; rfl
  | int b => rw [snp_int h]; rfl
  | str b => rw [(snp_str h).1]; rfl
  | lst ds =>
    obtain ⟨_, _, rfl, _⟩ := snp_lst h
    rfl
  | dct ds =>
    obtain ⟨_, _, rfl, _⟩ := snp_dct h
    rfl
  | tup ds =>
    cases (show Rep K G v (.tup ds) from h)
    rfl
  | ins C fs =>
    cases (show Rep K G v (.ins C fs) from h)
    rfl
  | raw x => cases n
  | lam x => cases n
theorem od_notN : OpD X (compareOp .IsNot) opNotN := by
  refine ⟨_, op_notN, fun W G ρ H os v u d e Q k w sv su ⟨q1, q2, q⟩ fin => ?_⟩
  obtain rfl := isN_eq q1
  refine ⟨snp_non su, ?_⟩
  rw [isN_of sv q2]
  exact fin _ q _ G H (Same.refl _) w (.bl _)
def opEq : G2 := fun d e k => (pln d = true ∧ pln e = true ∧ min (dep d) (dep e) ≤ 60) ∧ k (.bl (eqB d e))
def opNe : G2 := fun d e k => (pln d = true ∧ pln e = true ∧ min (dep d) (dep e) ≤ 60) ∧ k (.bl (!eqB d e))
def rEqM (K : PySem.W.Frag) (neg : Bool) : R2 := fun x y H Q => ∃ d e, Dp K H x d ∧ Dp K H y e ∧ d.canLay0 = true ∧ e.canLay0 = true ∧ min d.depth e.depth ≤ 60 ∧ Q (.bl (if neg then !PyData.eqv d e else PyData.eqv d e)) H
theorem op_eqM (hu : X.A.units + 64 < cLine) : OpR X (compareOp .Eq) (rEqM X.K false) := by
  intro pins s σ H x y v u Q I rx ry ⟨d, e, hd, he, ld, le, hm, q⟩
  obtain ⟨as, r1⟩ := Dp.reads I d x v hd rx
  obtain ⟨bs, r2⟩ := Dp.reads I e y u he ry
  exact SeqAt.compareEq_reads r1 r2 ld le (by omega) ⟨.bl _, H, I, rfl, q⟩
theorem op_neM (hu : X.A.units + 64 < cLine) : OpR X (compareOp .NotEq) (rEqM X.K true) := by
  intro pins s σ H x y v u Q I rx ry ⟨d, e, hd, he, ld, le, hm, q⟩
  obtain ⟨as, r1⟩ := Dp.reads I d x v hd rx
  obtain ⟨bs, r2⟩ := Dp.reads I e y u he ry
  exact SeqAt.compareNe_reads r1 r2 ld le (by omega) ⟨.bl _, H, I, rfl, q⟩
theorem od_eq (hu : X.A.units + 64 < cLine) : OpD X (compareOp .Eq) opEq := by
  refine ⟨_, op_eqM hu, fun W G ρ H os v u d e Q k w sv su ⟨⟨p1, p2, p3⟩, q⟩ fin => ?_⟩
  obtain ⟨a1, a2, a3⟩ := (Snp.rep w.gh sv).dp p1
  obtain ⟨b1, b2, b3⟩ := (Snp.rep w.gh su).dp p2
  refine ⟨_, _, a1, b1, a2, b2, by omega, ?_⟩
  rw [if_neg Bool.false_ne_true, eqv_eqB.1 d e p1 p2]
  exact fin _ q _ G H (Same.refl _) w (.bl _)
theorem od_ne (hu : X.A.units + 64 < cLine) : OpD X (compareOp .NotEq) opNe := by
  refine ⟨_, op_neM hu, fun W G ρ H os v u d e Q k w sv su ⟨⟨p1, p2, p3⟩, q⟩ fin => ?_⟩
  obtain ⟨a1, a2, a3⟩ := (Snp.rep w.gh sv).dp p1
  obtain ⟨b1, b2, b3⟩ := (Snp.rep w.gh su).dp p2
  refine ⟨_, _, a1, b1, a2, b2, by omega, ?_⟩
  rw [if_pos rfl, eqv_eqB.1 d e p1 p2]
  exact fin _ q _ G H (Same.refl _) w (.bl _)
def keyD : Dt → Option Key
  | .int i => some (.inl i)
  | .str z => some (.inr z)
  | _ => none
def valD (ks : List (Key × Dt)) (k : Key) : Option Dt := (ks.find? fun kv => decide (kv.1 = k)).map (·.2)
def inD (d : Dt) (ds : List Dt) : Bool := ds.any fun y => eqB y d
/-- in a list, a tuple, a text, a dict -/
def opInN (neg : Bool) : G2 := fun d e k => match e with
  | .lst ds => (pln d = true ∧ plns ds = true ∧ min (deps ds) (dep d) ≤ 60) ∧ k (.bl (if neg then !inD d ds else inD d ds))
  | .tup ds => (pln d = true ∧ plns ds = true ∧ min (deps ds) (dep d) ≤ 60) ∧ k (.bl (if neg then !inD d ds else inD d ds))
  | .dct ks => optP (keyD d) fun x => k (.bl (if neg then !(valD ks x).isSome else (valD ks x).isSome))
  | .str z => (match d with | .str y => (match y.cps.toList with | [c] => k (.bl (if neg then !decide (c ∈ z.cps.toList) else decide (c ∈ z.cps.toList))) | _ => False) | _ => False)
  | _ => False
def rInM (K : PySem.W.Frag) (neg : Bool) : R2 := fun x y H Q => ∃ (d : PyData) (ds : List PyData) (t : Bool), Dp K H x d ∧ Dp K H y (if t then .tuple ds else .list ds) ∧ PyData.canLayAll0 ds = true ∧ d.canLay0 = true ∧ min (PyData.depthAll ds) d.depth ≤ 60 ∧ Q (.bl (if neg then !ds.any (fun z => PyData.eqv z d) else ds.any fun z => PyData.eqv z d)) H
theorem op_inM (hu : X.A.units + 65 < cLine) : OpR X (compareOp .In) (rInM X.K false) := by
  intro pins s σ H x y v u Q I rx ry ⟨d, ds, t, hd, he, lx, ld, hm, q⟩
  obtain ⟨as, r1⟩ := Dp.reads I d x v hd rx
  obtain ⟨bs, r2⟩ := Dp.reads I _ y u he ry
  cases t with
  | true => exact SeqAt.in_tuple_reads r2 r1 lx ld (by omega) ⟨.bl _, H, I, rfl, q⟩
  | false => exact SeqAt.in_list_reads r2 r1 lx ld (by omega) ⟨.bl _, H, I, rfl, q⟩
theorem op_ninM (hu : X.A.units + 65 < cLine) : OpR X (compareOp .NotIn) (rInM X.K true) := by
  intro pins s σ H x y v u Q I rx ry ⟨d, ds, t, hd, he, lx, ld, hm, q⟩
  obtain ⟨as, r1⟩ := Dp.reads I d x v hd rx
  obtain ⟨bs, r2⟩ := Dp.reads I _ y u he ry
  cases t with
  | true => exact SeqAt.notIn_tuple_reads r2 r1 lx ld (by omega) ⟨.bl _, H, I, rfl, q⟩
  | false => exact SeqAt.notIn_list_reads r2 r1 lx ld (by omega) ⟨.bl _, H, I, rfl, q⟩
def rInDct (neg : Bool) : R2 := fun y x H Q => ∃ a o, x = .ref a ∧ DGet H a y o ∧ Q (.bl (if neg then !o.isSome else o.isSome)) H
theorem op_inDct (hu : X.A.units + 1 < cLine) : OpR X (compareOp .In) (rInDct false) := fun pins s σ H x y v u Q I rx ry ⟨a, o, e, g, q⟩ => by
  subst e
  cases ry
  exact d_in hu I g rx fun s3 I3 => ⟨.bl o.isSome, H, I3, rfl, q⟩
theorem op_ninDct (hu : X.A.units + 1 < cLine) : OpR X (compareOp .NotIn) (rInDct true) := fun pins s σ H x y v u Q I rx ry ⟨a, o, e, g, q⟩ => by
  subst e
  cases ry
  exact d_notIn hu I g rx fun s3 I3 => ⟨.bl (!o.isSome), H, I3, rfl, q⟩
theorem repk_val {K : PySem.W.Frag} {G : Hp} {x : Key} : ∀ {kvs : List (Key × V)} {ks : List (Key × Dt)}, RepK K G kvs ks → (valV kvs x = none ∧ valD ks x = none) ∨ ∃ v d, valV kvs x = some v ∧ valD ks x = some d ∧ Rep K G v d
  | _, _, .nil => .inl ⟨rfl, rfl⟩
  | _, _, .cons (k := k) h t => by
    by_cases e : k = x
    · exact .inr ⟨_, _, by simp [valV, e], by simp [valD, e], h⟩
    · have ih := repk_val (x := x) t
      simp only [valV, valD] at ih ⊢
      rw [List.find?_cons_of_neg (by simpa using e), List.find?_cons_of_neg (by simpa using e)]
      exact ih
theorem key_of {K : PySem.W.Frag} {G H : Hp} {v : V} {d : Dt} {x : Key} (h : Snp K G H v d) (e : keyD d = some x) : v = kV x := by
  cases d with
  | int i =>
    obtain rfl := Option.some.inj e
    exact snp_int h
  | str z =>
    obtain rfl := Option.some.inj e
    exact (snp_str h).1
  | _ => cases e
theorem any_eqB {d : Dt} (p : pln d = true) : ∀ {ds : List Dt}, plns ds = true → (toPys ds).any (fun z => PyData.eqv z (toPy d)) = inD d ds
  | [], _ => rfl
  | e :: ds, h => by
    rw [plns, Bool.and_eq_true] at h
    unfold inD
    rw [toPys, List.any_cons, List.any_cons, eqv_eqB.1 e d h.1 p, any_eqB p h.2]
    rfl
def rSign (neg : Bool) : R2 := fun x y H Q => ∃ (c : Nat) (z : Str), x = .str ⟨#[c]⟩ ∧ y = .str z ∧ Q (.bl (if neg then !decide (c ∈ z.cps.toList) else decide (c ∈ z.cps.toList))) H
theorem op_inSign : OpR X (compareOp .In) (rSign false) := op_in_sign
theorem in_go {neg : Bool} {W : Wd} {G : Hp} {ρ : List Addr} {H : Hp} {os : List OO} {v u : V} {d e : Dt} {Q : VK} {k : Dt → Prop} (w : Wo X.K W G ρ H os) (sv : Snp X.K G H v d) (su : Snp X.K G H u e) (q : opInN neg d e k) (fin : ∀ z, k z → Res X.K W G ρ os z Q) (ns : ∀ z, e = .str z → False) :
    rInM X.K neg v u H Q ∨ rInDct neg v u H Q := by
  cases e with
  | lst ds =>
    obtain ⟨⟨p1, p2, p3⟩, q⟩ := q
    obtain ⟨a1, a2, a3⟩ := (Snp.rep w.gh sv).dp p1
    obtain ⟨b1, b2, b3⟩ := (Snp.rep w.gh su).dp (d := .lst ds) (by simpa [pln] using p2)
    simp only [toPy, PyData.canLay0, PyData.depth, dep] at b2 b3
    refine .inl ⟨_, toPys ds, false, a1, by simpa [toPy] using b1, b2, a2, by omega, ?_⟩
    rw [any_eqB p1 p2]
    exact fin _ q _ G H (Same.refl _) w (.bl _)
  | tup ds =>
    obtain ⟨⟨p1, p2, p3⟩, q⟩ := q
    obtain ⟨a1, a2, a3⟩ := (Snp.rep w.gh sv).dp p1
    obtain ⟨b1, b2, b3⟩ := (Snp.rep w.gh su).dp (d := .tup ds) (by simpa [pln] using p2)
    simp only [toPy, PyData.canLay0, PyData.depth, dep] at b2 b3
    refine .inl ⟨_, toPys ds, true, a1, by simpa [toPy] using b1, b2, a2, by omega, ?_⟩
    rw [any_eqB p1 p2]
    exact fin _ q _ G H (Same.refl _) w (.bl _)
  | dct ks =>
    obtain ⟨x, ek, q⟩ := optP.get (show optP (keyD d) _ from q)
    · obtain ⟨a, kvs, rfl, hr, rk⟩ := snp_dct su
      have hv := key_of sv ek
      refine .inr ⟨a, valV kvs x, rfl, .inl ⟨kvs, x, hr, hv, rfl⟩, ?_⟩
      have e2 : (valV kvs x).isSome = (valD ks x).isSome := by
        rcases repk_val (x := x) rk with ⟨h1, h2⟩ | ⟨_, _, h1, h2, _⟩ <;> rw [h1, h2] <;> rfl
      rw [e2]
      exact fin _ q _ G H (Same.refl _) w (.bl _)
  | str z => exact (ns z rfl).elim
  | _ => exact q.elim
theorem od_in (hu : X.A.units + 65 < cLine) : OpD X (compareOp .In) (opInN false) := by
  refine ⟨_, op_or op_inSign (op_or (op_inM hu) (op_inDct (by omega))), fun W G ρ H os v u d e Q k w sv su q fin => ?_⟩
  by_cases es : ∃ z, e = .str z
  · obtain ⟨z, rfl⟩ := es
    cases d with
    | str y =>
      obtain ⟨rfl, oy⟩ := snp_str sv
      obtain ⟨rfl, _⟩ := snp_str su
      unfold opInN at q
      cases ey : y.cps.toList with
      | nil => simp only [ey] at q
      | cons c r =>
        cases r with
        | cons c2 r => simp only [ey] at q
        | nil =>
          simp only [ey] at q
          have e1 : y = ⟨#[c]⟩ := by
            have : y.cps = #[c] := by rw [← Array.toList_inj, ey]
            cases y
            simpa using this
          exact .inl ⟨c, z, by rw [e1], rfl, fin _ q _ G H (Same.refl _) w (.bl _)⟩
    | _ => exact q.elim
  · exact .inr (in_go w sv su q fin fun z ez => es ⟨z, ez⟩)
theorem od_notIn (hu : X.A.units + 65 < cLine) : OpD X (compareOp .NotIn) (fun d e k => (∀ z, e ≠ .str z) ∧ opInN true d e k) := by
  refine ⟨_, op_or (op_ninM hu) (op_ninDct (by omega)), fun W G ρ H os v u d e Q k w sv su q fin => ?_⟩
  exact in_go w sv su q.2 fin fun z ez => q.1 z ez
def opIx : G2 := fun d e k => match d, e with
  | .lst ds, .int i => optP (atI ds i) k
  | .tup ds, .int i => optP (atI ds i) k
  | .str z, .int i => optP (atI z.cps.toList i) fun c => k (.str ⟨#[c]⟩)
  | .dct ks, e => optP (keyD e) fun x => optP (valD ks x) k
  | _, _ => False
def rIxDct : R2 := fun x y H Q => ∃ a v, x = .ref a ∧ DGet H a y (some v) ∧ Q v H
theorem ix_dct (hu : X.A.units + 1 < cLine) : IxR X rIxDct := fun value slice pins s σ H x y v u Q I rx ry ⟨a, z, e, g, q⟩ hs => by
  subst e
  cases rx
  exact PyProof.Rows.tail_any (dict_typeIs I g) slot_dict_getitem.lookup (d_getItem hu I g ry fun w' s3 I3 rw' => ⟨z, H, I3, rw', q⟩) hs
theorem atI_rep {K : PySem.W.Frag} {G : Hp} {vs : List V} {ds : List Dt} {i : Int} {d : Dt} (r : RepAll K G vs ds) (h : atI ds i = some d) : ∃ v, atI vs i = some v ∧ Rep K G v d := by
  unfold atI at h ⊢
  rw [r.len]
  cases e : ixN ds.length i with
  | none => rw [e] at h; cases h
  | some j =>
    rw [e] at h
    exact r.get' h
theorem atI_mem {α : Type} {xs : List α} {i : Int} {x : α} (h : atI xs i = some x) : x ∈ xs := by
  unfold atI at h
  cases e : ixN xs.length i with
  | none => rw [e] at h; cases h
  | some j =>
    rw [e] at h
    exact List.mem_of_getElem? h
theorem od_ix (hu : X.A.units + 1 < cLine) : IxD X opIx := by
  refine ⟨_, ix_or ix_seq (ix_dct hu), fun W G ρ H os v u d e Q k w sv su q fin => ?_⟩
  cases d with
  | lst ds =>
    cases e with
    | int i =>
      obtain rfl := snp_int su
      obtain ⟨p, xs, rfl, h1, r1, z1⟩ := snp_lst sv
      obtain ⟨z, ea, q⟩ := optP.get (show optP (atI ds i) _ from q)
      · obtain ⟨x, hx, rx⟩ := atI_rep r1 ea
        exact .inl (.inl ⟨p, xs, i, x, rfl, rfl, SqL.of h1, hx, fin _ q _ G H (Same.refl _) w rx⟩)
    | _ => exact q.elim
  | tup ds =>
    cases e with
    | int i =>
      obtain rfl := snp_int su
      obtain ⟨p, xs, rfl, h0, h1, r1, z1⟩ := snp_tup w.gh sv
      obtain ⟨z, ea, q⟩ := optP.get (show optP (atI ds i) _ from q)
      · obtain ⟨x, hx, rx⟩ := atI_rep r1 ea
        exact .inl (.inr (.inl ⟨p, xs, i, x, rfl, rfl, h1, hx, fin _ q _ G H (Same.refl _) w rx⟩))
    | _ => exact q.elim
  | str z =>
    cases e with
    | int i =>
      obtain rfl := snp_int su
      obtain ⟨rfl, oz⟩ := snp_str sv
      obtain ⟨c, ea, q⟩ := optP.get (show optP (atI z.cps.toList i) _ from q)
      · exact .inl (.inr (.inr ⟨z, i, c, rfl, rfl, oz.2, ea, fin _ q _ G H (Same.refl _) w (.str _ (okz_char oz (atI_mem ea)))⟩))
    | _ => exact q.elim
  | dct ks =>
    have q : optP (keyD e) fun x => optP (valD ks x) k := by cases e <;> exact q
    obtain ⟨x, ek, q⟩ := q.get
    obtain ⟨z, ev, q⟩ := q.get
    · · obtain ⟨a, kvs, rfl, hr, rk⟩ := snp_dct sv
        rcases repk_val (x := x) rk with ⟨_, h2⟩ | ⟨x1, d1, h1, h2, r1⟩
        · rw [h2] at ev
          cases ev
        · rw [h2] at ev
          obtain rfl := Option.some.inj ev
          exact .inr ⟨a, x1, rfl, .inl ⟨kvs, x, hr, key_of su ek, h1.symm⟩, fin _ q _ G H (Same.refl _) w r1⟩
  | _ => exact q.elim
def fnLen : GN := fun ds k => match ds with
  | [.lst xs] => k (.int xs.length)
  | [.tup xs] => k (.int xs.length)
  | [.str z] => k (.int z.length)
  | _ => False
theorem snps1 {K : PySem.W.Frag} {G H : Hp} {vs : List V} {d : Dt} (h : Paired (Snp K G H) vs [d]) : ∃ v, vs = [v] ∧ Snp K G H v d := by
  cases h with
  | cons h t =>
    cases t
    exact ⟨_, rfl, h⟩
theorem cd_len : CallD X (.builtin "len") fnLen := by
  refine ⟨_, call_len, fun W G ρ H os vs ds Q k w sv q fin => ?_⟩
  match ds, q, sv with
  | [.lst xs], q, sv =>
    obtain ⟨v, rfl, s⟩ := snps1 sv
    obtain ⟨p, us, rfl, h1, r1, z1⟩ := snp_lst s
    exact ⟨_, us.length, rfl, .inl ⟨us, SqL.of h1, rfl⟩, fin _ q _ G H (Same.refl _) w (by rw [r1.len]; exact .int _)⟩
  | [.tup xs], q, sv =>
    obtain ⟨v, rfl, s⟩ := snps1 sv
    obtain ⟨p, us, rfl, _, h1, r1, z1⟩ := snp_tup w.gh s
    exact ⟨_, us.length, rfl, .inr ⟨us, h1, rfl⟩, fin _ q _ G H (Same.refl _) w (by rw [r1.len]; exact .int _)⟩
  | [.str z], q, sv =>
    obtain ⟨v, rfl, s⟩ := snps1 sv
    obtain ⟨rfl, oz⟩ := snp_str s
    exact ⟨_, z.length, rfl, ⟨oz.2, rfl⟩, fin _ q _ G H (Same.refl _) w (.int _)⟩
def bls : List Dt → Option (List Bool)
  | [] => some []
  | .bl b :: r => (bls r).map (b :: ·)
  | _ :: _ => none
theorem bls_rep {K : PySem.W.Frag} {G : Hp} : ∀ {vs : List V} {ds : List Dt} {bs : List Bool}, RepAll K G vs ds → bls ds = some bs → vs = bs.map V.bl
  | _, _, _, .nil, e => by
    obtain rfl := Option.some.inj e
    rfl
  | _, .bl b :: r, bs, .cons h t, e => by
    have e2 : (bls r).map (b :: ·) = some bs := e
    cases q : bls r with
    | none => rw [q] at e2; cases e2
    | some cs =>
      rw [q] at e2
      obtain rfl := Option.some.inj e2
      cases h
      rw [bls_rep t q]
      rfl
theorem bls_map {α : Type} (f : α → Bool) : ∀ xs : List α, bls (xs.map fun x => .bl (f x)) = some (xs.map f)
  | [] => rfl
  | x :: xs => by
    show (bls (xs.map fun x => .bl (f x))).map (f x :: ·) = _
    rw [bls_map f xs]
    rfl
def fnAll (any : Bool) : GN := fun ds k => match ds with
  | [.lst xs] => optP (bls xs) fun bs => k (.bl (if any then bs.any id else bs.all id))
  | _ => False
theorem cd_all (hc : X.calm = true) : CallD X (.builtin "all") (fnAll false) := by
  refine ⟨_, cr_all hc, fun W G ρ H os vs ds Q k w sv q fin => ?_⟩
  match ds, q, sv with
  | [.lst xs], q, sv =>
    obtain ⟨v, rfl, s⟩ := snps1 sv
    obtain ⟨p, us, rfl, h1, r1, z1⟩ := snp_lst s
    obtain ⟨bs, e, q⟩ := optP.get (show optP (bls xs) _ from q)
    · obtain rfl := bls_rep r1 e
      exact ⟨p, bs, rfl, SqL.of h1, fin _ q _ G H (Same.refl _) w (.bl _)⟩
theorem cd_any (hc : X.calm = true) : CallD X (.builtin "any") (fnAll true) := by
  refine ⟨_, cr_any hc, fun W G ρ H os vs ds Q k w sv q fin => ?_⟩
  match ds, q, sv with
  | [.lst xs], q, sv =>
    obtain ⟨v, rfl, s⟩ := snps1 sv
    obtain ⟨p, us, rfl, h1, r1, z1⟩ := snp_lst s
    obtain ⟨bs, e, q⟩ := optP.get (show optP (bls xs) _ from q)
    · obtain rfl := bls_rep r1 e
      exact ⟨p, bs, rfl, SqL.of h1, fin _ q _ G H (Same.refl _) w (.bl _)⟩
/-- tuple(x), list(x) -/
def fnTuple : GN := fun ds k => match ds with
  | [.lst xs] => k (.tup xs)
  | [.tup xs] => k (.tup xs)
  | _ => False
def fnList : GN := fun ds k => match ds with
  | [.lst xs] => k (.lst xs)
  | [.tup xs] => k (.lst xs)
  | _ => False
theorem cd_tuple : CallD X (.type "tuple") fnTuple := by
  refine ⟨_, call_tuple_of, fun W G ρ H os vs ds Q k w sv q fin => ?_⟩
  match ds, q, sv with
  | [.lst xs], q, sv =>
    obtain ⟨v, rfl, s⟩ := snps1 sv
    obtain ⟨p, us, rfl, h1, r1, z1⟩ := snp_lst s
    refine ⟨p, us, rfl, .inl ⟨SqL.of h1, fun l hl => ?_⟩⟩
    obtain ⟨w2, g⟩ := w.new hl (.tup us)
    exact fin _ q _ _ _ g w2 (.tup (SqT.of upd_same) (r1.mono g) z1)
  | [.tup xs], q, sv =>
    obtain ⟨v, rfl, s⟩ := snps1 sv
    obtain ⟨p, us, rfl, h0, h1, r1, z1⟩ := snp_tup w.gh s
    exact ⟨p, us, rfl, .inr ⟨h1, fin _ q _ G H (Same.refl _) w (.tup h0 r1 z1)⟩⟩
theorem cd_list : CallD X (.type "list") fnList := by
  refine ⟨_, call_list_of, fun W G ρ H os vs ds Q k w sv q fin => ?_⟩
  match ds, q, sv with
  | [.lst xs], q, sv =>
    obtain ⟨v, rfl, s⟩ := snps1 sv
    obtain ⟨p, us, rfl, h1, r1, z1⟩ := snp_lst s
    refine ⟨p, us, rfl, .inl (SqL.of h1), fun l hl => ?_⟩
    obtain ⟨w2, g⟩ := w.new hl (.lst us)
    exact fin _ q _ _ _ g w2 (.lst upd_same (r1.mono g) z1)
  | [.tup xs], q, sv =>
    obtain ⟨v, rfl, s⟩ := snps1 sv
    obtain ⟨p, us, rfl, h0, h1, r1, z1⟩ := snp_tup w.gh s
    refine ⟨p, us, rfl, .inr h1, fun l hl => ?_⟩
    obtain ⟨w2, g⟩ := w.new hl (.lst us)
    exact fin _ q _ _ _ g w2 (.lst upd_same (r1.mono g) z1)
end
end De
namespace De
open PySem L2 Bl
theorem hu65 {k : Nat} {A : Around} (r : Room k A) : A.units + 65 < cLine := by have := r.un; omega
inductive Ty6 where
  | str | int | bool | list | tuple | dict
def Ty6.name : Ty6 → String
  | .str => "str" | .int => "int" | .bool => "bool" | .list => "list" | .tuple => "tuple" | .dict => "dict"
def tyNd : Dt → String
  | .non => "NoneType" | .bl _ => "bool" | .int _ => "int" | .str _ => "str" | .lst _ => "list" | .tup _ => "tuple" | .dct _ => "dict" | .ins _ _ => "?" | .raw _ => "?" | .lam _ => "?"
def Ty6.has : Ty6 → Dt → Bool
  | .str, .str _ => true
  | .int, .int _ => true
  | .int, .bl _ => true
  | .bool, .bl _ => true
  | .list, .lst _ => true
  | .tuple, .tup _ => true
  | .dict, .dct _ => true
  | _, _ => false
def data : Dt → Bool
  | .ins _ _ => false
  | .raw _ => false
  | .lam _ => false
  | _ => true
theorem kit_has (c : Ty6) (d : Dt) (h : data d = true) : kitB (tyNd d) c.name = some (c.has d) := by
  cases d <;> first | (cases h; done) | (cases c <;> (dsimp only [tyNd, Ty6.name, Ty6.has]; decide +kernel))
theorem Snp.ty {K : PySem.W.Frag} {G H : Hp} {v : V} {d : Dt} (g : Same G H) (h : Snp K G H v d) (q : data d = true) : TyX K H v (.type (tyNd d)) := by
  cases d with
  | non => rw [snp_non h]; exact .base .non
  | bl b => rw [snp_bl h]; exact .base (.bl b)
  | int b => rw [snp_int h]; exact .base (.int b)
  | str b => rw [(snp_str h).1]; exact .base (.str b)
  | lst ds =>
    obtain ⟨_, _, rfl, e, _⟩ := snp_lst h
    exact .base (.lst e)
  | tup ds =>
    obtain ⟨_, _, rfl, _, e, _⟩ := snp_tup g h
    exact tyT e
  | dct ds =>
    obtain ⟨_, _, rfl, e, _⟩ := snp_dct h
    rcases e with e | ⟨o, e⟩
    · exact .base (.dK e)
    · exact .fDict e
  | ins C fs => cases q
  | raw x => cases q
  | lam x => cases q
def dIsi (c : Dt → Bool) (a : DE) : DE := fun sl os Q Ex => a sl os (fun x os1 => Rdd os1 x fun d => data d = true ∧ Q (.d (.bl (c d))) os1) Ex
section
variable {X : Cx} {Z : Zs} {E : XK} {e : Expr} {da : DE}
theorem pd_isi {c : Ty6} (h : PE X e (tCB (rIsi X.K) (tCons (lift X.K Z E (RE X.K) da) (tCons (tC (.ty c.name)) tNil)))) : PD X Z E e (dIsi c.has da) :=
  pd_of h fun σ H Q W G ρ sl os Qd Ex p q => p.bind (RS := RE X.K) _ q fun x os1 v G1 ρ1 H1 q1 p1 r1 e1 => by
    obtain ⟨d, hd, hq, q2⟩ := Rdd.get q1
    exact ⟨v, _, _, _, _, rfl, .ty _, Snp.ty p1.wo.gh (p1.wo.snp r1 hd) hq, kit_ty (kit_has c d hq), p1.end_ q2 (.bl _)⟩
theorem pd_isiT {c c' : Ty6} (h : PE X e (tCB (rIsiT X.K) (tCons (lift X.K Z E (RE X.K) da) (tCons (tTup (tCons (tC (.ty c.name)) (tCons (tC (.ty c'.name)) tNil))) tNil)))) : PD X Z E e (dIsi (fun d => c.has d || c'.has d) da) :=
  pd_of h fun σ H Q W G ρ sl os Qd Ex p q => p.bind (RS := RE X.K) _ q fun x os1 v G1 ρ1 H1 q1 p1 r1 e1 => by
    obtain ⟨d, hd, hq, q2⟩ := Rdd.get q1
    refine ⟨by show 2 ≤ sizeLine; decide, fun t ht => ?_⟩
    obtain ⟨w, g⟩ := p1.wo.new ht (.tup [.ty c.name, .ty c'.name])
    have p2 := p1.at w (Ext.of g)
    refine ⟨v, t, _, _, [.type c.name, .type c'.name], c.has d || c'.has d, rfl, upd_same, .cons (.ty _) (.cons (.ty _) .nil), Snp.ty p2.wo.gh (p2.wo.snp (OvR.mono (Ext.of g) r1) hd) hq, ?_, p2.end_ q2 (.bl _)⟩
    refine kitAny_cons (kit_ty (kit_has c d hq)) (fun hb => ?_) (fun hb => by rw [hb]; rfl)
    refine kitAny_cons (kit_ty (kit_has c' d hq)) (fun hb' => ?_) (fun hb' => by rw [hb']; simp)
    rw [hb, hb']
    rfl
end
def dStar (a : DE) (r : DA) : DA := fun sl os Q Ex => a sl os (fun x os1 => Rdd os1 x fun d => (match d with
  | .lst ds => r sl os1 (fun ys os2 => Q (ds.map .d ++ ys) os2) Ex
  | .tup ds => r sl os1 (fun ys os2 => Q (ds.map .d ++ ys) os2) Ex
  | _ => False)) Ex
theorem pair_app {α β : Type} {F : α → β → Prop} : ∀ {l m : List α} {l' m' : List β}, Paired F l l' → Paired F m m' → Paired F (l ++ m) (l' ++ m')
  | _, _, _, _, .nil, k => k
  | _, _, _, _, .cons h t, k => .cons h (pair_app t k)
abbrev DO := DG (Option Int)
def RO (_ : Hp) (_ : List Addr) (v : Option Int) (x : Option Int) : Prop := v = x
def dPart (a : DE) : DO := fun sl os Q Ex => a sl os (fun x os1 => match x with | .d (.int i) => Q (some i) os1 | _ => False) Ex
def dNoPart : DO := fun _ os Q _ => Q none os
abbrev POD (X : Cx) (Z : Zs) (E : XK) (e : Option Expr) (d : DO) : Prop := PO X e (lift X.K Z E RO d)
theorem PO.weak {X : Cx} {e : Option Expr} {t t' : TO} (h : PO X e t) (k : ∀ σ H Q, t' σ H Q → t σ H Q) : PO X e t' := ⟨fun pins s σ H Q I q => h.run pins s σ H Q I (k _ _ _ q)⟩
def cutD (xs : List Dt) (lo hi : Option Int) : List Dt := (xs.drop (HT.sIx xs.length 0 lo)).take (HT.sIx xs.length xs.length hi - HT.sIx xs.length 0 lo)
def dSl (a : DE) (lo hi : DO) : DE := fun sl os Q Ex => a sl os (fun x os1 => lo sl os1 (fun l os2 => hi sl os2 (fun h os3 => Rdd os3 x fun d => (match d with
  | .lst ds => Q (.d (.lst (cutD ds l h))) os3
  | .tup ds => Q (.d (.tup (cutD ds l h))) os3
  | .str z => Q (.d (.str (cutS z l h))) os3
  | _ => False)) Ex) Ex) Ex
section
variable {X : Cx} {Z : Zs} {E : XK} {e : Expr} {lo hi : Option Expr} {da : DE} {dl dh : DO} {p2 pos : Pos}
theorem pod_none : POD X Z E none dNoPart := PO.weak po_none fun σ H Q ⟨W, G, ρ, sl, os, Qd, Ex, p, q⟩ => p.end_ (v := none) q rfl
theorem pod_some (h : PD X Z E e da) : POD X Z E (some e) (dPart da) := PO.weak (po_some h) fun σ H Q ⟨W, G, ρ, sl, os, Qd, Ex, p, q⟩ => p.bind (RS := RE X.K) _ q fun x os1 v G1 ρ1 H1 q1 p1 r1 e1 => by
  cases x with
  | o j => exact q1.elim
  | d d =>
    cases d with
    | int i =>
      cases r1
      exact ⟨i, rfl, p1.end_ (v := some i) q1 rfl⟩
    | _ => exact q1.elim
theorem sl_or {r r' : V → Option Int → Option Int → Hp → VK → Prop} (h : L2.SlR X r) (k : L2.SlR X r') : L2.SlR X (fun x l u H Q => r x l u H Q ∨ r' x l u H Q) := by
  intro pins s σ H x v vl vu lo hi sl Q I rx hs pl pu q
  exact q.elim (h pins s σ H x v vl vu lo hi sl Q I rx hs pl pu) (k pins s σ H x v vl vu lo hi sl Q I rx hs pl pu)
theorem cut_rep {K : PySem.W.Frag} {G : Hp} {vs : List V} {ds : List Dt} (r : RepAll K G vs ds) (l h : Option Int) : RepAll K G (cutV vs l h) (cutD ds l h) := by
  unfold cutV cutD
  rw [r.len]
  exact (r.drop _).take _
theorem cutD_len (xs : List Dt) (lo hi : Option Int) : (cutD xs lo hi).length ≤ xs.length := by
  unfold cutD
  rw [List.length_take, List.length_drop]
  omega
theorem okz_of {z : Str} (h : okz z) {w : List Nat} (s : ∀ c ∈ w, c ∈ z.cps.toList) (l : w.length ≤ z.length) : okz ⟨w.toArray⟩ := by
  have h1 : z.cps.all (· < 0x110000) = true := h.1
  rw [← Array.all_toList, List.all_eq_true] at h1
  refine ⟨?_, Nat.le_trans (by show w.toArray.size ≤ z.length; simpa using l) h.2⟩
  show w.toArray.all (· < 0x110000) = true
  rw [← Array.all_toList, List.all_eq_true]
  exact fun c hc => h1 c (s c (by simpa using hc))
theorem okz_cut {z : Str} (h : okz z) (l u : Option Int) : okz (cutS z l u) := by
  refine okz_of h (fun c hc => List.mem_of_mem_drop (List.mem_of_mem_take hc)) ?_
  rw [List.length_take, List.length_drop, Array.length_toList]
  show min _ (z.cps.size - _) ≤ z.cps.size
  omega
theorem whole_cut {ds : List Dt} {l h : Option Int} (e : HT.sIx ds.length 0 l = 0 ∧ HT.sIx ds.length ds.length h = ds.length) : cutD ds l h = ds := by
  unfold cutD
  rw [e.1, e.2, List.drop_zero, Nat.sub_zero, List.take_length]
theorem pd_sl (he : PD X Z E e da) (hl : POD X Z E lo dl) (hh : POD X Z E hi dh) : PD X Z E (.Subscript e (.Slice lo hi none p2) pos) (dSl da dl dh) :=
  pd_of (pe_slice (sl_or sl_list (sl_or sl_tupA sl_str)) he hl hh) fun σ H Q W G ρ sl os Qd Ex p q => p.bind (RS := RE X.K) _ q fun x os1 v G1 ρ1 H1 q1 p1 r1 e1 =>
    p1.bind (RS := RO) _ q1 fun l os2 l' G2 ρ2 H2 q2 p2 r2 e2 => p2.bind (RS := RO) _ q2 fun h os3 h' G3 ρ3 H3 q3 p3 r3 e3 => by
      obtain rfl : l' = l := r2
      obtain rfl : h' = h := r3
      obtain ⟨d, hd, q4⟩ := Rdd.get q3
      have s := p3.wo.snp (OvR.mono (e2.trans e3) r1) hd
      cases d with
      | lst ds =>
        obtain ⟨a, vs, rfl, ha, ra, za⟩ := snp_lst s
        refine .inl ⟨a, vs, rfl, SqL.of ha, fun t ht => ?_⟩
        obtain ⟨w, g⟩ := p3.wo.new ht (.lst (cutV vs l' h'))
        exact (p3.at w (Ext.of g)).end_ q4 (Rep.lst upd_same ((cut_rep ra l' h').mono g) (Nat.le_trans (cutD_len _ _ _) za))
      | tup ds =>
        obtain ⟨a, vs, rfl, h0, ha, ra, za⟩ := snp_tup p3.wo.gh s
        refine .inr (.inl ⟨a, vs, rfl, ha, fun hw => ?_, fun hw t ht => ?_⟩)
        · rw [ra.len] at hw
          have q5 : Qd (.d (.tup (cutD ds l' h'))) os3 := q4
          rw [whole_cut hw] at q5
          exact p3.end_ q5 (Rep.tup h0 ra za)
        · obtain ⟨w, g⟩ := p3.wo.new ht (.tup (cutV vs l' h'))
          exact (p3.at w (Ext.of g)).end_ q4 (Rep.tup (SqT.of upd_same) ((cut_rep ra l' h').mono g) (Nat.le_trans (cutD_len _ _ _) za))
      | str z =>
        obtain ⟨rfl, oz⟩ := snp_str s
        exact .inr (.inr ⟨z, rfl, oz.2, p3.end_ q4 (Rep.str _ (okz_cut oz _ _))⟩)
      | _ => exact q4.elim
end
/-- x.append(e) -/
def dAppend (a : DE) (r : DA) : DE := fun sl os Q Ex => a sl os (fun x os1 => r sl os1 (fun ys os2 => match x, ys with
  | .o j, [y] => (match os2[j]? with | some (.lst xs) => xs.length < sizeLine ∧ Q (.d .non) (os2.set j (.lst (xs ++ [y]))) | _ => False)
  | _, _ => False) Ex) Ex
def dAppV (i : Nat) (dr : DA) : DE := fun sl os Q Ex => ∃ j xs, sl[i]? = some (some (.o j)) ∧ os[j]? = some (.lst xs) ∧ dAppend (dVar i) dr sl os Q Ex
/-- what stands at an address is a list: asked before the arguments -/
theorem pd_append {X : Cx} {Z : Zs} {E : XK} {e : Expr} {i : Nat} {dr : DA} (h : PE X e (tBM X.K "list" rAppend (tVar i) (lift X.K Z E (RA X.K) dr))) : PD X Z E e (dAppV i dr) :=
  pd_of h fun σ H Q W G ρ sl os Qd Ex p ⟨j, xs0, hi, hj, q⟩ => by
    obtain ⟨x, hx, q⟩ := q
    rw [hi] at hx
    obtain rfl := Option.some.inj (Option.some.inj hx)
    obtain ⟨v, hv, a, ha, rfl⟩ := p.sl.at_ i _ hi
    refine ⟨_, hv, ?_, ?_⟩
    · rcases p.wo.ob j a _ ha hj with z | ⟨_, vs, z, _⟩
      · cases z.1
      · exact .inl ⟨rfl, _, SqL.of z⟩
    · refine p.bind (RS := RA X.K) _ q fun ys os2 us G2 ρ2 H2 q2 p2 r2 e2 => ?_
      match ys, q2, r2 with
      | [y], q2, .cons r2 .nil =>
        have ha2 : ρ2[j]? = some a := by
          obtain ⟨l, rfl⟩ := e2.r
          rw [List.getElem?_append_left (List.getElem?_eq_some_iff.mp ha).1]
          exact ha
        cases eo : os2[j]? with
        | none => simp only [eo] at q2
        | some y2 =>
          cases y2 with
          | lst xs =>
            simp only [eo] at q2
            obtain ⟨hl, q3⟩ := q2
            rcases p2.wo.ob j a _ ha2 eo with z | ⟨live, vs, z, pr, _⟩
            · cases z.1
            · refine ⟨a, vs, _, rfl, rfl, z, by rw [pairs_len pr]; exact hl, ?_⟩
              have w := p2.wo.put (o := .lst (vs ++ [_])) (x := .lst (xs ++ [y])) ha2 eo live ⟨_, upd_same, pair_app pr (.cons r2 .nil), by rw [List.length_append]; exact hl⟩
              exact (p2.at w Ext.refl).end_ q3 Rep.non
          | _ => simp only [eo] at q2
      | [], q2, _ => exact q2.elim
      | _ :: _ :: _, q2, _ => exact q2.elim
end De
namespace De
open PySem L2 Bl
def lcStep (dg : DTg) (dt : DT) (de : DE) (sl : Sl) (d : Dt) (os : List OO) (k : Dt → List OO → Prop) (s : List OO → Prop) : Prop :=
  dg (.d d) sl os fun sl1 os1 => dt sl1 os1 (fun b os2 => if b = true then de sl1 os2 (fun x os3 => ∃ z, x = .d z ∧ k z os3) noX else s os2) noX
theorem lc_cons {dg : DTg} {dt : DT} {de : DE} {sl : Sl} {d : Dt} {ds acc : List Dt} {os : List OO} {Q : List Dt → List OO → Prop} : lcGo dg dt de sl (d :: ds) acc os Q = lcStep dg dt de sl d os (fun z os3 => lcGo dg dt de sl ds (acc ++ [z]) os3 Q) (fun os2 => lcGo dg dt de sl ds acc os2 Q) := rfl
section
variable {dg : DTg} {dt : DT} {de : DE} {sl : Sl} {ds : List Dt} {os : List OO} {Q : List Dt → List OO → Prop}
theorem lc_fm (p : Dt → Bool) (f : Dt → Dt) (h : ∀ d ∈ ds, ∀ (k : Dt → List OO → Prop) (s : List OO → Prop), (if p d = true then k (f d) os else s os) → lcStep dg dt de sl d os k s) : ∀ {acc : List Dt}, Q (acc ++ (ds.filter p).map f) os → lcGo dg dt de sl ds acc os Q := by
  induction ds with
  | nil =>
    intro acc q
    rw [List.filter_nil, List.map_nil, List.append_nil] at q
    exact q
  | cons d ds ih =>
    intro acc q
    rw [lc_cons]
    have ih := @ih fun d hd => h d (List.mem_cons_of_mem _ hd)
    refine h d List.mem_cons_self _ _ ?_
    by_cases e : p d = true
    · rw [if_pos e]
      rw [List.filter_cons_of_pos e, List.map_cons] at q
      refine ih ?_
      rw [List.append_assoc]
      exact q
    · rw [if_neg e]
      rw [List.filter_cons_of_neg e] at q
      exact ih q
theorem lc_map (f : Dt → Dt) (h : ∀ d ∈ ds, ∀ (k : Dt → List OO → Prop) (s : List OO → Prop), k (f d) os → lcStep dg dt de sl d os k s) {acc : List Dt} (q : Q (acc ++ ds.map f) os) : lcGo dg dt de sl ds acc os Q := by
  refine lc_fm (fun _ => true) f (fun d hd k s q => h d hd k s (by simpa using q)) ?_
  rw [List.filter_eq_self.mpr fun _ _ => rfl]
  exact q
theorem for_inv {dg : DTg} {db : DS} {DD : DEnds} {ds : List Dt} {sl : Sl} {os : List OO} (I : Nat → Sl → List OO → Prop) (h0 : I 0 sl os) (hs : ∀ (i : Nat) (d : Dt) (sl : Sl) (os : List OO) (N : Sl → List OO → Prop), ds[i]? = some d → I i sl os → (∀ sl' os', I (i + 1) sl' os' → N sl' os') →
      dg (.d d) sl os fun sl1 os1 => db { DD with nx := N, ct := N, bk := DD.nx } sl1 os1) (hd : ∀ sl os, I ds.length sl os → DD.nx sl os) : forGo dg db DD ds sl os := by
  have go : ∀ (n : Nat) (i : Nat) (sl : Sl) (os : List OO), n = ds.length - i → i ≤ ds.length → I i sl os → forGo dg db DD (ds.drop i) sl os := by
    intro n
    induction n with
    | zero =>
      intro i sl os hn hi q
      have e : i = ds.length := by omega
      subst e
      rw [List.drop_of_length_le (Nat.le_refl _)]
      exact hd _ _ q
    | succ n ih =>
      intro i sl os hn hi q
      have hlt : i < ds.length := by omega
      have e := List.getElem?_eq_getElem hlt
      rw [drop_cons e]
      exact hs i _ sl os _ e q fun sl' os' q' => ih (i + 1) _ _ (by omega) hlt q'
  exact go _ 0 sl os rfl (Nat.zero_le _) h0
end
theorem rdd_d {os : List OO} {d : Dt} {k : Dt → Prop} : Rdd os (.d d) k = k d := rfl
theorem rdd_o {os : List OO} {j : Nat} {xs : List Ov} {ds : List Dt} {k : Dt → Prop} (h : os[j]? = some (.lst xs)) (e : dts xs = some ds) : Rdd os (.o j) k = k (.lst ds) := by
  simp only [Rdd, rdD, h, e, Option.map_some]
theorem rdds_nil {os : List OO} {k : List Dt → Prop} : Rdds os [] k = k [] := rfl
theorem rdds_cons {os : List OO} {x : Ov} {xs : List Ov} {k : List Dt → Prop} : Rdds os (x :: xs) k = Rdd os x fun d => Rdds os xs fun ds => k (d :: ds) := rfl
theorem asB_bl {b : Bool} {k : Bool → Prop} : asB (.d (.bl b)) k = k b := rfl
theorem ex_sl {x : Ov} {p : Ov → Prop} : (∃ y, some (some x) = some (some y) ∧ p y) = p x := by simp
theorem dts_map {ds : List Dt} : dts (ds.map .d) = some ds := by
  induction ds with
  | nil => rfl
  | cons d ds ih =>
    show (dts (ds.map .d)).map (d :: ·) = _
    rw [ih]
    rfl
theorem asL_some {ds : List Dt} {k : List Dt → Prop} : asL (some ds) k = k ds := rfl
theorem seq_lst {os : List OO} {ds : List Dt} {k : List Dt → List OO → Prop} : seqD os (.d (.lst ds)) k = k ds os := rfl
theorem seq_tup {os : List OO} {ds : List Dt} {k : List Dt → List OO → Prop} : seqD os (.d (.tup ds)) k = k ds os := rfl
theorem seq_str {os : List OO} {z : Str} {k : List Dt → List OO → Prop} : seqD os (.d (.str z)) k = k (chars z) os := rfl
theorem sz_0 : (0 ≤ sizeLine) = True := eq_true (by decide)
theorem sz_1 : (1 ≤ sizeLine) = True := eq_true (by decide)
theorem sz_2 : (2 ≤ sizeLine) = True := eq_true (by decide)
theorem sz_3 : (3 ≤ sizeLine) = True := eq_true (by decide)
theorem sz_4 : (4 ≤ sizeLine) = True := eq_true (by decide)
theorem sz_5 : (5 ≤ sizeLine) = True := eq_true (by decide)
theorem sz_6 : (6 ≤ sizeLine) = True := eq_true (by decide)
theorem sz_7 : (7 ≤ sizeLine) = True := eq_true (by decide)
theorem sz_8 : (8 ≤ sizeLine) = True := eq_true (by decide)
theorem sz_9 : (9 ≤ sizeLine) = True := eq_true (by decide)
theorem sz_10 : (10 ≤ sizeLine) = True := eq_true (by decide)
theorem sz_11 : (11 ≤ sizeLine) = True := eq_true (by decide)
theorem sz_12 : (12 ≤ sizeLine) = True := eq_true (by decide)
theorem sz_13 : (13 ≤ sizeLine) = True := eq_true (by decide)
theorem sz_14 : (14 ≤ sizeLine) = True := eq_true (by decide)
section
variable {b : Bool} {i j : Int} {z y : Str} {ds es : List Dt} {ks : List (Key × Dt)} {C : Addr} {fs : List (Str × Dt)} {v : V} {k : Dt → Prop} {os : List OO}
theorem has_str_non : Ty6.has .str .non = false := rfl
theorem has_int_non : Ty6.has .int .non = false := rfl
theorem has_bool_non : Ty6.has .bool .non = false := rfl
theorem has_list_non : Ty6.has .list .non = false := rfl
theorem has_tuple_non : Ty6.has .tuple .non = false := rfl
theorem has_dict_non : Ty6.has .dict .non = false := rfl
theorem isN_non : isN .non = true := rfl
theorem notRaw_non : notRaw .non = true := rfl
theorem data_non : data .non = true := rfl
theorem has_str_bl : Ty6.has .str (.bl b) = false := rfl
theorem has_int_bl : Ty6.has .int (.bl b) = true := rfl
theorem has_bool_bl : Ty6.has .bool (.bl b) = true := rfl
theorem has_list_bl : Ty6.has .list (.bl b) = false := rfl
theorem has_tuple_bl : Ty6.has .tuple (.bl b) = false := rfl
theorem has_dict_bl : Ty6.has .dict (.bl b) = false := rfl
theorem isN_bl : isN (.bl b) = false := rfl
theorem notRaw_bl : notRaw (.bl b) = true := rfl
theorem data_bl : data (.bl b) = true := rfl
theorem has_str_int : Ty6.has .str (.int i) = false := rfl
theorem has_int_int : Ty6.has .int (.int i) = true := rfl
theorem has_bool_int : Ty6.has .bool (.int i) = false := rfl
theorem has_list_int : Ty6.has .list (.int i) = false := rfl
theorem has_tuple_int : Ty6.has .tuple (.int i) = false := rfl
theorem has_dict_int : Ty6.has .dict (.int i) = false := rfl
theorem isN_int : isN (.int i) = false := rfl
theorem notRaw_int : notRaw (.int i) = true := rfl
theorem data_int : data (.int i) = true := rfl
theorem has_str_str : Ty6.has .str (.str z) = true := rfl
theorem has_int_str : Ty6.has .int (.str z) = false := rfl
theorem has_bool_str : Ty6.has .bool (.str z) = false := rfl
theorem has_list_str : Ty6.has .list (.str z) = false := rfl
theorem has_tuple_str : Ty6.has .tuple (.str z) = false := rfl
theorem has_dict_str : Ty6.has .dict (.str z) = false := rfl
theorem isN_str : isN (.str z) = false := rfl
theorem notRaw_str : notRaw (.str z) = true := rfl
theorem data_str : data (.str z) = true := rfl
theorem has_str_lst : Ty6.has .str (.lst ds) = false := rfl
theorem has_int_lst : Ty6.has .int (.lst ds) = false := rfl
theorem has_bool_lst : Ty6.has .bool (.lst ds) = false := rfl
theorem has_list_lst : Ty6.has .list (.lst ds) = true := rfl
theorem has_tuple_lst : Ty6.has .tuple (.lst ds) = false := rfl
theorem has_dict_lst : Ty6.has .dict (.lst ds) = false := rfl
theorem isN_lst : isN (.lst ds) = false := rfl
theorem notRaw_lst : notRaw (.lst ds) = true := rfl
theorem data_lst : data (.lst ds) = true := rfl
theorem has_str_tup : Ty6.has .str (.tup ds) = false := rfl
theorem has_int_tup : Ty6.has .int (.tup ds) = false := rfl
theorem has_bool_tup : Ty6.has .bool (.tup ds) = false := rfl
theorem has_list_tup : Ty6.has .list (.tup ds) = false := rfl
theorem has_tuple_tup : Ty6.has .tuple (.tup ds) = true := rfl
theorem has_dict_tup : Ty6.has .dict (.tup ds) = false := rfl
theorem isN_tup : isN (.tup ds) = false := rfl
theorem notRaw_tup : notRaw (.tup ds) = true := rfl
theorem data_tup : data (.tup ds) = true := rfl
theorem has_str_dct : Ty6.has .str (.dct ks) = false := rfl
theorem has_int_dct : Ty6.has .int (.dct ks) = false := rfl
theorem has_bool_dct : Ty6.has .bool (.dct ks) = false := rfl
theorem has_list_dct : Ty6.has .list (.dct ks) = false := rfl
theorem has_tuple_dct : Ty6.has .tuple (.dct ks) = false := rfl
theorem has_dict_dct : Ty6.has .dict (.dct ks) = true := rfl
theorem isN_dct : isN (.dct ks) = false := rfl
theorem notRaw_dct : notRaw (.dct ks) = true := rfl
theorem data_dct : data (.dct ks) = true := rfl
theorem has_str_ins : Ty6.has .str (.ins C fs) = false := rfl
theorem has_int_ins : Ty6.has .int (.ins C fs) = false := rfl
theorem has_bool_ins : Ty6.has .bool (.ins C fs) = false := rfl
theorem has_list_ins : Ty6.has .list (.ins C fs) = false := rfl
theorem has_tuple_ins : Ty6.has .tuple (.ins C fs) = false := rfl
theorem has_dict_ins : Ty6.has .dict (.ins C fs) = false := rfl
theorem isN_ins : isN (.ins C fs) = false := rfl
theorem notRaw_ins : notRaw (.ins C fs) = true := rfl
theorem data_ins : data (.ins C fs) = false := rfl
theorem has_str_raw : Ty6.has .str (.raw v) = false := rfl
theorem has_int_raw : Ty6.has .int (.raw v) = false := rfl
theorem has_bool_raw : Ty6.has .bool (.raw v) = false := rfl
theorem has_list_raw : Ty6.has .list (.raw v) = false := rfl
theorem has_tuple_raw : Ty6.has .tuple (.raw v) = false := rfl
theorem has_dict_raw : Ty6.has .dict (.raw v) = false := rfl
theorem isN_raw : isN (.raw v) = false := rfl
theorem notRaw_raw : notRaw (.raw v) = false := rfl
theorem data_raw : data (.raw v) = false := rfl
theorem has_str_lam {L : LamI} : Ty6.has .str (.lam L) = false := rfl
theorem has_int_lam {L : LamI} : Ty6.has .int (.lam L) = false := rfl
theorem has_bool_lam {L : LamI} : Ty6.has .bool (.lam L) = false := rfl
theorem has_list_lam {L : LamI} : Ty6.has .list (.lam L) = false := rfl
theorem has_tuple_lam {L : LamI} : Ty6.has .tuple (.lam L) = false := rfl
theorem has_dict_lam {L : LamI} : Ty6.has .dict (.lam L) = false := rfl
theorem isN_lam {L : LamI} : isN (.lam L) = false := rfl
theorem notRaw_lam {L : LamI} : notRaw (.lam L) = false := rfl
theorem data_lam {L : LamI} : data (.lam L) = false := rfl
theorem keyD_int : keyD (.int i) = some (.inl i) := rfl
theorem keyD_str : keyD (.str z) = some (.inr z) := rfl
theorem add_int : opAdd (.int i) (.int j) k = k (.int (i + j)) := rfl
theorem add_str : opAdd (.str z) (.str y) k = (z.length + y.length ≤ sizeLine ∧ k (.str (z ++ y))) := rfl
theorem add_lst : opAdd (.lst ds) (.lst es) k = (ds.length + es.length ≤ sizeLine ∧ k (.lst (ds ++ es))) := rfl
theorem add_tup : opAdd (.tup ds) (.tup es) k = (ds.length + es.length ≤ sizeLine ∧ k (.tup (ds ++ es))) := rfl
theorem i0_int {f : Int → Int → Dt} : De.opI0 f (.int i) (.int j) k = k (f i j) := rfl
theorem oi_int {f : Int → Int → Dt} {C : Int → Int → Prop} : opInt C f (.int i) (.int j) k = (C i j ∧ k (f i j)) := rfl
theorem in_lst {d : Dt} {n : Bool} : opInN n d (.lst ds) k = ((pln d = true ∧ plns ds = true ∧ min (deps ds) (dep d) ≤ 60) ∧ k (.bl (if n then !inD d ds else inD d ds))) := rfl
theorem in_tup {d : Dt} {n : Bool} : opInN n d (.tup ds) k = ((pln d = true ∧ plns ds = true ∧ min (deps ds) (dep d) ≤ 60) ∧ k (.bl (if n then !inD d ds else inD d ds))) := rfl
theorem in_dct_str {n : Bool} : opInN n (.str z) (.dct ks) k = k (.bl (if n then !(valD ks (.inr z)).isSome else (valD ks (.inr z)).isSome)) := rfl
theorem in_sign {n : Bool} {c : Nat} : opInN n (.str ⟨#[c]⟩) (.str z) k = k (.bl (if n then !decide (c ∈ z.cps.toList) else decide (c ∈ z.cps.toList))) := rfl
theorem optP_some {α : Type} {x : α} {k : α → Prop} : optP (some x) k = k x := rfl
theorem ix_lst : opIx (.lst ds) (.int i) k = optP (atI ds i) k := rfl
theorem ix_tup : opIx (.tup ds) (.int i) k = optP (atI ds i) k := rfl
theorem ix_dct_str : opIx (.dct ks) (.str z) k = optP (valD ks (.inr z)) k := rfl
theorem all_lst {n : Bool} : fnAll n [.lst ds] k = optP (bls ds) fun bs => k (.bl (if n then bs.any id else bs.all id)) := rfl
theorem atI_0 {α : Type} {x : α} {xs : List α} : atI (x :: xs) 0 = some x := atI_nat (j := 0) rfl
theorem atI_1 {α : Type} {x y : α} {xs : List α} : atI (x :: y :: xs) 1 = some y := atI_nat (j := 1) rfl
theorem atI_2 {α : Type} {x y z : α} {xs : List α} : atI (x :: y :: z :: xs) 2 = some z := atI_nat (j := 2) rfl
theorem len_lst : fnLen [.lst ds] k = k (.int ds.length) := rfl
theorem len_tup : fnLen [.tup ds] k = k (.int ds.length) := rfl
theorem len_str : fnLen [.str z] k = k (.int z.length) := rfl
theorem tuple_lst : fnTuple [.lst ds] k = k (.tup ds) := rfl
theorem tuple_tup : fnTuple [.tup ds] k = k (.tup ds) := rfl
theorem list_lst : fnList [.lst ds] k = k (.lst ds) := rfl
theorem list_tup : fnList [.tup ds] k = k (.lst ds) := rfl
theorem pln_non : pln .non = true := by simp [pln]
theorem dep_non : dep .non = 1 := by simp [dep]
theorem pln_bl : pln (.bl b) = true := by simp [pln]
theorem dep_bl : dep (.bl b) = 1 := by simp [dep]
theorem pln_int : pln (.int i) = true := by simp [pln]
theorem dep_int : dep (.int i) = 1 := by simp [dep]
theorem pln_str : pln (.str z) = true := by simp [pln]
theorem dep_str : dep (.str z) = 1 := by simp [dep]
theorem pln_lst : pln (.lst ds) = plns ds := by simp [pln]
theorem pln_tup : pln (.tup ds) = plns ds := by simp [pln]
theorem dep_lst : dep (.lst ds) = deps ds + 1 := by simp [dep]
theorem dep_tup : dep (.tup ds) = deps ds + 1 := by simp [dep]
theorem plns_nil : plns [] = true := by simp [plns]
theorem plns_cons {d : Dt} : plns (d :: ds) = (pln d && plns ds) := by simp [plns]
theorem deps_nil : deps [] = 0 := by simp [deps]
theorem deps_cons {d : Dt} : deps (d :: ds) = max (dep d) (deps ds) := by simp [deps]
theorem eqB_int : eqB (.int i) (.int j) = decide (i = j) := by rw [eqB]; rfl
theorem eqB_str : eqB (.str z) (.str y) = decide (z = y) := by
  rw [eqB]
  by_cases h : z = y
  · rw [h, decide_eq_true rfl]
    exact beq_self_eq_true _
  · rw [decide_eq_false h]
    exact beq_eq_false_iff_ne.mpr h
theorem eqB_str_ne {d : Dt} (h : ∀ y, d ≠ .str y) : eqB d (.str z) = false := by
  cases d <;> first | exact absurd rfl (h _) | simp [eqB]
theorem eqB_non_str : eqB .non (.str z) = false := by simp [eqB]
theorem eqB_str_non : eqB (.str z) .non = false := by simp [eqB]
theorem eqB_bl_str : eqB (.bl b) (.str z) = false := by simp [eqB]
theorem eqB_str_bl : eqB (.str z) (.bl b) = false := by simp [eqB]
theorem eqB_int_str : eqB (.int i) (.str z) = false := by simp [eqB]
theorem eqB_str_int : eqB (.str z) (.int i) = false := by simp [eqB]
theorem eqB_lst_str : eqB (.lst ds) (.str z) = false := by simp [eqB]
theorem eqB_str_lst : eqB (.str z) (.lst ds) = false := by simp [eqB]
theorem eqB_tup_str : eqB (.tup ds) (.str z) = false := by simp [eqB]
theorem eqB_str_tup : eqB (.str z) (.tup ds) = false := by simp [eqB]
end
end De
namespace Bl
open PySem PySem.Spec PyProof.Rows L2
section
variable {prog : Program} {w : World} {A : Around} {E : Value → Shared → Prop} {s : Shared}
set_option maxHeartbeats 3200000 in
/-- set(l) -/
theorem set_of_lst {l : Addr} {items : Array Value} {xs : List Str} {Q : Value → Shared → Prop} (hh : A.handled = none) (ht : s.heap.IsList l items) (hi : PyProof.Rows.StrsAre items.toList xs) (few : xs.length + 1 < scanBound)
    (k : ∀ (h' : Heap) (tk : Nat), h'.SetOf (PySem.strKind prog w) s.heap.objs.size (fun k => (xs.take xs.length).any (· == k)) (nDiff xs xs.length) → (∀ b o, b < s.heap.objs.size → s.heap.get? b = some o → h'.get? b = some o) →
      Q (.ref s.heap.objs.size) { s with heap := h', toks := tk }) : wpAny (model prog w) A (call (.type "set") [.ref l]) Q E s := by
  obtain ⟨c, tl, hmro⟩ := PySem.F.called_set.mro
  have g1 := PySem.F.called_set.made
  have g2 := PySem.F.called_set.sub
  refine wpAny_call (codeAny_of_tree ?_)
  show wpAny _ _ (callAny (.type "set") _) _ _ _
  refine wpAny_pure ⟨Code.quiet_builtin _ (by decide +kernel), codeAny_builtin PySem.F.entry_type_call ?_⟩
  rw [Around.under_plain (weight_type_call_type "set" [.ref l] []) rfl]
  have g3 := PySem.F.called_set.notType
  have g4 := PySem.F.called_set.canCreate
  have g5 := PySem.F.typeCall_set_1 (.ref l)
  repeat (any_goals (first | assumption | wp_step))
  have hsz : xs.length = items.size := by rw [← StrsAre.len_eq hi, Array.length_toList]
  refine codeAny_mono (code_set_new_1 (.ref l) (E := E) (Q₁ := fun v s₁ => ∃ b : Bool, v = .ref s.heap.objs.size ∧ s₁ = { s with heap := s.heap.push { cls := .type "set", dict := none, data := .set #[] 0 (.fresh 0 0 b) } }) fun b => ⟨b, rfl, rfl⟩) fun r s₁ hr => ?_
  match r, hr with
  | .error _, hr => exact hr
  | .ok (.next), hr => exact hr.elim
  | .ok (.brk), hr => exact hr.elim
  | .ok (.cont), hr => exact hr.elim
  | .ok (.ret v), hr =>
    obtain ⟨b, rfl, rfl⟩ := hr
    generalize hp : s.heap.push { cls := .type "set", dict := none, data := .set #[] 0 (.fresh 0 0 b) } = hp1
    have at1 : hp1.get? s.heap.objs.size = some { cls := .type "set", dict := none, data := .set #[] 0 (.fresh 0 0 b) } := by
      rw [← hp]
      exact Heap.get?_push_size _ rfl
    have kp1 : ∀ c o, s.heap.get? c = some o → hp1.get? c = some o := fun c o e => by
      rw [← hp]
      exact Heap.get?_push_of_some _ e
    have sz1 : hp1.objs.size = s.heap.objs.size + 1 := by
      rw [← hp]
      exact Heap.size_push _ _
    have g6 : Shared.TypeIs { s with heap := hp1 } (.ref s.heap.objs.size) "set" := ⟨_, at1, rfl⟩
    have g7 := PySem.F.called_set.init.lookup
    have g8 := PySem.F.called_set.init.bind (.ref s.heap.objs.size)
    repeat (any_goals (first | assumption | wp_step))
    refine codeAny_mono (codeAny_call_builtin (R := wants (fun r s₂ => r = .none ∧ ∃ h' tk, s₂ = { s with heap := h', toks := tk } ∧ h'.SetOf (PySem.strKind prog w) s.heap.objs.size (fun k => (xs.take items.size).any (· == k)) (nDiff xs items.size) ∧
      (∀ b o, b < s.heap.objs.size → s.heap.get? b = some o → h'.get? b = some o)) E) PySem.F.called_set.init.plain PySem.F.entry_set_init (check_set_init_1 g6 ?_)) fun r₂ s₂ hr₂ => ?_
    · obtain ⟨⟨_, od, _, osl⟩, ho, rfl, nl, rfl⟩ := ht
      have lt := Heap.lt_size ho
      have ho1 := kp1 _ _ ho
      have t1 : hp1.IsList l items := ⟨_, ho1, rfl, nl, rfl⟩
      have g9 := PySem.F.sub_list_set
      have g10 := PySem.F.sub_list_frozenset
      have g11 : (Value.type "list" == Value.type "dict") = false := by decide
      unfold Builtin.«set.__init__» noKeywords Builtin.Frozenset.updateFrom
      generalize hPI : pyIter = PI
      wp_walk
      subst hPI
      refine wpAny_pyIter_list t1 (wpAny_bind (wpAny_runValue ?_))
      have hv : ∀ (i : Nat) (v : Value), items[i]? = some v → ∃ t, v = .str (xs.getD i Str.empty) t := fun i v e => SS.strs_at hi i v (by rw [Array.getElem?_toList]; exact e)
      refine put_all ((Walks.list (by simp [hh]) _ l (by rw [sz1]; exact Nat.ne_of_lt (Nat.lt_succ_of_lt lt)) items).toS) s.heap.objs.size (by
        simp only [List.mem_cons, List.not_mem_nil, or_false, not_or]
        exact ⟨by rw [sz1]; exact Nat.ne_of_lt (Nat.lt_succ_self _), Nat.ne_of_gt lt⟩) xs hsz (by rw [← hsz]; exact few) hv (items.size - 0) 0 _ rfl (Nat.zero_le _) ⟨⟨_, Heap.get?_push_size _ rfl, rfl, rfl⟩, t1.push _⟩ ?_ ?_
      · exact SetOf_congr ((setObjOf_fresh (knd := PySem.strKind prog w) b).setOf (Heap.get?_push_of_some _ at1) (by unfold scanBound; omega)) (fun _ => rfl) rfl
      · rintro ⟨h', g', d', tk', os'⟩ mv hS
        obtain rfl : g' = s.gens := mv.gens
        obtain rfl : d' = s.drawn := mv.drawn
        obtain rfl : os' = s.os := mv.os
        refine wpAny_pure ?_
        show wpAny _ _ (ret Value.none) _ _ _
        refine wpAny_pure ⟨rfl, h', tk', rfl, hS, fun c o hc e => mv.heap c o ?_ (Heap.get?_push_of_some _ (kp1 _ _ e))⟩
        simp only [List.mem_cons, List.not_mem_nil, or_false, not_or]
        exact ⟨Nat.ne_of_lt hc, by rw [sz1]; exact Nat.ne_of_lt (Nat.lt_succ_of_lt hc)⟩
    · match r₂, hr₂ with
      | .error _, hr₂ => exact hr₂
      | .ok (.next), hr₂ => exact hr₂.elim
      | .ok (.brk), hr₂ => exact hr₂.elim
      | .ok (.cont), hr₂ => exact hr₂.elim
      | .ok (.ret r), hr₂ =>
        obtain ⟨rfl, h', tk, rfl, hS, hk⟩ := hr₂
        repeat (any_goals (first | assumption | wp_step))
        rw [← hsz] at hS
        exact k _ _ hS hk
end
/-- len(set(x)) -/
def tLenSetM (K : PySem.W.Frag) (ta : TE) : TE := fun σ H Q => ta σ H fun x H1 => ∃ (l : Addr) (xs : List Str), x = .ref l ∧ (SqT K H1 l (xs.map V.str) ∨ SqL K H1 l (xs.map V.str)) ∧ xs.length ≤ 300 ∧ Q (.int (nDiff xs xs.length : Nat)) H1
theorem pe_lenSetM {X : Cx} {a : Expr} {ta : TE} {p p2 q pos : Pos} (hc : X.calm = true) (hg : Gl X "len") (hm : X.mg "len" = none) (hg2 : Gl X "set") (hm2 : X.mg "set" = none) (ha : PE X a ta)
    (na : starEach [a] X.env = (false, eval a X.env) :: starEach [] X.env := by rfl) : PE X (.Call (.Name "len" p) [.Call (.Name "set" p2) [a] [] q] [] pos) (tLenSetM X.K ta) := by
  refine ⟨fun pins s σ H Q I h => ?_⟩
  refine Call_ (ld_blt I hg hm boot_len (PyProof.Rows.callWith_builtin1 (PyProof.Rows.args_cons ?_ rfl) rfl rfl))
  refine Call_ (ld_blt I hg2 hm2 boot_set (PyProof.Rows.callWith_type1 (PyProof.Rows.args_cons (thn (ha.run pins s σ H _ I h) fun v s1 ⟨x, H1, I1, r1, q1⟩ => PyProof.Rows.args_nil ?_) na) na rfl))
  obtain ⟨l, xs, rfl, hq, few, q1⟩ := q1
  cases r1
  have fin : ∀ (h' : Heap) (tk : Nat), h'.SetOf (PySem.strKind X.prog X.w) s1.heap.objs.size (fun k => (xs.take xs.length).any (· == k)) (nDiff xs xs.length) → (∀ b o, b < s1.heap.objs.size → s1.heap.get? b = some o → h'.get? b = some o) →
      wpAny (model X.prog X.w) X.A (call (.builtin "len") [.ref s1.heap.objs.size]) (EP X pins σ Q) X.xe { s1 with heap := h', toks := tk } := fun h' tk hS hk => by
    obtain ⟨o, es, ep, t, ho, hex, hd, _, _, _, hf, hn⟩ := hS
    have I2 : Inv X pins σ H1 { s1 with heap := h', toks := tk } := I1.kept fun b o e => hk b o (Heap.lt_size e) e
    have := nDiff_le xs xs.length
    exact call_len_set ho hex hd hf (by rw [hn]; omega) ⟨.int (nDiff xs xs.length : Nat), H1, I2.tok _, ⟨_, by rw [hn]⟩, q1⟩
  rcases hq with hq | hq
  · obtain ⟨its, r, pl, _⟩ := I1.tuple hq
    exact set_of_tup (I1.ok.hd hc) pl (by simpa using strsAre_of r) (by unfold scanBound; omega) fun h' tk hS hk => PyProof.Rows.args_nil (fin h' tk hS hk)
  · obtain ⟨its, r, pl, _⟩ := I1.list hq
    exact set_of_lst (I1.ok.hd hc) pl.isList (by simpa using strsAre_of r) (by unfold scanBound; omega) fun h' tk hS hk => PyProof.Rows.args_nil (fin h' tk hS hk)
theorem nDiff_eq {xs : List Str} : decide (nDiff xs xs.length = xs.length) = decide xs.Nodup := by
  by_cases h : xs.Nodup
  · rw [decide_eq_true h, nDiff_nodup h _ (Nat.le_refl _), decide_eq_true rfl]
  · rw [decide_eq_false h]
    refine decide_eq_false fun e => ?_
    have : ∃ a b, a < b ∧ b < xs.length ∧ xs.getD a Str.empty = xs.getD b Str.empty := by
      rw [List.Nodup, List.pairwise_iff_getElem] at h
      simp only [Classical.not_forall, ne_eq, Classical.not_not] at h
      obtain ⟨a, b, ha, hb, hab, e⟩ := h
      refine ⟨a, b, hab, hb, ?_⟩
      rw [List.getD_eq_getElem?_getD, List.getD_eq_getElem?_getD, List.getElem?_eq_getElem ha, List.getElem?_eq_getElem hb, e]
    have := nDiff_lt xs.length (Nat.le_refl _) this
    omega
end Bl
namespace De
open PySem L2 Bl
def txts : List Dt → Option (List Str)
  | [] => some []
  | .str z :: r => (txts r).map (z :: ·)
  | _ :: _ => none
theorem txts_rep {K : PySem.W.Frag} {G : Hp} : ∀ {vs : List V} {ds : List Dt} {zs : List Str}, RepAll K G vs ds → txts ds = some zs → vs = zs.map V.str ∧ ds.length = zs.length
  | _, _, _, .nil, e => by
    obtain rfl := Option.some.inj e
    exact ⟨rfl, rfl⟩
  | _, .str z :: r, zs, .cons h t, e => by
    have e2 : (txts r).map (z :: ·) = some zs := e
    cases q : txts r with
    | none => rw [q] at e2; cases e2
    | some cs =>
      rw [q] at e2
      obtain rfl := Option.some.inj e2
      cases h
      obtain ⟨h1, h2⟩ := txts_rep t q
      exact ⟨by rw [h1]; rfl, by rw [List.length_cons, List.length_cons, h2]⟩
theorem txts_map {α : Type} (f : α → Str) : ∀ xs : List α, txts (xs.map fun x => .str (f x)) = some (xs.map f)
  | [] => rfl
  | x :: xs => by
    show (txts (xs.map fun x => .str (f x))).map (f x :: ·) = _
    rw [txts_map f xs]
    rfl
def itemsD : Dt → List Dt
  | .lst ds => ds
  | .tup ds => ds
  | _ => []
def isSeq : Dt → Bool
  | .lst _ => true
  | .tup _ => true
  | _ => false
def dLenSet (a : DE) : DE := fun sl os Q Ex => a sl os (fun x os1 => Rdd os1 x fun d => isSeq d = true ∧ optP (txts (itemsD d)) fun zs => zs.length ≤ 300 ∧ Q (.d (.int (nDiff zs zs.length : Nat))) os1) Ex
theorem pd_lenSet {X : Cx} {Z : Zs} {E : XK} {e : Expr} {da : DE} (h : PE X e (tLenSetM X.K (lift X.K Z E (RE X.K) da))) : PD X Z E e (dLenSet da) :=
  pd_of h fun σ H Q W G ρ sl os Qd Ex p q => p.bind (RS := RE X.K) _ q fun x os1 v G1 ρ1 H1 q1 p1 r1 e1 => by
    obtain ⟨d, hd, hs, q2⟩ := Rdd.get q1
    obtain ⟨zs, hz, hl, q3⟩ := q2.get
    have s := p1.wo.snp r1 hd
    cases d with
    | lst ds =>
      obtain ⟨a, vs, rfl, ha, ra, _⟩ := snp_lst s
      obtain ⟨rfl, _⟩ := txts_rep ra hz
      exact ⟨a, zs, rfl, .inr (SqL.of ha), hl, p1.end_ (x := .d (.int _)) q3 (Rep.int _)⟩
    | tup ds =>
      obtain ⟨a, vs, rfl, _, ha, ra, _⟩ := snp_tup p1.wo.gh s
      obtain ⟨rfl, _⟩ := txts_rep ra hz
      exact ⟨a, zs, rfl, .inl ha, hl, p1.end_ (x := .d (.int _)) q3 (Rep.int _)⟩
    | _ => cases hs
end De
namespace De
open PySem L2 Bl
def rngD (lo : Int) (n : Nat) : List Dt := (List.range n).map fun i => .int (lo + (i : Nat))
theorem rngD_len {lo : Int} {n : Nat} : (rngD lo n).length = n := by unfold rngD; rw [List.length_map, List.length_range]
theorem rngD_at {lo : Int} {n i : Nat} (h : i < n) : (rngD lo n)[i]? = some (.int (lo + (i : Nat))) := by
  unfold rngD
  rw [List.getElem?_map, List.getElem?_range h]
  rfl
theorem ri_range {K : PySem.W.Frag} {G : Hp} {ρ : List Addr} {lo : Int} {n : Nat} (h : n ≤ sizeLine) : RI K G ρ (Itr lo n) (rngD lo n) := by
  refine ⟨by rw [rngD_len]; exact h, fun W G' ρ' H os i s w => ?_⟩
  rw [rngD_len]
  refine ⟨fun hi => ⟨hi, ?_⟩, fun hi => hi⟩
  rintro x H' ⟨rfl, rfl⟩
  exact ⟨_, G', rngD_at hi, Same.refl _, w, .int _⟩
def dRng1 (a : DA) : DI := fun sl os Q Ex => a sl os (fun xs os1 => match xs with
  | [.d (.int j)] => (-(2 ^ 62) ≤ j ∧ j < 2 ^ 62 ∧ j.toNat ≤ sizeLine) ∧ Q (rngD 0 j.toNat) os1
  | _ => False) Ex
def dRng2 (a : DA) : DI := fun sl os Q Ex => a sl os (fun xs os1 => match xs with
  | [.d (.int i), .d (.int j)] => ((-(2 ^ 62) ≤ i ∧ i < 2 ^ 62 ∧ -(2 ^ 62) ≤ j ∧ j < 2 ^ 62) ∧ (j - i).toNat ≤ sizeLine) ∧ Q (rngD i (j - i).toNat) os1
  | _ => False) Ex
section
variable {X : Cx} {Z : Zs} {E : XK} {tg e : Expr} {da db : DE} {dr : DA}
theorem pid_range1 (h : PI X tg e (iRng1 (lift X.K Z E (RA X.K) dr))) : PID X Z E tg e (dRng1 dr) := pid_of h fun σ H R W G ρ sl os Qd Ex p q => p.bind (RS := RA X.K) _ q fun xs os1 vs G1 ρ1 H1 q1 p1 r1 e1 => by
  split at q1
  · cases r1 with
    | cons r t =>
      cases t
      cases r
      obtain ⟨⟨b1, b2, b3⟩, q2⟩ := q1
      exact ⟨_, rfl, b1, b2, p1.end_ q2 (ri_range b3)⟩
  · exact q1.elim
end
def enumL : Nat → List Dt → List Dt
  | _, [] => []
  | i, d :: ds => .tup [.int (i : Nat), d] :: enumL (i + 1) ds
theorem enumL_len : ∀ (i : Nat) (ds : List Dt), (enumL i ds).length = ds.length
  | _, [] => rfl
  | i, _ :: ds => by rw [enumL, List.length_cons, List.length_cons, enumL_len (i + 1) ds]
theorem enumL_at : ∀ (i : Nat) (ds : List Dt) (j : Nat), (enumL i ds)[j]? = ds[j]?.map fun d => .tup [.int ((i + j : Nat) : Int), d]
  | _, [], j => by cases j <;> rfl
  | i, d :: ds, 0 => rfl
  | i, d :: ds, j + 1 => by
    rw [enumL, List.getElem?_cons_succ, List.getElem?_cons_succ, enumL_at (i + 1) ds j, show i + 1 + j = i + (j + 1) by omega]
theorem ri_enum {K : PySem.W.Frag} {G : Hp} {ρ : List Addr} {a : Addr} {vs : List V} {ds : List Dt} (h : G a = some (.lst vs)) (r : RepAll K G vs ds) (hl0 : ds.length ≤ sizeLine) : RI K G ρ (Ite K a) (enumL 0 ds) := by
  refine ⟨by rw [enumL_len]; exact hl0, fun W G' ρ' H os i s w => ?_⟩
  have hl : SqL K H a vs := SqL.of (w.gh _ _ (s _ _ h))
  have rr := r.mono s
  rw [enumL_len]
  refine ⟨fun hi => ?_, fun hi => ⟨vs, hl, by rw [rr.len]; exact hi⟩⟩
  obtain ⟨v, hv, rv⟩ := rr.get' (List.getElem?_eq_getElem hi)
  refine ⟨⟨vs, v, hl, hv⟩, ?_⟩
  rintro x H' ⟨T, y, rfl, hT, rfl, hx⟩
  have := hx vs hl
  rw [hv] at this
  obtain rfl := Option.some.inj this
  obtain ⟨w2, g⟩ := w.new hT (.tup [.int (i : Nat), v])
  refine ⟨_, _, ?_, g, w2, Rep.tup (SqT.of upd_same) (.cons (.int _) (.cons (rv.mono g) .nil)) (by show 2 ≤ sizeLine; decide)⟩
  rw [enumL_at, List.getElem?_eq_getElem hi, Option.map_some, Nat.zero_add]
def dEnum (a : DA) : DI := fun sl os Q Ex => a sl os (fun xs os1 => match xs with
  | [.d (.lst ds)] => Q (enumL 0 ds) os1
  | _ => False) Ex
def zipL : List Dt → List Dt → List Dt
  | d :: ds, e :: es => .tup [d, e] :: zipL ds es
  | _, _ => []
def dZip (a : DA) : DI := fun sl os Q Ex => a sl os (fun xs os1 => match xs with
  | [.d (.lst ds), .d (.lst es)] => Q (zipL ds es) os1
  | [.d (.tup ds), .d (.tup es)] => Q (zipL ds es) os1
  | _ => False) Ex
theorem toPy_plain : (∀ d : Dt, pln d = true → PyData.plain (toPy d) = true) ∧ ∀ ds : List Dt, plns ds = true → PyData.plainAll (toPys ds) = true := by
  have go : ∀ n : Nat, (∀ d : Dt, sizeOf d < n → pln d = true → PyData.plain (toPy d) = true) ∧ ∀ ds : List Dt, sizeOf ds < n → plns ds = true → PyData.plainAll (toPys ds) = true := by
    intro n
    induction n with
    | zero => exact ⟨fun d h => absurd h (Nat.not_lt_zero _), fun d h => absurd h (Nat.not_lt_zero _)⟩
    | succ n ih =>
      refine ⟨fun d h p => ?_, fun ds h p => ?_⟩
      · cases d with
        | lst ds =>
          rw [toPy, PyData.plain]
          exact ih.2 ds (by simp at h; omega) (by rw [pln_lst] at p; exact p)
        | tup ds =>
          rw [toPy, PyData.plain]
          exact ih.2 ds (by simp at h; omega) (by rw [pln_tup] at p; exact p)
        | _ => simp_all [toPy, PyData.plain, pln]
      · cases ds with
        | nil => simp [toPys, PyData.plainAll]
        | cons d ds =>
          rw [plns_cons, Bool.and_eq_true] at p
          rw [toPys, PyData.plainAll, ih.1 d (by simp at h; omega) p.1, ih.2 ds (by simp at h; omega) p.2]
          rfl
  exact ⟨fun d => (go (sizeOf d + 1)).1 d (Nat.lt_succ_self _), fun d => (go (sizeOf d + 1)).2 d (Nat.lt_succ_self _)⟩
def rCountD (K : PySem.W.Frag) : V → List V → Hp → VK → Prop := fun x xs H Q => ∃ (p : Addr) (y : V) (us : List V) (ds : List PyData) (d : PyData), x = .ref p ∧ xs = [y] ∧ SqL K H p us ∧ DpAll K H us ds ∧ Dp K H y d ∧ PyData.plainAll ds = true ∧ d.plain = true ∧ min (PyData.depthAll ds) d.depth ≤ 60 ∧ Q (.int (ds.countP (fun y => PyData.eqv y d) : Nat)) H
theorem mt_countD {X : Cx} (hu : X.A.units + 65 < cLine) : MtR X "list.count" (rCountD X.K) := by
  intro pins s σ H x xs v us Q I rx rxs ⟨p, y, ys, ds, d, e1, e2, hs, ha, hy, p1, p2, hm, q⟩
  subst e1 e2
  cases rx
  obtain ⟨u, rfl, ru⟩ := rxs.one
  obtain ⟨as, r1⟩ := Dp.reads I d y u hy ru
  obtain ⟨its, rv, pl, hlen⟩ := I.list hs
  obtain ⟨bs, r2⟩ := Dp.readsAll I ds ys its ha rv
  exact SeqAt.count_list_data pl.isList (by simpa using r2) r1 p1 p2 (by omega) ⟨.int (ds.countP (fun y => PyData.eqv y d) : Nat), H, I.tok _, ⟨_, rfl⟩, q⟩
theorem countP_eqB {d : Dt} (p : pln d = true) : ∀ {ds : List Dt}, plns ds = true → (toPys ds).countP (fun z => PyData.eqv z (toPy d)) = ds.countP fun z => eqB z d
  | [], _ => rfl
  | e :: ds, h => by
    rw [plns_cons, Bool.and_eq_true] at h
    rw [toPys, List.countP_cons, List.countP_cons, countP_eqB p h.2, eqv_eqB.1 e d h.1 p]
def dCount (a : DE) (r : DA) : DE := fun sl os Q Ex => a sl os (fun x os1 => Rdd os1 x fun c => isSeqL c = true ∧ r sl os1 (fun ys os2 => match ys with
  | [y] => Rdd os2 x fun c => Rdd os2 y fun d => isSeqL c = true ∧ (pln d = true ∧ plns (itemsL c) = true ∧ min (deps (itemsL c)) (dep d) ≤ 60) ∧ Q (.d (.int ((itemsL c).countP fun z => eqB z d : Nat))) os2
  | _ => False) Ex) Ex
where
  isSeqL : Dt → Bool
    | .lst _ => true
    | _ => false
  itemsL : Dt → List Dt
    | .lst ds => ds
    | _ => []
theorem pd_count {X : Cx} {Z : Zs} {E : XK} {e : Expr} {da : DE} {dr : DA} (h : PE X e (tBM X.K "list" (rCountD X.K) (lift X.K Z E (RE X.K) da) (lift X.K Z E (RA X.K) dr))) : PD X Z E e (dCount da dr) :=
  pd_of h fun σ H Q W G ρ sl os Qd Ex p q => p.bind (RS := RE X.K) _ q fun x os1 v G1 ρ1 H1 q1 p1 r1 e1 => by
    obtain ⟨c, hc, hs, q2⟩ := Rdd.get q1
    have s := p1.wo.snp r1 hc
    cases c with
    | lst ds =>
      obtain ⟨a, vs, rfl, ha, ra, _⟩ := snp_lst s
      refine ⟨.inl ⟨rfl, _, SqL.of ha⟩, p1.bind (RS := RA X.K) _ q2 fun ys os2 us G2 ρ2 H2 q3 p2 r2 e2 => ?_⟩
      split at q3
      · cases r2 with
        | cons ry t =>
          cases t
          obtain ⟨c2, hc2, q4⟩ := Rdd.get q3
          obtain ⟨d, hd, q5, ⟨pd, pc, hm⟩, q6⟩ := Rdd.get q4
          have s2 := p2.wo.snp (OvR.mono e2 r1) hc2
          have sd := Snp.rep p2.wo.gh (p2.wo.snp ry hd)
          cases c2 with
          | lst es =>
            obtain ⟨b, ws, eb, hb, rb, _⟩ := snp_lst s2
            obtain rfl := V.ref.inj eb
            obtain ⟨d1, d2, d3⟩ := sd.dp pd
            obtain ⟨l1, l2, l3⟩ := (RepAll.mono p2.wo.gh rb).dp pc
            refine ⟨_, _, ws, _, _, rfl, rfl, SqL.of hb, l1, d1, toPy_plain.2 _ pc, toPy_plain.1 _ pd, ?_, ?_⟩
            · have hm' : min (deps es) (dep d) ≤ 60 := hm
              omega
            · have e5 := countP_eqB pd (show plns es = true from pc)
              rw [e5]
              exact p2.end_ q6 (Rep.int _)
          | _ => cases q5
      · exact q3.elim
    | _ => cases hs
def inO (n : Nat) : Ov → Prop
  | .d _ => True
  | .o j => j < n
theorem OvR.in_ {K : PySem.W.Frag} {G : Hp} {ρ : List Addr} {v : V} {x : Ov} (h : OvR K G ρ v x) : inO ρ.length x := by
  cases x with
  | d _ => trivial
  | o j =>
    obtain ⟨a, ha, _⟩ := h
    exact (List.getElem?_eq_some_iff.mp ha).1
theorem OvR.cut {K : PySem.W.Frag} {G : Hp} {ρ t : List Addr} {v : V} {x : Ov} (h : OvR K G (ρ ++ t) v x) (i : inO ρ.length x) : OvR K G ρ v x := by
  cases x with
  | d _ => exact h
  | o j =>
    obtain ⟨a, ha, e⟩ := h
    rw [List.getElem?_append_left i] at ha
    exact ⟨a, ha, e⟩
def dataV : Ov → Bool
  | .d _ => true
  | .o _ => false
def dataO : OO → Bool
  | .dead => true
  | .lst xs => xs.all dataV
  | .dct ks => ks.all fun k => dataV k.2
  | .ins _ fs => fs.all fun k => dataV k.2
  | .tbl _ _ => false
theorem in_data {n : Nat} {x : Ov} (h : dataV x = true) : inO n x := by
  cases x with
  | d _ => trivial
  | o _ => cases h
theorem pair_right {α β : Type} {F : α → β → Prop} {P : β → Prop} (h : ∀ a b, F a b → P b) : ∀ {l : List α} {m : List β}, Paired F l m → ∀ b ∈ m, P b
  | _, _, .nil, _, hb => nomatch hb
  | _, _, .cons q t, b, hb => by
    rcases List.mem_cons.mp hb with rfl | hb
    · exact h _ _ q
    · exact pair_right h t b hb
theorem pair_mem {α β : Type} {F F' : α → β → Prop} : ∀ {l : List α} {m : List β}, Paired F l m → (∀ a b, b ∈ m → F a b → F' a b) → Paired F' l m
  | _, _, .nil, _ => .nil
  | _, _, .cons q t, h => .cons (h _ _ List.mem_cons_self q) (pair_mem t fun a b hb => h a b (List.mem_cons_of_mem _ hb))
def inOO (n : Nat) : OO → Prop
  | .dead => True
  | .lst xs => ∀ x ∈ xs, inO n x
  | .dct ks => ∀ x ∈ ks, inO n x.2
  | .ins _ fs => ∀ x ∈ fs, inO n x.2
  | .tbl _ _ => True
theorem OOR.cut {K : PySem.W.Frag} {G H : Hp} {ρ t : List Addr} {a : Addr} {o : OO} (h : OOR K G (ρ ++ t) H a o) (i : inOO ρ.length o) : OOR K G ρ H a o := by
  cases o with
  | dead => exact h
  | lst xs =>
    obtain ⟨vs, q, p, l⟩ := h
    exact ⟨vs, q, pair_mem p fun _ b hb r => r.cut (i b hb), l⟩
  | dct ks =>
    obtain ⟨vs, q, p⟩ := h
    exact ⟨vs, q, pair_mem p fun _ b hb r => ⟨r.1, r.2.cut (i b hb)⟩⟩
  | ins C fs =>
    obtain ⟨dx, vs, q, p⟩ := h
    exact ⟨dx, vs, q, pair_mem p fun _ b hb r => ⟨r.1, r.2.cut (i b hb)⟩⟩
  | tbl P q => exact h
theorem OOR.in_ {K : PySem.W.Frag} {G H : Hp} {ρ : List Addr} {a : Addr} {o : OO} (h : OOR K G ρ H a o) : inOO ρ.length o := by
  cases o with
  | dead => trivial
  | lst xs =>
    obtain ⟨vs, q, p, l⟩ := h
    exact pair_right (fun _ _ r => OvR.in_ r) p
  | dct ks =>
    obtain ⟨vs, q, p⟩ := h
    exact pair_right (P := fun x => inO ρ.length x.2) (fun _ _ r => OvR.in_ r.2) p
  | ins C fs =>
    obtain ⟨dx, vs, q, p⟩ := h
    exact pair_right (P := fun x => inO ρ.length x.2) (fun _ _ r => OvR.in_ r.2) p
  | tbl P q => trivial
theorem in_dataO {n : Nat} {o : OO} (h : dataO o = true) : inOO n o := by
  cases o with
  | dead => trivial
  | lst xs => exact fun x hx => in_data (List.all_eq_true.mp h x hx)
  | dct ks => exact fun x hx => in_data (List.all_eq_true.mp h x hx)
  | ins C fs => exact fun x hx => in_data (List.all_eq_true.mp h x hx)
  | tbl P q => cases h
theorem Wo.drop {K : PySem.W.Frag} {W W0 : Wd} {G G0 H H0 : Hp} {ρ : List Addr} {t : List Addr} {l m os0 : List OO} (h0 : Wo K W0 G0 ρ H0 os0) (h : Wo K W G (ρ ++ t) H (l ++ m)) (g0 : Same G0 G) (len : l.length = os0.length) (c : ∀ (k : Nat) (o : OO), l[k]? = some o → os0[k]? = some o ∨ dataO o = true) : Wo K W G ρ H l := by
  have sub : ∀ a, a ∈ ρ → a ∈ ρ ++ t := fun a ha => List.mem_append_left _ ha
  refine ⟨h.gn, h0.len.trans len.symm, h.nd.sublist (List.sublist_append_left _ _), fun k a o ha ho => ?_, h.fr, fun a ha => h.ow a (sub a ha), fun a ha => h.tr a (sub a ha), fun a ha => let ⟨x1, x2, x3⟩ := h.ex a ha; ⟨x1, fun z => x2 (sub a z), x3⟩⟩
  have hk : k < l.length := (List.getElem?_eq_some_iff.mp ho).1
  have hr : k < ρ.length := (List.getElem?_eq_some_iff.mp ha).1
  rcases h.ob k a o (by rw [List.getElem?_append_left hr]; exact ha) (by rw [List.getElem?_append_left hk]; exact ho) with q | ⟨q1, q2⟩
  · exact .inl q
  · rcases c k o ho with z | z
    · rcases h0.ob k a o ha z with ⟨y, u, hu⟩ | ⟨_, y⟩
      · exact .inl ⟨y, u, g0 _ _ hu⟩
      · exact .inr ⟨q1, q2.cut y.in_⟩
    · exact .inr ⟨q1, q2.cut (in_dataO z)⟩
/-- what is handed out, the table as long as it was -/
def dropQ (os0 : List OO) (Q : Ov → List OO → Prop) : Ov → List OO → Prop := fun x os' => ∃ l m, os' = l ++ m ∧ l.length = os0.length ∧ (∀ (k : Nat) (o : OO), l[k]? = some o → os0[k]? = some o ∨ dataO o = true) ∧ dataV x = true ∧ Q x l
theorem dropQ_same {os0 : List OO} {Q : Ov → List OO → Prop} {d : Dt} (m : List OO) (q : Q (.d d) os0) : dropQ os0 Q (.d d) (os0 ++ m) := ⟨os0, m, rfl, rfl, fun _ _ h => .inl h, rfl, q⟩
theorem dropQ_at {os0 : List OO} {Q : Ov → List OO → Prop} {d : Dt} (q : Q (.d d) os0) : dropQ os0 Q (.d d) os0 := ⟨os0, [], (List.append_nil _).symm, rfl, fun _ _ h => .inl h, rfl, q⟩
def dropX (os0 : List OO) (Ex : Exn → List OO → Prop) : Exn → List OO → Prop := fun x os' => ∃ l m, os' = l ++ m ∧ l.length = os0.length ∧ (∀ (k : Nat) (o : OO), l[k]? = some o → os0[k]? = some o ∨ dataO o = true) ∧ Ex x l
theorem spD_drop {K : PySem.W.Frag} {Z : Zs} {n : Nat} {F g : FD} (h : ∀ xs os Q Ex, xs.length = n → F xs os Q Ex → g xs os (dropQ os Q) (dropX os Ex)) (vs : List V) (H : Hp) (Q : VK) (E : XK) (q : spD K Z n F vs H Q E) : spD K Z n g vs H Q E := by
  obtain ⟨W, G, ρ, os, xs, Qd, Ex, a, b, c, d, e, f⟩ := q
  refine ⟨W, G, ρ, os, xs, _, _, a, b, c, ?_, h _ _ _ _ c e, ?_⟩
  · rintro r ys ds cls dd G' ρ' H' os' ⟨l, m, rfl, hl, hc, q⟩ wo ex rs ra
    obtain ⟨t, rfl⟩ := ex.r
    exact d r ys ds cls dd G' ρ H' l q (a.drop wo ex.g hl hc) ⟨ex.g, [], (List.append_nil _).symm⟩ rs ra
  · rintro x os' v G' ρ' H' ⟨l, m, rfl, hl, hc, hx, q⟩ wo ex rx
    obtain ⟨t, rfl⟩ := ex.r
    exact f x l v G' ρ H' q (a.drop wo ex.g hl hc) ⟨ex.g, [], (List.append_nil _).symm⟩ (rx.cut (in_data hx))
section
variable {P : Program} {w : World} {K : PySem.W.Frag} {mg : Str → Option Value} {base : Heap}
/-- as fn_d, where the body makes objects of its own -/
theorem fn_t {CX : CXT} {f : Addr} {fd : FuncData} {ps : List Str} {k n : Nat} {Z : Zs} {F g : FD} (h0 : FnOk P w K mg base CX k f fd ps (spD K Z n g)) (h : ∀ xs os Q Ex, xs.length = n → F xs os Q Ex → g xs os (dropQ os Q) (dropX os Ex)) : FnOk P w K mg base CX k f fd ps (spD K Z n F) :=
  h0.imp fun vs H Q E q => spD_drop h vs H Q E q
end
theorem end_at {os : List OO} {x : OO} : (os ++ [x])[os.length]? = some x := by rw [List.getElem?_append_right (Nat.le_refl _), Nat.sub_self]; rfl
theorem end_set {os : List OO} {x y : OO} : (os ++ [x]).set os.length y = os ++ [y] := by
  rw [List.set_append_right _ _ (Nat.le_refl _), Nat.sub_self]
  rfl
theorem rdd_end {os : List OO} {ds : List Dt} {k : Dt → Prop} : Rdd (os ++ [.lst (ds.map .d)]) (.o os.length) k = k (.lst ds) := rdd_o end_at dts_map
end De
namespace De
open PySem L2 Bl
/-- in its place, or at the end -/
def putD (ks : List (Key × Dt)) (k : Key) (v : Dt) : List (Key × Dt) :=
  if (valD ks k).isSome = true then ks.map fun p => if p.1 = k then (p.1, v) else p
  else ks ++ [(k, v)]
theorem putD_len (ks : List (Key × Dt)) (k : Key) (v : Dt) : (putD ks k v).length ≤ ks.length + 1 := by
  unfold putD
  split
  · rw [List.length_map]
    exact Nat.le_succ _
  · rw [List.length_append]
    exact Nat.le_refl _
section
variable {K : PySem.W.Frag} {G : Hp}
theorem repk_len : ∀ {us : List (Key × V)} {ks : List (Key × Dt)}, RepK K G us ks → us.length = ks.length
  | _, _, .nil => rfl
  | _, _, .cons _ t => by rw [List.length_cons, List.length_cons, repk_len t]
theorem repk_app : ∀ {us ws : List (Key × V)} {ks ls : List (Key × Dt)}, RepK K G us ks → RepK K G ws ls → RepK K G (us ++ ws) (ks ++ ls)
  | _, _, _, _, .nil, k => k
  | _, _, _, _, .cons h t, k => .cons h (repk_app t k)
theorem repk_rep {k : Key} {v : V} {d : Dt} (r : Rep K G v d) : ∀ {us : List (Key × V)} {ks : List (Key × Dt)}, RepK K G us ks → RepK K G (us.map fun p => if p.1 = k then (p.1, v) else p) (ks.map fun p => if p.1 = k then (p.1, d) else p)
  | _, _, .nil => .nil
  | (a, _) :: _, (_, _) :: _, .cons h t => by
    rw [List.map_cons, List.map_cons]
    by_cases e : a = k
    · rw [if_pos e, if_pos e]
      exact .cons r (repk_rep r t)
    · rw [if_neg e, if_neg e]
      exact .cons h (repk_rep r t)
theorem repk_put {k : Key} {v : V} {d : Dt} {us : List (Key × V)} {ks : List (Key × Dt)} (h : RepK K G us ks) (r : Rep K G v d) : RepK K G (putK us k v) (putD ks k d) := by
  unfold putK putD
  have e : (us.any fun kv => decide (kv.1 = k)) = (valD ks k).isSome := by
    rw [valV_any]
    rcases repk_val (x := k) h with ⟨h1, h2⟩ | ⟨_, _, h1, h2, _⟩ <;> rw [h1, h2] <;> rfl
  rw [e]
  split
  · exact repk_rep r h
  · exact repk_app h (.cons r .nil)
end
/-- the turns of a dict comprehension -/
def dcGo (dg : DTg) (dt : DT) (dk de : DE) (sl : Sl) : List Dt → List (Key × Dt) → List OO → (List (Key × Dt) → List OO → Prop) → Prop
  | [], acc, os, Q => Q acc os
  | d :: ds, acc, os, Q => dg (.d d) sl os fun sl1 os1 => dt sl1 os1 (fun b os2 => if b = true then dk sl1 os2 (fun y os3 => de sl1 os3 (fun x os4 => ∃ y' z k, y = .d y' ∧ x = .d z ∧ keyD y' = some k ∧ dcGo dg dt dk de sl ds (putD acc k z) os4 Q) noX) noX else dcGo dg dt dk de sl ds acc os2 Q) noX
def dDc (di : DI) (dg : DTg) (dt : DT) (dk de : DE) (vs : List Nat) : DE := fun sl os Q Ex => di sl os (fun ds os1 => dcGo dg dt dk de (wipeS sl vs) ds [] os1 fun zs os2 => Q (.d (.dct zs)) os2) Ex
/-- the same for dicts -/
theorem dc_run {K : PySem.W.Frag} {Z : Zs} {E0 : XK} {W : Wd} {G H1 : Hp} {ρ : List Addr} {σ : St} {sl : Sl} {os : List OO} {J : It} {ds : List Dt} {dg : DTg} {dt : DT} {dk de : DE} {T vs : List Nat} {R : List (Key × Dt) → List OO → Prop} {Qf : Addr → Hp → Prop} (wo : Wo K W G ρ H1 os) (s : SlR K G ρ σ sl) (r : RI K G ρ J ds)
    (hT : ∀ i ∈ T, i ∈ vs) (h : dcGo dg dt dk de (wipeS sl vs) ds [] os R)
    (fin : ∀ (D : Addr) (zs : List (Key × Dt)) (os' : List OO) (G' : Hp) (ρ' : List Addr) (H' : Hp) (us : List (Key × V)), R zs os' → Wo K W G' ρ' H' os' → Ext G ρ G' ρ' → D ∉ ρ' → G' D = none → D ∉ W.X → (D ∈ W.M ∨ noT W.H0 D = none) → H' D = some (.dK us) → RepK K G' us zs → zs.length ≤ sizeLine → Qf D H') : ∀ D, H1 D = none →
    ∃ Wi : Nat → Nat → Hp → Prop, (∃ m, Wi 0 m (upd H1 D (.dK []))) ∧ ∀ i m H, Wi i m H →
      (J.stop i H ∧ Qf D H) ∨ (J.go i H ∧ ∃ Nx : Hp → Prop, (∀ H', Nx H' → ∃ m', m' < m ∧ Wi (i + 1) m' H') ∧ ∀ x H', J.yld i H x H' → liftG K T dg x (wipe σ vs) H' fun σ2 H2 => wipe σ2 vs = wipe σ vs ∧ lift K Z E0 RT dt σ2 H2 fun b H3 =>
        if b = true then lift K Z E0 (RE K) dk σ2 H3 fun y H4 => lift K Z E0 (RE K) de σ2 H4 fun z H5 => ∃ kvs k, y = kV k ∧ H5 D = some (.dK kvs) ∧ kvs.length < sizeLine ∧ Nx (upd H5 D (.dK (putK kvs k z))) else Nx H3) := by
  intro D hD
  have gD : G D = none := by
    cases q : G D with
    | none => rfl
    | some u => rw [wo.gh _ _ q] at hD; cases hD
  have wD : D ∈ W.M ∨ noT W.H0 D = none := by
    by_cases m : D ∈ W.M
    · exact .inl m
    · cases q : noT W.H0 D with
      | none => exact .inr rfl
      | some u => rw [wo.fr D u q m] at hD; cases hD
  have nX : D ∉ W.X := fun m => by
    obtain ⟨_, _, u, q⟩ := wo.ex D m
    rw [hD] at q
    cases q.1
  refine ⟨fun i m H => m = ds.length - i ∧ i ≤ ds.length ∧ ∃ (G' : Hp) (ρ' : List Addr) (os' : List OO) (acc : List (Key × Dt)) (us : List (Key × V)), Wo K W G' ρ' H os' ∧ Ext G ρ G' ρ' ∧ D ∉ ρ' ∧ G' D = none ∧ H D = some (.dK us) ∧ RepK K G' us acc ∧ acc.length ≤ i ∧ dcGo dg dt dk de (wipeS sl vs) (ds.drop i) acc os' R,
    ⟨ds.length, by omega, Nat.zero_le _, G, ρ, os, [], [], wo.side gD (wo.fresh hD) wD, Ext.refl, wo.fresh hD, gD, upd_same, .nil, Nat.zero_le _, h⟩, ?_⟩
  rintro i m H ⟨rfl, hi, G', ρ', os', acc, us, w, e, nD, gD', hDl, ra, hac, hl⟩
  obtain ⟨t1, t2⟩ := r.2 W G' ρ' H os' i e.g w
  by_cases hlt : i < ds.length
  · refine .inr ⟨(t1 hlt).1, fun H' => ∃ (G' : Hp) (ρ' : List Addr) (os' : List OO) (acc : List (Key × Dt)) (us : List (Key × V)), Wo K W G' ρ' H' os' ∧ Ext G ρ G' ρ' ∧ D ∉ ρ' ∧ G' D = none ∧ H' D = some (.dK us) ∧ RepK K G' us acc ∧ acc.length ≤ i + 1 ∧ dcGo dg dt dk de (wipeS sl vs) (ds.drop (i + 1)) acc os' R,
      fun H' n => ⟨ds.length - (i + 1), by omega, rfl, hlt, n⟩, fun x H2 y => ?_⟩
    have wb : Wo K ⟨H, ρ', D :: W.X⟩ G' ρ' H os' := w.aside gD' nD hDl
    obtain ⟨t1', _⟩ := r.2 _ G' ρ' H os' i e.g wb
    obtain ⟨d, G2, hd, g2, w2, rd⟩ := (t1' hlt).2 x H2 y
    -- what stands at D stays
    have keepD : ∀ {G3 H3 : Hp} {ρ3 : List Addr} {os3 : List OO}, Wo K ⟨H, ρ', D :: W.X⟩ G3 ρ3 H3 os3 → H3 D = some (.dK us) ∧ D ∉ ρ3 ∧ G3 D = none := fun {G3 H3 ρ3 os3} w3 =>
      let ⟨x1, x2, _⟩ := w3.ex D List.mem_cons_self
      ⟨w3.fr D _ (noT_of hDl (by intro _ z; cases z)) nD, x2, x1⟩
    have hbk : ∀ {G3 H3 : Hp} {ρ3 : List Addr} {os3 : List OO}, Wo K ⟨H, ρ', D :: W.X⟩ G3 ρ3 H3 os3 → Wo K W G3 ρ3 H3 os3 := fun w3 => w.back w3 fun a ha => List.mem_cons_of_mem _ ha
    rw [drop_cons hd] at hl
    refine ⟨_, G2, ρ', wipeS sl vs, os', .d d, _, w2, (s.wipe vs).mono (e.trans (Ext.of g2)), rd, hl, fun sl2 os2 σ2 G3 ρ3 H3 q3 w3 s3 e3 f3 l3 => ⟨?_, ?_⟩⟩
    · rw [← wipe_wipe (σ := σ)]
      exact wipe_eq l3 fun j hj => f3 j fun z => hj (hT j z)
    refine ⟨_, G3, ρ3, sl2, os2, _, noX, ⟨w3, s3, EKr.no, fun b os4 b' G4 ρ4 H4 q4 w4 e4 rb => ?_⟩, q3⟩
    obtain rfl : b' = b := rb
    cases b' with
    | false =>
      obtain ⟨k1, k2, k3⟩ := keepD w4
      exact iteF ⟨G4, ρ4, os4, acc, us, hbk w4, e.trans ((Ext.of g2).trans (e3.trans e4)), k2, k3, k1, ra.mono (g2.trans (e3.g.trans e4.g)), Nat.le_succ_of_le hac, by simpa using q4⟩
    | true =>
      refine iteT ⟨_, G4, ρ4, sl2, os4, _, noX, ⟨w4, s3.mono e4, EKr.no, fun x5 os5 v5 G5 ρ5 H5 q5 w5 e5 r5 => ?_⟩, (if_pos (c := true = true) rfl).mp q4⟩
      refine ⟨_, G5, ρ5, sl2, os5, _, noX, ⟨w5, (s3.mono e4).mono e5, EKr.no, fun x6 os6 v6 G6 ρ6 H6 q6 w6 e6 r6 => ?_⟩, q5⟩
      obtain ⟨y, z, k, rfl, rfl, hk, q7⟩ := q6
      obtain ⟨k1, k2, k3⟩ := keepD w6
      have ra6 : RepK K G6 us acc := ra.mono (g2.trans (e3.g.trans (e4.g.trans (e5.g.trans e6.g))))
      have hsz := r.1
      have ey : v5 = kV k := key_of (G := G5) (H := H5) (Snp.of w5.gh r5) hk
      refine ⟨us, k, ey, k1, by rw [repk_len ra6]; omega, G6, ρ6, os6, putD acc k z, putK us k v6, (hbk w6).side k3 k2 wD, e.trans ((Ext.of g2).trans (e3.trans (e4.trans (e5.trans e6)))), k2, k3, upd_same, repk_put ra6 r6, Nat.le_trans (putD_len _ _ _) (Nat.succ_le_succ hac), q7⟩
  · have ei : i = ds.length := by omega
    subst ei
    rw [List.drop_of_length_le (Nat.le_refl _)] at hl
    exact .inl ⟨t2 (Nat.le_refl _), fin D acc os' G' ρ' H us hl w e nD gD' nX wD hDl ra (Nat.le_trans hac r.1)⟩
section
variable {X : Cx} {Z : Zs} {E E' : XK} {kx vx tg iter : Expr} {ifs : List Expr} {scope : Scope} {own : List (Str × Nat)} {pos : Pos} {di : DI} {dg : DTg} {dt : DT} {dk de : DE} {T : List Nat}
theorem dc_weak {K : PySem.W.Frag} {vs : List Nat} (hT : ∀ i ∈ T, i ∈ vs) {σ : St} {H : Hp} {Q : VK} (h : lift K Z E (RE K) (dDc di dg dt dk de vs) σ H Q) : tDc (lift K Z E (RI K) di) (liftG K T dg) (lift K Z E' RT dt) (lift K Z E' (RE K) dk) (lift K Z E' (RE K) de) vs σ H Q := by
  obtain ⟨W, G, ρ, sl, os, Qd, Ex, p, q⟩ := h
  refine p.bind (RS := RI K) _ q fun ds os1 J G1 ρ1 H1 q1 p1 r1 e1 => ?_
  refine dc_run p1.wo p1.sl r1 hT q1 fun D zs os' G' ρ' H' us q2 w e nD gD nX wD hD ra hzs => ?_
  have g := same_new gD (.dK us)
  refine (p1.at w e).po _ _ _ _ _ _ q2 (w.more g (fun b u hb => ?_) fun b hb gb => ?_) (Ext.of g) (Rep.dct (.inl upd_same) (ra.mono g))
  · by_cases eb : b = D
    · subst eb
      rw [upd_same] at hb
      rw [noT_of hD (by intro _ z; cases z)]
      exact hb
    · rw [upd_ne eb] at hb
      exact w.gn _ _ hb
  · have ne : b ≠ D := by
      rintro rfl
      rcases hb with hb | hb
      · exact nD hb
      · exact nX hb
    rw [upd_ne ne]
    exact gb
theorem pd_dc (hc : X.calm = true) (hN : X.N.Nodup) (hi : PID X Z E tg iter di) (ok : BlkOk X.N X.env.scope scope own)
    (hg : ∀ (s : Shared) (H : Hp) (C : Addr) (cl : List (Str × Addr)) (fp : List Addr), PGD (X.blk s H scope (compEnvC scope cl C X.env) fp) T tg dg)
    (ht : ∀ (s : Shared) (H : Hp) (C : Addr) (cl : List (Str × Addr)) (fp : List Addr), PTsD (X.blk s H scope (compEnvC scope cl C X.env) fp) Z E' ifs dt)
    (hk : ∀ (s : Shared) (H : Hp) (C : Addr) (cl : List (Str × Addr)) (fp : List Addr), PD (X.blk s H scope (compEnvC scope cl C X.env) fp) Z E' kx dk)
    (he : ∀ (s : Shared) (H : Hp) (C : Addr) (cl : List (Str × Addr)) (fp : List Addr), PD (X.blk s H scope (compEnvC scope cl C X.env) fp) Z E' vx de)
    (hT : ∀ i ∈ T, i ∈ own.map (·.2)) (hs : ∀ x, foldedSetIterable iter X.env x = pure x := by intro _; rfl) : PD X Z E (.DictComp kx vx [⟨tg, iter, ifs, 0⟩] scope pos) (dDc di dg dt dk de (own.map (·.2))) :=
  PE.weak (pe_dc (g := liftG X.K T dg) (tt := lift X.K Z E' RT dt) (tk := lift X.K Z E' (RE X.K) dk) (tv := lift X.K Z E' (RE X.K) de) hc hN hi ok hg ht hk he hs) fun _ _ _ => dc_weak hT
end
/-- a turn -/
def dcStep (dg : DTg) (dt : DT) (dk de : DE) (sl : Sl) (d : Dt) (os : List OO) (k : Key → Dt → List OO → Prop) (s : List OO → Prop) : Prop :=
  dg (.d d) sl os fun sl1 os1 => dt sl1 os1 (fun b os2 => if b = true then dk sl1 os2 (fun y os3 => de sl1 os3 (fun x os4 => ∃ y' z kk, y = .d y' ∧ x = .d z ∧ keyD y' = some kk ∧ k kk z os4) noX) noX else s os2) noX
theorem dc_fm {dg : DTg} {dt : DT} {dk de : DE} {sl : Sl} {ds : List Dt} {os : List OO} {Q : List (Key × Dt) → List OO → Prop} (p : Dt → Bool) (f : Dt → Key × Dt) (h : ∀ d ∈ ds, ∀ (k : Key → Dt → List OO → Prop) (s : List OO → Prop), (if p d = true then k (f d).1 (f d).2 os else s os) → dcStep dg dt dk de sl d os k s) :
    ∀ {acc : List (Key × Dt)}, Q ((ds.filter p).foldl (fun a d => putD a (f d).1 (f d).2) acc) os → dcGo dg dt dk de sl ds acc os Q := by
  induction ds with
  | nil => exact fun q => q
  | cons d ds ih =>
    intro acc q
    have ih := @ih fun d hd => h d (List.mem_cons_of_mem _ hd)
    show dcStep dg dt dk de sl d os (fun kk z os4 => dcGo dg dt dk de sl ds (putD acc kk z) os4 Q) (fun os2 => dcGo dg dt dk de sl ds acc os2 Q)
    refine h d List.mem_cons_self _ _ ?_
    by_cases e : p d = true
    · rw [if_pos e]
      rw [List.filter_cons_of_pos e, List.foldl_cons] at q
      exact ih q
    · rw [if_neg e]
      rw [List.filter_cons_of_neg e] at q
      exact ih q
end De
namespace De
open PySem L2 Bl
def putG {α : Type} (f : Str) (y : α) : List (Str × α) → List (Str × α)
  | [] => [(f, y)]
  | (g, x) :: r => if g = f then (g, y) :: r else (g, x) :: putG f y r
section
variable {K : PySem.W.Frag} {G : Hp} {ρ : List Addr} {f : Str}
theorem pair_put {v : V} {x : Ov} (r : OvR K G ρ v x) : ∀ {vs : List (Str × V)} {fs : List (Str × Ov)}, Paired (fun p q => p.1 = q.1 ∧ OvR K G ρ p.2 q.2) vs fs → Paired (fun p q => p.1 = q.1 ∧ OvR K G ρ p.2 q.2) (putF f v vs) (putG f x fs)
  | _, _, .nil => .cons ⟨rfl, r⟩ .nil
  | (a, _) :: _, (_, _) :: _, .cons ⟨h0, h⟩ t => by
    have h0 : a = _ := h0
    subst h0
    unfold putF putG
    by_cases e : a = f
    · rw [if_pos e, if_pos e]
      exact .cons ⟨rfl, r⟩ t
    · rw [if_neg e, if_neg e]
      exact .cons ⟨rfl, h⟩ (pair_put r t)
theorem pair_look {x : Ov} : ∀ {vs : List (Str × V)} {fs : List (Str × Ov)}, Paired (fun p q => p.1 = q.1 ∧ OvR K G ρ p.2 q.2) vs fs → fs.lookup f = some x → ∃ v, vs.lookup f = some v ∧ OvR K G ρ v x
  | _, _, .nil, h => by cases h
  | (a, v) :: vs, (_, y) :: fs, .cons ⟨h0, h⟩ t, e => by
    have h0 : a = _ := h0
    subst h0
    rw [List.lookup_cons] at e ⊢
    by_cases q : (f == a) = true
    · rw [q] at e ⊢
      obtain rfl := Option.some.inj e
      exact ⟨v, rfl, h⟩
    · rw [Bool.eq_false_iff.mpr q] at e ⊢
      exact pair_look t e
theorem pair_none : ∀ {vs : List (Str × V)} {fs : List (Str × Ov)}, Paired (fun p q => p.1 = q.1 ∧ OvR K G ρ p.2 q.2) vs fs → fs.lookup f = none → vs.lookup f = none
  | _, _, .nil, _ => rfl
  | (a, v) :: vs, (_, y) :: fs, .cons ⟨h0, h⟩ t, e => by
    have h0 : a = _ := h0
    subst h0
    rw [List.lookup_cons] at e ⊢
    by_cases q : (f == a) = true
    · rw [q] at e
      cases e
    · rw [Bool.eq_false_iff.mpr q] at e ⊢
      exact pair_none t e
theorem repf_look {d : Dt} : ∀ {vs : List (Str × V)} {fs : List (Str × Dt)}, RepF K G vs fs → fs.lookup f = some d → ∃ v, vs.lookup f = some v ∧ Rep K G v d
  | _, _, .nil, h => by cases h
  | _, _, .cons (k := a) (v := v) h t, e => by
    rw [List.lookup_cons] at e ⊢
    by_cases q : (f == a) = true
    · rw [q] at e ⊢
      obtain rfl := Option.some.inj e
      exact ⟨v, rfl, h⟩
    · rw [Bool.eq_false_iff.mpr q] at e ⊢
      exact repf_look t e
theorem repf_none : ∀ {vs : List (Str × V)} {fs : List (Str × Dt)}, RepF K G vs fs → fs.lookup f = none → vs.lookup f = none
  | _, _, .nil, _ => rfl
  | _, _, .cons (k := a) (v := v) h t, e => by
    rw [List.lookup_cons] at e ⊢
    by_cases q : (f == a) = true
    · rw [q] at e
      cases e
    · rw [Bool.eq_false_iff.mpr q] at e ⊢
      exact repf_none t e
end
/-- an instance of the class at C: its fields -/
inductive InsF where
  | d (fs : List (Str × Dt)) | o (j : Nat) (fs : List (Str × Ov))
def insD (C : Addr) (os : List OO) (x : Ov) (k : InsF → Prop) : Prop := match x with
  | .d (.ins C' fs) => C' = C ∧ k (.d fs)
  | .o j => (match os[j]? with
    | some (.ins C' fs) => C' = C ∧ k (.o j fs)
    | _ => False)
  | _ => False
def InsF.look (f : Str) (k : Ov → Prop) : InsF → Prop
  | .d fs => optP (fs.lookup f) fun d => k (.d d)
  | .o _ fs => optP (fs.lookup f) k
def InsF.lack (m : Str) : InsF → Prop
  | .d fs => fs.lookup m = none
  | .o _ fs => fs.lookup m = none
def InsAt (K : PySem.W.Frag) (G : Hp) (ρ : List Addr) (os : List OO) (C a : Addr) (x : Ov) (vs : List (Str × V)) : InsF → Prop
  | .d fs => (∃ y, x = .d y) ∧ RepF K G vs fs
  | .o j fs => x = .o j ∧ ρ[j]? = some a ∧ G a = none ∧ os[j]? = some (.ins C fs) ∧ Paired (fun p q => p.1 = q.1 ∧ OvR K G ρ p.2 q.2) vs fs
theorem ins_at {K : PySem.W.Frag} {W : Wd} {G H : Hp} {ρ : List Addr} {os : List OO} {v : V} {x : Ov} {C : Addr} {k : InsF → Prop} (w : Wo K W G ρ H os) (r : OvR K G ρ v x) (h : insD C os x k) : ∃ a dx vs, v = .ref a ∧ H a = some (.ins C dx vs) ∧ ∃ i, k i ∧ InsAt K G ρ os C a x vs i := by
  cases x with
  | d d =>
    cases d with
    | ins C' fs =>
      obtain ⟨rfl, h⟩ := h
      cases r with
      | ins h1 h2 => exact ⟨_, _, _, rfl, w.gh _ _ h1, .d fs, h, ⟨_, rfl⟩, h2⟩
    | _ => exact h.elim
  | o j =>
    obtain ⟨a, ha, rfl⟩ := r
    unfold insD at h
    cases e : os[j]? with
    | none => simp only [e] at h
    | some o =>
      cases o with
      | ins C' fs =>
        simp only [e] at h
        obtain ⟨rfl, h⟩ := h
        rcases w.ob j a _ ha e with z | ⟨live, dx, vs, hv, pr⟩
        · cases z.1
        · exact ⟨a, dx, vs, rfl, hv, .o j fs, h, rfl, ha, live, e, pr⟩
      | _ => simp only [e] at h
def dFld (C : Addr) (f : Str) (a : DE) : DE := fun sl os Q Ex => a sl os (fun x os1 => insD C os1 x fun i => i.look f fun y => Q y os1) Ex
def dFldS (C : Addr) (f : Str) (a v : DE) : DS := fun DD sl os => v sl os (fun y os1 => a sl os1 (fun x os2 => insD C os2 x fun i => match i with
  | .o j fs => fs.length < 1000 ∧ DD.nx sl (os2.set j (.ins C (putG f y fs)))
  | .d _ => False) DD.ex) DD.ex
/-- o.f += 1 and the like -/
def dFldA (C : Addr) (f : Str) (a v : DE) : DS := fun DD sl os => a sl os (fun x os1 => insD C os1 x fun i => i.look f fun y => match x, y with
  | .o j, .d (.int m) => v sl os1 (fun z os2 => match z, os2[j]? with
    | .d (.int n), some (.ins C' fs) => (C' = C ∧ fs.length < 1000) ∧ DD.nx sl (os2.set j (.ins C (putG f (.d (.int (m + n))) fs)))
    | _, _ => False) DD.ex
  | _, _ => False) DD.ex
def dMeth (C : Addr) (m : Str) (n : Nat) (F : FD) (a : DE) (r : DA) : DE := fun sl os Q Ex => a sl os (fun x os1 => insD C os1 x fun i => i.lack m ∧ r sl os1 (fun xs os2 => (x :: xs).length = n ∧ F (x :: xs) os2 Q Ex) Ex) Ex
def dMethN (C : Addr) (m : Str) (n : Nat) (F : FD) (a : DE) (r : DA) : DE := fun sl os Q Ex => a sl os (fun x os1 => insD C os1 x fun i => i.lack m ∧ r sl os1 (fun xs os2 => (x :: xs).length = n ∧ F (x :: xs) os2 Q noX) Ex) Ex
def dProp (C : Addr) (n : Nat) (F : FD) (a : DE) : DE := fun sl os Q Ex => a sl os (fun x os1 => insD C os1 x fun _ => n = 1 ∧ F [x] os1 Q noX) Ex
def dMake (C : Addr) (n : Nat) (F : FD) (r : DA) : DE := fun sl os Q Ex => r sl os (fun xs os1 => (Ov.o os1.length :: xs).length = n ∧ F (.o os1.length :: xs) (os1 ++ [.ins C []]) (fun v os2 => v = .d .non ∧ Q (.o os1.length) os2) Ex) Ex
section
variable {X : Cx} {Z : Zs} {E E' : XK} {e : Expr} {st : Stmt} {C : Addr} {f m : Str} {da dv : DE} {dr : DA} {n : Nat} {F : FD}
theorem pd_fld (hc : Cls X.K C) (hn : NoAttr X.K C f) (h : PE X e (tFld X.K (lift X.K Z E (RE X.K) da) f)) : PD X Z E e (dFld C f da) :=
  pd_of h fun σ H Q W G ρ sl os Qd Ex p q => p.bind (RS := RE X.K) _ q fun x os1 v G1 ρ1 H1 q1 p1 r1 e1 => by
    obtain ⟨a, dx, vs, rfl, ha, i, hk, hi⟩ := ins_at p1.wo r1 q1
    cases i with
    | d fs =>
      obtain ⟨d, hd, q2⟩ := hk.get
      obtain ⟨v, hv, rv⟩ := repf_look hi.2 hd
      exact ⟨a, C, dx, vs, v, rfl, ha, hc, hn, hv, p1.end_ (x := .d d) q2 rv⟩
    | o j fs =>
      obtain ⟨y, hy, q2⟩ := hk.get
      obtain ⟨_, _, _, _, pr⟩ := hi
      obtain ⟨v, hv, rv⟩ := pair_look pr hy
      exact ⟨a, C, dx, vs, v, rfl, ha, hc, hn, hv, p1.end_ q2 rv⟩
theorem psd_fld (hc : Cls X.K C) (hn : NoAttr X.K C f) (h : PS X st (sFld X.K (lift X.K Z E (RE X.K) da) (lift X.K Z E (RE X.K) dv) f)) : PSD X Z E st (dFldS C f da dv) :=
  PS.weak h fun D σ H ⟨W, G, ρ, sl, os, DD, w, s, l, q⟩ => l.bind (RS := RE X.K) w s _ q fun y os1 u G1 ρ1 H1 q1 w1 s1 l1 r1 e1 => l1.bind (RS := RE X.K) w1 s1 _ q1 fun x os2 v G2 ρ2 H2 q2 w2 s2 l2 r2 e2 => by
    obtain ⟨a, dx, vs, rfl, ha, i, hk, hi⟩ := ins_at w2 r2 q2
    cases i with
    | d fs => exact hk.elim
    | o j fs =>
      obtain ⟨_, hj, live, ho, pr⟩ := hi
      obtain ⟨hl, q3⟩ := hk
      refine ⟨a, C, dx, vs, rfl, ha, hc, hn, by rw [Paired.length pr]; exact hl, ?_⟩
      exact l2.nx _ _ _ _ _ _ q3 (w2.put (o := .ins C dx (putF f u vs)) hj ho live ⟨dx, _, upd_same, pair_put (OvR.mono e2 r1) pr⟩) s2 Ext.refl
theorem insF_lack {K : PySem.W.Frag} {G : Hp} {ρ : List Addr} {os : List OO} {a : Addr} {x : Ov} {vs : List (Str × V)} {i : InsF} (h : i.lack m) (hi : InsAt K G ρ os C a x vs i) : vs.lookup m = none := by
  cases i with
  | d fs => exact repf_none hi.2 h
  | o j fs => exact pair_none hi.2.2.2.2 h
theorem pd_meth (h : PE X e (tMeth C m (spD X.K Z n F) [] E (lift X.K Z E (RE X.K) da) (lift X.K Z E (RA X.K) dr))) : PD X Z E e (dMeth C m n F da dr) :=
  pd_of h fun σ H Q W G ρ sl os Qd Ex p q => p.bind (RS := RE X.K) _ q fun x os1 v G1 ρ1 H1 q1 p1 r1 e1 => by
    obtain ⟨a, dx, vs, rfl, ha, i, ⟨hl, hk⟩, hi⟩ := ins_at p1.wo r1 q1
    refine ⟨a, dx, vs, rfl, ha, insF_lack hl hi, p1.bind (RS := RA X.K) _ hk fun xs os2 us G2 ρ2 H2 q2 p2 r2 e2 => ?_⟩
    rw [List.append_nil]
    exact ⟨W, G2, ρ2, os2, x :: xs, Qd, Ex, p2.wo, .cons (OvR.mono e2 r1) r2, q2.1, p2.ek, q2.2, fun x os' v G' ρ' H' a b c d => p2.po x os' v G' ρ' H' a b c d⟩
theorem pd_methN {E' : XK} (h : PE X e (tMeth C m (spD X.K Z n F) [] E' (lift X.K Z E (RE X.K) da) (lift X.K Z E (RA X.K) dr))) : PD X Z E e (dMethN C m n F da dr) :=
  pd_of h fun σ H Q W G ρ sl os Qd Ex p q => p.bind (RS := RE X.K) _ q fun x os1 v G1 ρ1 H1 q1 p1 r1 e1 => by
    obtain ⟨a, dx, vs, rfl, ha, i, ⟨hl, hk⟩, hi⟩ := ins_at p1.wo r1 q1
    refine ⟨a, dx, vs, rfl, ha, insF_lack hl hi, p1.bind (RS := RA X.K) _ hk fun xs os2 us G2 ρ2 H2 q2 p2 r2 e2 => ?_⟩
    rw [List.append_nil]
    exact ⟨W, G2, ρ2, os2, x :: xs, Qd, noX, p2.wo, .cons (OvR.mono e2 r1) r2, q2.1, EKr.no, q2.2, fun x os' v G' ρ' H' a b c d => p2.po x os' v G' ρ' H' a b c d⟩
theorem pd_methN0 {E' : XK} (h : PE X e (tMeth C m (spD X.K Z n F) [] E' (lift X.K Z E (RE X.K) da) tNil)) : PD X Z E e (dMethN C m n F da dNil) :=
  pd_of h fun σ H Q W G ρ sl os Qd Ex p q => p.bind (RS := RE X.K) _ q fun x os1 v G1 ρ1 H1 q1 p1 r1 e1 => by
    obtain ⟨a, dx, vs, rfl, ha, i, ⟨hl, hk⟩, hi⟩ := ins_at p1.wo r1 q1
    refine ⟨a, dx, vs, rfl, ha, insF_lack hl hi, ?_⟩
    exact ⟨W, G1, ρ1, os1, [x], Qd, noX, p1.wo, .cons r1 .nil, hk.1, EKr.no, hk.2, fun x os' v G' ρ' H' a b c d => p1.po x os' v G' ρ' H' a b c d⟩
theorem pd_prop {E' : XK} (h : PE X e (tProp C (spD X.K Z n F) [] E' (lift X.K Z E (RE X.K) da))) : PD X Z E e (dProp C n F da) :=
  pd_of h fun σ H Q W G ρ sl os Qd Ex p q => p.bind (RS := RE X.K) _ q fun x os1 v G1 ρ1 H1 q1 p1 r1 e1 => by
    obtain ⟨a, dx, vs, rfl, ha, i, ⟨hl, hk⟩, hi⟩ := ins_at p1.wo r1 q1
    refine ⟨a, dx, vs, rfl, ha, ?_⟩
    exact ⟨W, G1, ρ1, os1, [x], Qd, noX, p1.wo, .cons r1 .nil, hl.symm, EKr.no, hk, fun x os' v G' ρ' H' a b c d => p1.po x os' v G' ρ' H' a b c d⟩
theorem make_go {σ : St} {H : Hp} {Q : VK} {W : Wd} {G : Hp} {ρ : List Addr} {sl : Sl} {os : List OO} {Qd : Ov → List OO → Prop} {Ex : Exn → List OO → Prop} {vs : List V} {xs : List Ov} (p1 : Pk X.K Z E (RE X.K) σ H Q W G ρ sl os Qd Ex) (r1 : Paired (OvR X.K G ρ) vs xs)
    (hn : (Ov.o os.length :: xs).length = n) (hF : F (.o os.length :: xs) (os ++ [.ins C []]) (fun v os2 => v = .d .non ∧ Qd (.o os.length) os2) Ex) : ∀ x dx, H x = none → H dx = none → dx ≠ x →
    spD X.K Z n F (.ref x :: vs) (upd (upd H dx (.own x)) x (.ins C dx [])) (fun v H2 => v = .non ∧ Q (.ref x) H2) E := by
  intro x dx hx hdx ne
  obtain ⟨w1, g1⟩ := p1.wo.new hdx (.own x)
  have hx1 : upd H dx (.own x) x = none := by rw [upd_ne ne.symm]; exact hx
  obtain ⟨w2, e2⟩ := w1.obj hx1 (o := .ins C dx []) (x := .ins C []) fun e => ⟨dx, [], upd_same, .nil⟩
  have e3 := (Ext.of g1).trans e2
  refine ⟨W, _, _, _, _, _, Ex, w2, .cons (b := .o os.length) (show OvR X.K _ _ (.ref x) (.o os.length) from ⟨x, at_last p1.wo.len, rfl⟩) (OvRs.mono e3 r1), hn, p1.ek.mono e3, hF, ?_⟩
  rintro y os' v G' ρ' H' ⟨rfl, q2⟩ w' e' r'
  cases r'
  refine ⟨rfl, p1.po _ _ _ _ _ _ q2 w' (e3.trans e') ?_⟩
  obtain ⟨l, rfl⟩ := e'.r
  refine ⟨x, ?_, rfl⟩
  rw [List.getElem?_append_left (by rw [List.length_append, p1.wo.len]; exact Nat.lt_succ_self _)]
  exact at_last p1.wo.len
theorem pd_make (h : PE X e (tMake C (spD X.K Z n F) [] E (lift X.K Z E (RA X.K) dr))) : PD X Z E e (dMake C n F dr) :=
  pd_of h fun σ H Q W G ρ sl os Qd Ex p q => p.bind (RS := RA X.K) _ q fun xs os1 vs G1 ρ1 H1 q1 p1 r1 e1 => by
    intro x dx hx hdx ne
    rw [List.append_nil]
    exact make_go p1 r1 q1.1 q1.2 x dx hx hdx ne
end
def dtf : List (Str × Ov) → Option (List (Str × Dt))
  | [] => some []
  | (k, .d x) :: r => (dtf r).map ((k, x) :: ·)
  | (_, .o _) :: _ => none
/-- as data: an object changes no more -/
def frzGo (os : List OO) (x : Ov) (k : Dt → List OO → Prop) : Prop := match x with
  | .d x => k x os
  | .o j => match os[j]? with
    | some (.lst xs) => optP (dts xs) fun ds => k (.lst ds) (os.set j .dead)
    | some (.dct ks) => optP (dtk ks) fun ds => k (.dct ds) (os.set j .dead)
    | some (.ins C fs) => optP (dtf fs) fun ds => k (.ins C ds) (os.set j .dead)
    | _ => False
def dFrz (a : DE) : DE := fun sl os Q Ex => a sl os (fun x os1 => frzGo os1 x fun d os2 => Q (.d d) os2) Ex
theorem dtf_rep {K : PySem.W.Frag} {G : Hp} {ρ : List Addr} : ∀ {vs : List (Str × V)} {xs : List (Str × Ov)} {ds : List (Str × Dt)}, Paired (fun p q => p.1 = q.1 ∧ OvR K G ρ p.2 q.2) vs xs → dtf xs = some ds → RepF K G vs ds
  | _, _, _, .nil, e => by
    obtain rfl := Option.some.inj e
    exact .nil
  | (a, v) :: _, (k, .d x) :: xs, ds, .cons ⟨h0, h⟩ t, e => by
    have h0 : a = k := h0
    subst h0
    have e2 : (dtf xs).map ((a, x) :: ·) = some ds := e
    cases q : dtf xs with
    | none => rw [q] at e2; cases e2
    | some es =>
      rw [q] at e2
      obtain rfl := Option.some.inj e2
      exact .cons h (dtf_rep t q)
  | _, (_, .o _) :: _, _, .cons _ _, e => nomatch e
theorem frz_ok {K : PySem.W.Frag} {W : Wd} {G H : Hp} {ρ : List Addr} {os : List OO} {v : V} {x : Ov} {k : Dt → List OO → Prop} (w : Wo K W G ρ H os) (r : OvR K G ρ v x) (h : frzGo os x k) : ∃ d G' os', k d os' ∧ Wo K W G' ρ H os' ∧ Same G G' ∧ Rep K G' v d := by
  cases x with
  | d x => exact ⟨x, G, os, h, w, Same.refl _, r⟩
  | o j =>
    obtain ⟨a, ha, rfl⟩ := r
    unfold frzGo at h
    cases e : os[j]? with
    | none => simp only [e] at h
    | some o =>
      cases o with
      | dead => simp only [e] at h
      | tbl P q => simp only [e] at h
      | lst xs =>
        simp only [e] at h
        obtain ⟨ds, e2, h⟩ := h.get
        rcases w.ob j a _ ha e with z | ⟨live, vs, hv, pr, hl⟩
        · cases z.1
        · obtain ⟨w2, g⟩ := w.freeze ha live hv
          exact ⟨_, _, _, h, w2, g, Rep.lst upd_same ((dts_rep pr e2).mono g) (by rw [dts_len e2]; exact hl)⟩
      | dct ks =>
        simp only [e] at h
        obtain ⟨ds, e2, h⟩ := h.get
        rcases w.ob j a _ ha e with z | ⟨live, vs, hv, pr⟩
        · cases z.1
        · obtain ⟨w2, g⟩ := w.freeze ha live hv
          exact ⟨_, _, _, h, w2, g, Rep.dct (.inl upd_same) ((dtk_rep pr e2).mono g)⟩
      | ins C fs =>
        simp only [e] at h
        obtain ⟨ds, e2, h⟩ := h.get
        rcases w.ob j a _ ha e with z | ⟨live, dx, vs, hv, pr⟩
        · cases z.1
        · obtain ⟨w2, g⟩ := w.freeze ha live hv
          exact ⟨_, _, _, h, w2, g, Rep.ins upd_same ((dtf_rep pr e2).mono g)⟩
theorem pd_frz {X : Cx} {Z : Zs} {E : XK} {e : Expr} {da : DE} (h : PD X Z E e da) : PD X Z E e (dFrz da) := PE.weak h fun σ H Q ⟨W, G, ρ, sl, os, Qd, Ex, p, q⟩ => by
  refine ⟨W, G, ρ, sl, os, _, Ex, ⟨p.wo, p.sl, p.ek, fun x os' v G' ρ' H' a b c r => ?_⟩, q⟩
  obtain ⟨d, G2, os2, hk, w2, g2, r2⟩ := frz_ok b r a
  exact p.po _ _ _ _ _ _ hk w2 (c.trans (Ext.of g2)) r2
theorem Wo.same {K : PySem.W.Frag} {W : Wd} {G H H' : Hp} {ρ : List Addr} {os : List OO} (h : Wo K W G ρ H os) (e : Same H H') : Wo K W G ρ H' os := by
  refine ⟨fun b u q => noT_of (e _ _ (h.gh _ _ q)) (noT_no (h.gn _ _ q)), h.len, h.nd, fun k a o ha ho => (h.ob k a o ha ho).imp id fun q => ⟨q.1, OOR.mono Ext.refl ?_ q.2⟩, fun a o q m => e _ _ (h.fr a o q m), h.ow, fun a ha => let ⟨o, q⟩ := h.tr a ha; ⟨o, e _ _ q⟩, fun a ha => let ⟨x1, x2, o, q⟩ := h.ex a ha; ⟨x1, x2, o, e _ _ q.1, q.2⟩⟩
  obtain ⟨u, hu⟩ := h.tr a (mem_of ha)
  rw [e _ _ hu, hu]
def dRaise (r : Str × List Str) (a : DA) : DS := fun DD sl os => a sl os (fun xs os1 => asL (dts xs) fun ds => ds.length = r.2.length ∧ DD.ex (r, ds) os1) DD.ex
theorem psd_raise {X : Cx} {Z : Zs} {E : XK} {C : Addr} {st : Stmt} {c : Str} {fs : List Str} {dr : DA} (T : XC X.K C) (q0 : xqB X.K C Z.L Z.M Z.N fs = true) (hr : (c, fs) ∈ rows) (h : PS X st (fun _ σ H => tMkX C (spI X.K C (c, fs)) (lift X.K Z E (RA X.K) dr) σ H fun cls d H' => E cls d H')) : PSD X Z E st (dRaise (c, fs) dr) :=
  PS.weak h fun D σ H ⟨W, G, ρ, sl, os, DD, w, s, l, q⟩ => l.bind (RS := RA X.K) w s _ q fun xs os1 vs G1 ρ1 H1 q1 w1 s1 l1 r1 e1 => by
    obtain ⟨ds, e, hl, q2⟩ := dts_get q1
    have ra := dts_rep r1 e
    refine raise_full T q0 hr (ra.len.trans hl) fun cls d H' rs sm => ?_
    exact l1.ex _ _ _ _ _ _ _ _ _ q2 (w1.same sm) Ext.refl rs ra
end De
namespace De
open PySem L2 Bl
def EntAt (K : PySem.W.Frag) (e : DictEntry) (q : Str × Dt) : Prop := (∃ t, e.key = .str q.1 t) ∧ ∃ v, RelV v e.val ∧ ∀ G, Rep K G v q.2
structure TabAt (K : PySem.W.Frag) (w : World) (p : Addr) (tbl : List (Str × Dt)) : Prop where
  ex : ∃ es n, KDict K w p es n ∧ Paired (EntAt K) es.toList tbl
theorem beq_swap (a b : Str) : (a == b) = (b == a) := by
  by_cases e : a = b
  · rw [e]
  · rw [beq_eq_false_iff_ne.mpr e, beq_eq_false_iff_ne.mpr (Ne.symm e)]
section
variable {K : PySem.W.Frag} {w : World} {p : Addr} {tbl : List (Str × Dt)} {z : Str}
theorem tab_find : ∀ {es : List DictEntry} {tbl : List (Str × Dt)}, Paired (EntAt K) es tbl → match tbl.lookup z with
    | some d => ∃ e v, es.find? (·.key.isStr z) = some e ∧ RelV v e.val ∧ ∀ G, Rep K G v d
    | none => es.find? (·.key.isStr z) = none
  | _, _, .nil => rfl
  | e :: es, (x, d) :: tbl, .cons ⟨⟨t, h0⟩, v, rv, rp⟩ r => by
    have h0 : e.key = .str x t := h0
    have hk : e.key.isStr z = (x == z) := by rw [h0]; rfl
    have ih := tab_find r
    rw [List.lookup_cons, beq_swap z x, List.find?_cons, hk]
    by_cases q : (x == z) = true
    · rw [q]
      exact ⟨e, v, rfl, rv, rp⟩
    · rw [Bool.eq_false_iff.mpr q]
      exact ih
theorem tab_ref : ∀ {es : List DictEntry} {tbl : List (Str × Dt)}, Paired (EntAt K) es tbl → es.any (·.refKey) = false
  | _, _, .nil => rfl
  | e :: es, _ :: tbl, .cons ⟨⟨t, h0⟩, _⟩ r => by
    rw [List.any_cons, tab_ref r, Bool.or_false]
    show DictEntry.refKey e = false
    unfold DictEntry.refKey
    rw [h0]
theorem TabAt.at_ (h : TabAt K w p tbl) (z : Str) : ∃ es n, KDict K w p es n ∧ match tbl.lookup z with
    | some d => ∃ u v, PySem.W.nsIn K p z = some (some u) ∧ RelV v u ∧ ∀ G, Rep K G v d
    | none => PySem.W.nsIn K p z = some none := by
  obtain ⟨es, n, D, pr⟩ := h.ex
  refine ⟨es, n, D, ?_⟩
  have f := tab_find (z := z) pr
  have g := tab_ref pr
  cases e : tbl.lookup z with
  | some d =>
    rw [e] at f
    obtain ⟨e1, v, f, r1, r2⟩ := f
    refine ⟨e1.val, v, ?_, r1, r2⟩
    unfold PySem.W.nsIn
    rw [D.at_]
    dsimp only
    rw [f]
  | none =>
    rw [e] at f
    show PySem.W.nsIn K p z = some none
    unfold PySem.W.nsIn
    rw [D.at_]
    dsimp only
    rw [show List.find? (fun x => x.key.isStr z) es.toList = none from f]
    dsimp only
    rw [show (es.toList.any fun x => x.refKey) = false from g]
    rfl
end
def opTab (p : Addr) (tbl : List (Str × Dt)) : G2 := fun d e k => match d, e with
  | .raw (.ref a), .str z => a = p ∧ optP (tbl.lookup z) k
  | _, _ => False
def opInTab (neg : Bool) (p : Addr) (tbl : List (Str × Dt)) : G2 := fun d e k => match d, e with
  | .str z, .raw (.ref a) => a = p ∧ k (.bl (neg != (tbl.lookup z).isSome))
  | _, _ => False
section
variable {X : Cx} {Z : Zs} {E E' : XK} {e a b : Expr} {es : List Expr} {da db de : DE} {dr dk : DA} {p : Addr} {tbl : List (Str × Dt)} {n m N i : Nat} {F : FD} {f C : Addr}
theorem ix_tab (h : TabAt X.K X.w p tbl) : IxD X (opTab p tbl) := by
  refine ⟨_, ix_kdict, fun W G ρ H os v u d e Q k w s1 s2 hg hk => ?_⟩
  unfold opTab at hg
  split at hg
  · rename_i a z
    obtain ⟨rfl, hg⟩ := hg
    obtain ⟨d, hd, hg⟩ := hg.get
    cases s1
    cases s2
    obtain ⟨es, n, D, hz⟩ := h.at_ z
    rw [hd] at hz
    obtain ⟨u0, v, e1, r1, r2⟩ := hz
    exact ⟨_, z, v, rfl, rfl, ⟨es, n, u0, D.at_, D.lit, e1, r1⟩, hk d hg v G H (Same.refl _) w (r2 G)⟩
  · exact hg.elim
theorem od_notInTab (h : TabAt X.K X.w p tbl) : OpD X (compareOp .NotIn) (opInTab true p tbl) := by
  obtain ⟨es, n, D, _⟩ := h.ex
  refine ⟨_, op_notIn_kd D, fun W G ρ H os v u d e Q k w s1 s2 hg hk => ?_⟩
  unfold opInTab at hg
  split at hg
  · rename_i z a
    obtain ⟨rfl, hg⟩ := hg
    cases s1
    cases s2
    obtain ⟨es, n, D, hz⟩ := h.at_ z
    cases e : tbl.lookup z with
    | some d =>
      rw [e] at hz hg
      obtain ⟨u0, v, e1, r1, r2⟩ := hz
      exact ⟨z, _, rfl, rfl, e1, hk _ hg _ G H (Same.refl _) w (.bl _)⟩
    | none =>
      rw [e] at hz hg
      exact ⟨z, _, rfl, rfl, hz, hk _ hg _ G H (Same.refl _) w (.bl _)⟩
  · exact hg.elim
def dCallL (i : Nat) (f : Addr) (n : Nat) (F : FD) (r : DA) : DE := fun sl os Q Ex => sl[i]? = some (some (.d (.raw (.ref f)))) ∧ r sl os (fun xs os1 => xs.length = n ∧ F xs os1 Q noX) Ex
theorem pd_callL (h : PE X e (tCallL i f (spD X.K Z n F) [] E' (lift X.K Z E (RA X.K) dr))) : PD X Z E e (dCallL i f n F dr) :=
  pd_of h fun σ H Q W G ρ sl os Qd Ex p ⟨hs, q⟩ => by
    obtain ⟨v, hv, rv⟩ := p.sl.at_ i _ hs
    have rv : Rep X.K G v (.raw (.ref f)) := rv
    cases rv
    refine ⟨hv, p.bind (RS := RA X.K) _ q fun xs os1 vs G1 ρ1 H1 q1 p1 r1 e1 => ?_⟩
    rw [List.append_nil]
    exact ⟨W, G1, ρ1, os1, xs, Qd, noX, p1.wo, r1, q1.1, EKr.no, q1.2, fun x os' v G' ρ' H' a b c d => p1.po x os' v G' ρ' H' a b c d⟩
abbrev PKD (X : Cx) (Z : Zs) (E : XK) (kws : List Keyword) (d : DA) : Prop := PK X kws (lift X.K Z E (RA X.K) d)
theorem PK.weak {X : Cx} {e : List Keyword} {t t' : TA} (h : PK X e t) (k : ∀ σ H Q, t' σ H Q → t σ H Q) : PK X e t' := ⟨fun pos pins s σ H Q I q => h.run pos pins s σ H Q I (k _ _ _ q)⟩
theorem pkd_nil : PKD X Z E [] dNil := PK.weak pk_nil fun σ H Q ⟨W, G, ρ, sl, os, Qd, Ex, p, q⟩ => p.end_ (v := []) q .nil
theorem pkd_cons {kws : List Keyword} {k : Keyword} (h : PK X (k :: kws) (tCons (lift X.K Z E (RE X.K) da) (lift X.K Z E (RA X.K) dr))) : PKD X Z E (k :: kws) (dCons da dr) := PK.weak h fun σ H Q ⟨W, G, ρ, sl, os, Qd, Ex, p, q⟩ =>
  p.bind (RS := RE X.K) _ q fun x os1 v G1 ρ1 H1 q1 p1 r1 e1 => p1.bind (RS := RA X.K) _ q1 fun xs os2 us G2 ρ2 H2 q2 p2 r2 e2 => p2.end_ (v := v :: us) q2 (.cons (OvR.mono e2 r1) r2)
/-- C(e, .., k = v, ..) -/
def dMakeK (C : Addr) (n m N : Nat) (F : FD) (gD : List Ov → List Ov → List Ov) (r rk : DA) : DE := fun sl os Q Ex => r sl os (fun xs os1 => rk sl os1 (fun ys os2 => xs.length = n ∧ ys.length = m ∧ (gD (.o os2.length :: xs) ys).length = N ∧
  F (gD (.o os2.length :: xs) ys) (os2 ++ [.ins C []]) (fun v os3 => v = .d .non ∧ Q (.o os2.length) os3) Ex) Ex) Ex
theorem pd_makeK {gV : List V → List V → List V} {gD : List Ov → List Ov → List Ov} (h : PE X e (tMakeK C n m (spD X.K Z N F) gV E (lift X.K Z E (RA X.K) dr) (lift X.K Z E (RA X.K) dk)))
    (hg : ∀ (G : Hp) (ρ : List Addr) (vs zs : List V) (xs ys : List Ov), Paired (OvR X.K G ρ) vs xs → Paired (OvR X.K G ρ) zs ys → vs.length = n + 1 → zs.length = m → Paired (OvR X.K G ρ) (gV vs zs) (gD xs ys)) : PD X Z E e (dMakeK C n m N F gD dr dk) :=
  pd_of h fun σ H Q W G ρ sl os Qd Ex p q => p.bind (RS := RA X.K) _ q fun xs os1 vs G1 ρ1 H1 q1 p1 r1 e1 => p1.bind (RS := RA X.K) _ q1 fun ys os2 zs G2 ρ2 H2 q2 p2 r2 e2 => by
    obtain ⟨hx, hy, hN, hF⟩ := q2
    have l1 : vs.length = n := (pairs_len r1).trans hx
    have l2 : zs.length = m := (pairs_len r2).trans hy
    refine ⟨l1, l2, fun x dx hx hdx ne => ?_⟩
    obtain ⟨w1, g1⟩ := p2.wo.new hdx (.own x)
    have hx1 : upd H2 dx (.own x) x = none := by rw [upd_ne ne.symm]; exact hx
    obtain ⟨w2, e2'⟩ := w1.obj hx1 (o := .ins C dx []) (x := .ins C []) fun e => ⟨dx, [], upd_same, .nil⟩
    have e3 := (Ext.of g1).trans e2'
    refine ⟨W, _, _, _, _, _, Ex, w2, hg _ _ _ _ _ _ (.cons (b := .o os2.length) (show OvR X.K _ _ (.ref x) (.o os2.length) from ⟨x, at_last p2.wo.len, rfl⟩) (OvRs.mono (e2.trans e3) r1)) (OvRs.mono e3 r2) (by rw [List.length_cons, l1]) l2, hN, p2.ek.mono e3, hF, ?_⟩
    rintro y os' v G' ρ' H' ⟨rfl, q2⟩ w' e' r'
    cases r'
    refine ⟨rfl, p2.po _ _ _ _ _ _ q2 w' (e3.trans e') ?_⟩
    obtain ⟨l, rfl⟩ := e'.r
    refine ⟨x, ?_, rfl⟩
    rw [List.getElem?_append_left (by rw [List.length_append, p2.wo.len]; exact Nat.lt_succ_self _)]
    exact at_last p2.wo.len
def lstAt (os : List OO) (x : Ov) (k : Nat → List Ov → Prop) : Prop := match x with
  | .o j => (match os[j]? with
    | some (.lst xs) => k j xs
    | _ => False)
  | _ => False
theorem lst_at {K : PySem.W.Frag} {W : Wd} {G H : Hp} {ρ : List Addr} {os : List OO} {v : V} {x : Ov} {k : Nat → List Ov → Prop} (w : Wo K W G ρ H os) (r : OvR K G ρ v x) (h : lstAt os x k) :
    ∃ j a vs xs, x = .o j ∧ v = .ref a ∧ ρ[j]? = some a ∧ os[j]? = some (.lst xs) ∧ G a = none ∧ H a = some (.lst vs) ∧ Paired (OvR K G ρ) vs xs ∧ k j xs := by
  cases x with
  | d x => exact h.elim
  | o j =>
    obtain ⟨a, ha, rfl⟩ := r
    unfold lstAt at h
    cases e : os[j]? with
    | none => simp only [e] at h
    | some o =>
      cases o with
      | lst xs =>
        simp only [e] at h
        rcases w.ob j a _ ha e with z | ⟨live, vs, hv, pr, hl⟩
        · cases z.1
        · exact ⟨j, a, vs, xs, rfl, rfl, ha, e, live, hv, pr, h⟩
      | _ => simp only [e] at h
def dAppE (a : DE) (r : DA) : DE := fun sl os Q Ex => a sl os (fun x os1 => lstAt os1 x fun _ _ => r sl os1 (fun ys os2 => lstAt os2 x fun j xs => match ys with
  | [y] => xs.length < sizeLine ∧ Q (.d .non) (os2.set j (.lst (xs ++ [y])))
  | _ => False) Ex) Ex
theorem pd_appendE (h : PE X e (tBM X.K "list" rAppend (lift X.K Z E (RE X.K) da) (lift X.K Z E (RA X.K) dr))) : PD X Z E e (dAppE da dr) :=
  pd_of h fun σ H Q W G ρ sl os Qd Ex p q => p.bind (RS := RE X.K) _ q fun x os1 v G1 ρ1 H1 q1 p1 r1 e1 => by
    obtain ⟨j, a, vs, xs, rfl, rfl, ha, ho, live, hv, pr, q1⟩ := lst_at p1.wo r1 q1
    refine ⟨.inl ⟨rfl, _, SqL.of hv⟩, p1.bind (RS := RA X.K) _ q1 fun ys os2 us G2 ρ2 H2 q2 p2 r2 e2 => ?_⟩
    obtain ⟨j', a', vs, xs, hj, ea, ha, ho, live, hv, pr, q2⟩ := lst_at p2.wo (OvR.mono (x := .o j) e2 r1) q2
    cases ea
    cases hj
    match ys, q2, r2 with
    | [y], q2, .cons r2 .nil =>
      refine ⟨_, vs, _, rfl, rfl, hv, by rw [pairs_len pr]; exact q2.1, ?_⟩
      exact (p2.at (p2.wo.put (o := .lst (vs ++ [_])) (x := .lst (xs ++ [y])) ha ho live ⟨_, upd_same, pair_app pr (.cons r2 .nil), by rw [List.length_append]; exact q2.1⟩) Ext.refl).end_ q2.2 Rep.non
/-- l.insert(i, y) -/
def dInsE (a : DE) (r : DA) : DE := fun sl os Q Ex => a sl os (fun x os1 => lstAt os1 x fun _ _ => r sl os1 (fun ys os2 => lstAt os2 x fun j xs => match ys with
  | [.d (.int i), y] => xs.length < sizeLine ∧ 0 ≤ i ∧ i < 2 ^ 63 ∧ Q (.d .non) (os2.set j (.lst (xs.take i.toNat ++ [y] ++ xs.drop i.toNat)))
  | _ => False) Ex) Ex
theorem pair_take {α β : Type} {R : α → β → Prop} : ∀ (n : Nat) {l : List α} {m : List β}, Paired R l m → Paired R (l.take n) (m.take n)
  | 0, _, _, _ => .nil
  | _ + 1, _, _, .nil => .nil
  | n + 1, _, _, .cons h t => .cons h (pair_take n t)
theorem pair_drop {α β : Type} {R : α → β → Prop} : ∀ (n : Nat) {l : List α} {m : List β}, Paired R l m → Paired R (l.drop n) (m.drop n)
  | 0, _, _, h => h
  | _ + 1, _, _, .nil => .nil
  | n + 1, _, _, .cons _ t => pair_drop n t
theorem pd_insertE (h : PE X e (tBM X.K "list" (fun x vs H Q => ∃ (l : Addr) (xs : List V) (i : Int) (y : V), x = .ref l ∧ vs = [.int i, y] ∧ H l = some (.lst xs) ∧ xs.length < sizeLine ∧ 0 ≤ i ∧ i < 2 ^ 63 ∧ Q .non (upd H l (.lst (xs.take i.toNat ++ [y] ++ xs.drop i.toNat)))) (lift X.K Z E (RE X.K) da) (lift X.K Z E (RA X.K) dr))) : PD X Z E e (dInsE da dr) :=
  pd_of h fun σ H Q W G ρ sl os Qd Ex p q => p.bind (RS := RE X.K) _ q fun x os1 v G1 ρ1 H1 q1 p1 r1 e1 => by
    obtain ⟨j, a, vs, xs, rfl, rfl, ha, ho, live, hv, pr, q1⟩ := lst_at p1.wo r1 q1
    refine ⟨.inl ⟨rfl, _, SqL.of hv⟩, p1.bind (RS := RA X.K) _ q1 fun ys os2 us G2 ρ2 H2 q2 p2 r2 e2 => ?_⟩
    obtain ⟨j', a', vs, xs, hj, ea, ha, ho, live, hv, pr, q2⟩ := lst_at p2.wo (OvR.mono (x := .o j) e2 r1) q2
    cases ea
    cases hj
    match ys, q2, r2 with
    | [.d (.int n1), y], ⟨b1, b2, b3, b4⟩, .cons ri (.cons r2 .nil) =>
      have ri : Rep X.K G2 _ (.int n1) := ri
      cases ri
      refine ⟨_, vs, _, _, rfl, rfl, hv, by rw [pairs_len pr]; exact b1, b2, b3, ?_⟩
      refine (p2.at (p2.wo.put (o := .lst _) (x := .lst (xs.take n1.toNat ++ [y] ++ xs.drop n1.toNat)) ha ho live ⟨_, upd_same, pair_app (pair_app (pair_take _ pr) (.cons r2 .nil)) (pair_drop _ pr), ?_⟩) Ext.refl).end_ b4 Rep.non
      simp only [List.length_append, List.length_take, List.length_drop, List.length_cons, List.length_nil]
      omega
/-- l[i] = y -/
def dgSub (a b : DE) : DTg := fun y sl os k => a sl os (fun x os1 => b sl os1 (fun i os2 => lstAt os2 x fun j xs => match i with
  | .d (.int i) => 0 ≤ i ∧ i < xs.length ∧ k sl (os2.set j (.lst (xs.set i.toNat y)))
  | _ => False) noX) noX
def strsD : List Dt → Option (List Str)
  | [] => some []
  | .str z :: r => (strsD r).map (z :: ·)
  | _ :: _ => none
theorem strsD_rep {K : PySem.W.Frag} {G : Hp} : ∀ {ds : List Dt} {zs : List Str} {vs : List V}, strsD ds = some zs → RepAll K G vs ds → vs = zs.map .str
  | [], _, _, e, .nil => by
    obtain rfl := Option.some.inj e
    rfl
  | .str z :: ds, zs, _, e, .cons r t => by
    have e2 : (strsD ds).map (z :: ·) = some zs := e
    cases q : strsD ds with
    | none => rw [q] at e2; cases e2
    | some us =>
      rw [q] at e2
      obtain rfl := Option.some.inj e2
      cases r
      rw [strsD_rep q t]
      rfl
def dIndexL (a : DE) (r : DA) : DE := fun sl os Q Ex => a sl os (fun x os1 => (match x with | .d (.lst _) => True | _ => False) ∧ r sl os1 (fun ys os2 => match x, ys with
  | .d (.lst ds), [.d (.str z)] => optP (strsD ds) fun zs => z ∈ zs ∧ Q (.d (.int (zs.idxOf z : Nat))) os2
  | _, _ => False) Ex) Ex
theorem idx_at (z : Str) : ∀ (zs : List Str), z ∈ zs → zs[zs.idxOf z]? = some z ∧ ∀ m, m < zs.idxOf z → zs[m]? ≠ some z
  | [], h => by cases h
  | x :: zs, h => by
    by_cases e : x = z
    · subst e
      rw [List.idxOf_cons_self]
      exact ⟨rfl, fun m hm => absurd hm (Nat.not_lt_zero _)⟩
    · rw [show List.idxOf z (x :: zs) = List.idxOf z zs + 1 by rw [List.idxOf_cons, beq_eq_false_iff_ne.mpr e]; rfl]
      have h2 : z ∈ zs := by
        cases h with
        | head => exact absurd rfl e
        | tail _ h => exact h
      obtain ⟨a, b⟩ := idx_at z zs h2
      refine ⟨a, fun m hm => ?_⟩
      cases m with
      | zero => exact fun q => e (Option.some.inj q)
      | succ m => exact b m (Nat.lt_of_succ_lt_succ hm)
theorem pd_indexL (h : PE X e (tBM X.K "list" (rIndex X.K) (lift X.K Z E (RE X.K) da) (lift X.K Z E (RA X.K) dr))) : PD X Z E e (dIndexL da dr) :=
  pd_of h fun σ H Q W G ρ sl os Qd Ex p q => p.bind (RS := RE X.K) _ q fun x os1 v G1 ρ1 H1 q1 p1 r1 e1 => by
    obtain ⟨hx, q1⟩ := q1
    split at hx
    · rename_i ds
      have r1 : Rep X.K G1 v (.lst ds) := r1
      cases r1 with
      | @lst a vs _ hG hr hsz =>
        refine ⟨.inl ⟨rfl, _, SqL.of (p1.wo.gh _ _ hG)⟩, p1.bind (RS := RA X.K) _ q1 fun ys os2 us G2 ρ2 H2 q2 p2 r2 e2 => ?_⟩
        split at q2
        · rename_i ds' z hd
          cases hd
          obtain ⟨zs, hz, q3⟩ := q2.get
          obtain ⟨hm, q4⟩ := q3
          obtain ⟨ia, ib⟩ := idx_at z zs hm
          match r2 with
          | .cons rz .nil =>
            cases rz
            have ev := strsD_rep hz hr
            subst ev
            refine ⟨a, zs.map .str, .str z, zs.idxOf z, .str z, rfl, rfl, SqL.of (p2.wo.gh _ _ (e2.g _ _ hG)), rfl, ?_, ?_, ?_, ?_, p2.end_ q4 (.int _)⟩
            · rw [List.all_eq_true]
              intro y hy
              obtain ⟨z', _, rfl⟩ := List.mem_map.mp hy
              rfl
            · rw [List.getElem?_map, ia]
              rfl
            · show eqV (.str z) (.str z) = true
              simp [eqV]
            · intro m z' hm hz'
              rw [List.getElem?_map] at hz'
              cases e : zs[m]? with
              | none => rw [e] at hz'; cases hz'
              | some y =>
                rw [e] at hz'
                obtain rfl := Option.some.inj hz'
                have ne : y ≠ z := fun q => ib m hm (by rw [e, q])
                simp [eqV, ne]
        · exact q2.elim
    · exact hx.elim
/-- a value of the class itself -/
theorem pd_cval {mc : Value} {f : Str} {v : V} {u : Value} {d : Dt} (r : ClX.CRead X.K C mc) (k : ClX.CVal X.K C mc f v u) (hr : ∀ G : Hp, Rep X.K G v d) (h : PE X e (ClX.tCVal X.K (tC (.ref C)) f)) : PD X Z E e (dC d) :=
  pd_of h fun σ H Q W G ρ sl os Qd Ex p q => ⟨C, mc, v, u, rfl, r, k, p.end_ q (hr G)⟩
end
end De
namespace De
open PySem L2 Bl
def okK : Key → Prop
  | .inl _ => True
  | .inr z => okz z
def keyT : Key → Dt
  | .inl i => .int i
  | .inr z => .str z
theorem rep_key {K : PySem.W.Frag} {G : Hp} : ∀ {k : Key}, okK k → Rep K G (kV k) (keyT k)
  | .inl i, _ => .int i
  | .inr z, h => .str z h
def Frz1 (G G' : Hp) : Prop := ∀ a, G' a = G a ∨ ∃ kvs, Rd G a (.dK kvs) ∧ Rd G' a (.dK kvs)
section
variable {K : PySem.W.Frag} {G G' : Hp}
def NotD : HO → Prop
  | .dK _ => False
  | .frz _ (.dK _) => False
  | _ => True
theorem Frz1.keep (e : Frz1 G G') {a : Addr} {u : HO} (h : G a = some u) (n : NotD u) : G' a = some u := by
  rcases e a with q | ⟨kvs, q | ⟨o, q⟩, _⟩
  · rw [q]
    exact h
  · rw [h] at q
    obtain rfl := Option.some.inj q
    exact n.elim
  · rw [h] at q
    obtain rfl := Option.some.inj q
    exact n.elim
theorem lam_frz (e : Frz1 G G') {L : LamI} {f : Addr} (h : LamAt L G f) : LamAt L G' f := by
  obtain ⟨c', pm, ctv, doc, dV, h1, h2, h3⟩ := h
  refine ⟨c', pm, ctv, doc, dV, e.keep h1 trivial, e.keep h2 trivial, ?_⟩
  cases hb : L.nd with
  | false =>
    rw [hb] at h3
    exact h3
  | true =>
    rw [hb] at h3
    obtain ⟨T, tk, z1, z2⟩ := h3
    exact ⟨T, tk, z1, e.keep z2 trivial⟩
theorem Frz1.tup (e : Frz1 G G') {a : Addr} {vs : List V} (h : SqT K G a vs) : SqT K G' a vs := by
  rcases h with (h | ⟨o, h⟩) | h
  · exact .inl (.inl (e.keep h trivial))
  · exact .inl (.inr ⟨o, e.keep h trivial⟩)
  · exact .inr h
theorem Frz1.dct (e : Frz1 G G') {a : Addr} {kvs : List (Key × V)} (h : Rd G a (.dK kvs)) : Rd G' a (.dK kvs) := by
  rcases e a with q | ⟨kvs', q, q'⟩
  · exact h.elim (fun z => .inl (q.trans z)) fun ⟨o, z⟩ => .inr ⟨o, q.trans z⟩
  · have : kvs' = kvs := by
      rcases h with h | ⟨o, h⟩ <;> rcases q with q | ⟨o', q⟩ <;> rw [h] at q <;> cases q <;> rfl
    exact this ▸ q'
mutual
theorem Rep.frz (e : Frz1 G G') : ∀ {v : V} {d : Dt}, Rep K G v d → Rep K G' v d
  | _, _, .non => .non
  | _, _, .bl b => .bl b
  | _, _, .int b => .int b
  | _, _, .str b h => .str b h
  | _, _, .raw b => .raw b
  | _, _, .lam L h => .lam L (lam_frz e h)
  | _, _, .lst h k l => .lst (e.keep h trivial) (RepAll.frz e k) l
  | _, _, .tup h k l => .tup (e.tup h) (RepAll.frz e k) l
  | _, _, .dct h k => .dct (e.dct h) (RepK.frz e k)
  | _, _, .ins h k => .ins (e.keep h trivial) (RepF.frz e k)
theorem RepAll.frz (e : Frz1 G G') : ∀ {v : List V} {d : List Dt}, RepAll K G v d → RepAll K G' v d
  | _, _, .nil => .nil
  | _, _, .cons h k => .cons (Rep.frz e h) (RepAll.frz e k)
theorem RepK.frz (e : Frz1 G G') : ∀ {v : List (Key × V)} {d : List (Key × Dt)}, RepK K G v d → RepK K G' v d
  | _, _, .nil => .nil
  | _, _, .cons h k => .cons (Rep.frz e h) (RepK.frz e k)
theorem RepF.frz (e : Frz1 G G') : ∀ {v : List (Str × V)} {d : List (Str × Dt)}, RepF K G v d → RepF K G' v d
  | _, _, .nil => .nil
  | _, _, .cons h k => .cons (Rep.frz e h) (RepF.frz e k)
end
theorem OvR.frz (e : Frz1 G G') {ρ : List Addr} {v : V} {x : Ov} (h : OvR K G ρ v x) : OvR K G' ρ v x := by
  cases x with
  | d x => exact Rep.frz e h
  | o k => exact h
theorem OOR.frz (e : Frz1 G G') {ρ : List Addr} {H H' : Hp} {a : Addr} (k : H' a = H a) {o : OO} (h : OOR K G ρ H a o) : OOR K G' ρ H' a o := by
  cases o with
  | dead => exact h
  | lst xs =>
    obtain ⟨vs, q, p, l⟩ := h
    exact ⟨vs, k.trans q, pair_mono (fun _ _ => OvR.frz e) p, l⟩
  | dct ks =>
    obtain ⟨vs, q, p⟩ := h
    exact ⟨vs, k.trans q, pair_mono (fun _ _ z => ⟨z.1, OvR.frz e z.2⟩) p⟩
  | ins C fs =>
    obtain ⟨dx, vs, q, p⟩ := h
    exact ⟨dx, vs, k.trans q, pair_mono (fun _ _ z => ⟨z.1, OvR.frz e z.2⟩) p⟩
  | tbl P q =>
    obtain ⟨e0, ps, h1, h2, h3⟩ := h
    exact ⟨e0, ps, k.trans h1, h2, fun pos cv hc => let ⟨c, e1, e2⟩ := h3 pos cv hc; ⟨c, e1, e.keep e2 trivial⟩⟩
theorem SlR.frz (e : Frz1 G G') {ρ : List Addr} {σ : St} {sl : Sl} (h : SlR K G ρ σ sl) : SlR K G' ρ σ sl := ⟨h.len, fun i x q => let ⟨v, a, b⟩ := h.at_ i x q; ⟨v, a, b.frz e⟩⟩
end
section
variable {K : PySem.W.Frag} {W : Wd} {G H : Hp} {ρ : List Addr} {os : List OO} {d : Addr} {kvs : List (Key × V)} {od : Obj}
theorem frz_in (hd : G d = some (.dK kvs)) : Frz1 G (upd G d (.frz od (.dK kvs))) := fun a => by
  by_cases e : a = d
  · subst e
    exact .inr ⟨kvs, .inl hd, .inr ⟨od, upd_same⟩⟩
  · exact .inl (upd_ne e)
theorem frz_out (hd : G d = some (.frz od (.dK kvs))) : Frz1 G (upd G d (.dK kvs)) := fun a => by
  by_cases e : a = d
  · subst e
    exact .inr ⟨kvs, .inr ⟨od, hd⟩, .inl upd_same⟩
  · exact .inl (upd_ne e)
theorem Wo.lock (h : Wo K W G ρ H os) (hd : G d = some (.dK kvs)) (od : Obj) : Wo K ⟨upd H d (.frz od (.dK kvs)), ρ, W.X⟩ (upd G d (.frz od (.dK kvs))) ρ (upd H d (.frz od (.dK kvs))) os := by
  refine ⟨fun b u q => ?_, h.len, h.nd, fun k a o ha ho => ?_, fun _ _ q _ => noT_le _ _ q, fun a q => .inl q, fun a ha => ?_, fun a ha => ?_⟩
  · by_cases e : b = d
    · subst e
      rw [upd_same] at q
      rw [noT_at (by intro _ z; cases z)]
      exact q
    · rw [upd_ne e] at q
      rw [noT_ne e]
      exact h.gn _ _ q
  · rcases h.ob k a o ha ho with ⟨q, u, hu⟩ | ⟨q1, q2⟩
    · refine .inl ⟨q, ?_⟩
      by_cases e : a = d
      · subst e
        exact ⟨_, upd_same⟩
      · exact ⟨u, by rw [upd_ne e]; exact hu⟩
    · have ne : a ≠ d := fun z => by rw [z, hd] at q1; cases q1
      exact .inr ⟨by rw [upd_ne ne]; exact q1, OOR.frz (frz_in hd) (upd_ne ne) q2⟩
  · obtain ⟨u, q⟩ := h.tr a ha
    by_cases e : a = d
    · subst e
      exact ⟨_, upd_same⟩
    · exact ⟨u, by rw [upd_ne e]; exact q⟩
  · obtain ⟨x1, x2, u, q⟩ := h.ex a ha
    have ne : a ≠ d := fun z => by rw [z, hd] at x1; cases x1
    exact ⟨by rw [upd_ne ne]; exact x1, x2, u, by rw [upd_ne ne]; exact q⟩
theorem Wo.unlock {G' H' : Hp} {ρ' : List Addr} {os' : List OO} (h : Wo K W G ρ H os) (hd : G d = some (.dK kvs)) (k : Wo K ⟨upd H d (.frz od (.dK kvs)), ρ, W.X⟩ G' ρ' H' os') (e : Ext (upd G d (.frz od (.dK kvs))) ρ G' ρ') :
    G' d = some (.frz od (.dK kvs)) ∧ H' d = some (.frz od (.dK kvs)) ∧ Wo K W (upd G' d (.dK kvs)) ρ' (upd H' d (.dK kvs)) os' ∧ Ext G ρ (upd G' d (.dK kvs)) ρ' := by
  have gd : G' d = some (.frz od (.dK kvs)) := e.g _ _ upd_same
  have hd' := k.gh _ _ gd
  refine ⟨gd, hd', ⟨fun b u q => ?_, k.len, k.nd, fun j a o ha ho => ?_, fun a u q m => ?_, fun a ha => ?_, fun a ha => ?_, fun a ha => ?_⟩, ⟨fun b u q => ?_, e.r⟩⟩
  · by_cases eb : b = d
    · subst eb
      rw [upd_same] at q
      rw [noT_at (by intro _ z; cases z)]
      exact q
    · rw [upd_ne eb] at q
      rw [noT_ne eb]
      exact k.gn _ _ q
  · rcases k.ob j a o ha ho with ⟨q, u, hu⟩ | ⟨q1, q2⟩
    · refine .inl ⟨q, ?_⟩
      by_cases eb : a = d
      · subst eb
        exact ⟨_, upd_same⟩
      · exact ⟨u, by rw [upd_ne eb]; exact hu⟩
    · have ne : a ≠ d := fun z => by rw [z, gd] at q1; cases q1
      exact .inr ⟨by rw [upd_ne ne]; exact q1, OOR.frz (frz_out gd) (upd_ne ne) q2⟩
  · have q2 := h.fr a u q m
    by_cases ea : a = d
    · subst ea
      rw [h.gh _ _ hd] at q2
      rw [upd_same]
      exact q2
    · rw [upd_ne ea]
      refine k.fr a u (by show noT (upd H d (.frz od (.dK kvs))) a = _; rw [noT_ne ea]; exact noT_of q2 (noT_no q)) fun z => ?_
      rcases h.ow a z with w | w
      · exact m w
      · rw [w] at q
        cases q
  · rcases k.ow a ha with w | w
    · exact h.ow a w
    · have w : noT (upd H d (.frz od (.dK kvs))) a = none := w
      cases e0 : noT W.H0 a with
      | none => exact .inr rfl
      | some u =>
        by_cases m : a ∈ W.M
        · exact .inl m
        · have q2 := h.fr a u e0 m
          by_cases ea : a = d
          · subst ea
            rw [noT_at (by intro _ z; cases z)] at w
            cases w
          · rw [noT_ne ea, noT_of q2 (noT_no e0)] at w
            cases w
  · obtain ⟨u, q⟩ := k.tr a ha
    by_cases ea : a = d
    · subst ea
      exact ⟨_, upd_same⟩
    · exact ⟨u, by rw [upd_ne ea]; exact q⟩
  · obtain ⟨x1, x2, u, q⟩ := k.ex a ha
    have ne : a ≠ d := fun z => by rw [z, gd] at x1; cases x1
    exact ⟨by rw [upd_ne ne]; exact x1, x2, u, by rw [upd_ne ne]; exact q⟩
  · by_cases eb : b = d
    · subst eb
      rw [hd] at q
      rw [upd_same]
      exact q
    · rw [upd_ne eb]
      exact e.g _ _ (by rw [upd_ne eb]; exact q)
theorem repk_get : ∀ {kvs : List (Key × V)} {ks : List (Key × Dt)} {i : Nat} {k : Key} {v : V}, RepK K G kvs ks → kvs[i]? = some (k, v) → ∃ d, ks[i]? = some (k, d)
  | _, _, _, _, _, .nil, q => by cases q
  | _, _, 0, _, _, .cons _ _, q => by
    cases q
    exact ⟨_, rfl⟩
  | _, _, i + 1, _, _, .cons _ r, q => repk_get (i := i) r q
theorem ri_keys {ks : List (Key × Dt)} {o : Obj} (h : G d = some (.frz o (.dK kvs))) (r : RepK K G kvs ks) (hk : ∀ p ∈ ks, okK p.1) (hl0 : ks.length ≤ sizeLine) : RI K G ρ (Itk d o kvs) (ks.map fun p => keyT p.1) := ⟨by rw [List.length_map]; exact hl0, fun W G' ρ' H os i s w => by
  have hl : H d = some (.frz o (.dK kvs)) := w.gh _ _ (s _ _ h)
  have len : kvs.length = ks.length := repk_len r
  refine ⟨fun hi => ⟨⟨hl, by rw [len]; rwa [List.length_map] at hi⟩, ?_⟩, fun hi => ⟨hl, by rw [len]; rwa [List.length_map] at hi⟩⟩
  rintro x H' ⟨rfl, k, v, hq, rfl⟩
  obtain ⟨dd, hdd⟩ := repk_get r hq
  exact ⟨keyT k, G', by rw [List.getElem?_map, hdd]; rfl, Same.refl _, w, rep_key (hk _ (List.mem_of_getElem? hdd))⟩⟩
end
abbrev FX := Sl → List OO → (Ov → Prop) → Prop
structure FixD (X : Cx) (t : TE) (fx : FX) : Prop where
  at_ : ∀ (W : Wd) (G : Hp) (ρ : List Addr) (H : Hp) (os : List OO) (σ : St) (sl : Sl) (k : Ov → Prop), Wo X.K W G ρ H os → SlR X.K G ρ σ sl → fx sl os k →
    ∃ v x, k x ∧ OvR X.K G ρ v x ∧ ∀ (H' : Hp) (Q : VK), (∀ a C dx vs, H a = some (.ins C dx vs) → H' a = some (.ins C dx vs)) → Q v H' → t σ H' Q
def fxVar (i : Nat) : FX := fun sl _ k => ∃ x, sl[i]? = some (some x) ∧ k x
def fxFld (C : Addr) (f : Str) (i : Nat) : FX := fun sl os k => ∃ x, sl[i]? = some (some x) ∧ insD C os x fun j => j.look f k
theorem fix_fld {X : Cx} {C : Addr} {f : Str} (hc : Cls X.K C) (hn : NoAttr X.K C f) (i : Nat) : FixD X (tFld X.K (tVar i) f) (fxFld C f i) := ⟨fun W G ρ H os σ sl k w s ⟨x, hx, q⟩ => by
  obtain ⟨v, hv, r⟩ := s.at_ i x hx
  obtain ⟨a, dx, vs, rfl, ha, j, hk, hi⟩ := ins_at w r q
  have go : ∃ v y, k y ∧ OvR X.K G ρ v y ∧ vs.lookup f = some v := by
    cases j with
    | d fs =>
      obtain ⟨d, hd, q2⟩ := hk.get
      obtain ⟨v, hv, rv⟩ := repf_look hi.2 hd
      exact ⟨v, .d d, q2, rv, hv⟩
    | o j fs =>
      obtain ⟨y, hy, q2⟩ := hk.get
      obtain ⟨_, _, _, _, pr⟩ := hi
      obtain ⟨v, hv, rv⟩ := pair_look pr hy
      exact ⟨v, y, q2, rv, hv⟩
  obtain ⟨u, y, hy, ry, hu⟩ := go
  exact ⟨u, y, hy, ry, fun H' Q k q => ⟨_, hv, a, C, dx, vs, u, rfl, k _ _ _ _ ha, hc, hn, hu, q⟩⟩⟩
/-- [.. for k in d ..] -/
def dLcK (fx : FX) (dg : DTg) (dt : DT) (de : DE) (vs : List Nat) : DE := fun sl os Q _ => fx sl os fun x => match x with
  | .d (.dct ks) => (∀ p ∈ ks, okK p.1) ∧ ks.length ≤ sizeLine ∧ lcGo dg dt de (wipeS sl vs) (ks.map fun p => keyT p.1) [] os fun zs os2 => Q (.d (.lst zs)) os2
  | _ => False
section
variable {X : Cx} {Z : Zs} {E E' : XK} {elt tg iter : Expr} {ifs : List Expr} {scope : Scope} {own : List (Str × Nat)} {pos : Pos} {dg : DTg} {dt : DT} {de : DE} {T : List Nat} {fx : FX} {t : TE}
theorem lc_tail {K : PySem.W.Frag} {vs : List Nat} (hT : ∀ i ∈ T, i ∈ vs) {σ : St} {H : Hp} {Q : VK} {W : Wd} {G : Hp} {ρ : List Addr} {sl : Sl} {os : List OO} {Qd : Ov → List OO → Prop} {Ex : Exn → List OO → Prop} {ti : TI} {J : It} {ds : List Dt} (p : Pk K Z E (RE K) σ H Q W G ρ sl os Qd Ex)
    (r : RI K G ρ J ds) (q : lcGo dg dt de (wipeS sl vs) ds [] os fun zs os2 => Qd (.d (.lst zs)) os2) (ht : ∀ R : It → Hp → Prop, R J H → ti σ H R) : tLc ti (liftG K T dg) (lift K Z E' RT dt) (lift K Z E' (RE K) de) vs σ H Q := by
  refine ht _ ?_
  refine lc_run p.wo p.sl r hT q fun D zs os' G' ρ' H' us q2 w e nD gD nX wD hD ra hzs => ?_
  have g := same_new gD (.lst us)
  refine (p.at w e).po _ _ _ _ _ _ q2 (w.more g (fun b u hb => ?_) fun b hb gb => ?_) (Ext.of g) (Rep.lst upd_same (ra.mono g) hzs)
  · by_cases eb : b = D
    · subst eb
      rw [upd_same] at hb
      rw [noT_of hD (by intro _ z; cases z)]
      exact hb
    · rw [upd_ne eb] at hb
      exact w.gn _ _ hb
  · have ne : b ≠ D := by
      rintro rfl
      rcases hb with hb | hb
      · exact nD hb
      · exact nX hb
    rw [upd_ne ne]
    exact gb
theorem pd_lcK (hc : X.calm = true) (hN : X.N.Nodup) (hi : PE X iter t) (hx : FixD X t fx) (ok : BlkOk X.N X.env.scope scope own)
    (hg : ∀ (s : Shared) (H : Hp) (C : Addr) (cl : List (Str × Addr)) (fp : List Addr), PGD (X.blk s H scope (compEnvC scope cl C X.env) fp) T tg dg)
    (ht : ∀ (s : Shared) (H : Hp) (C : Addr) (cl : List (Str × Addr)) (fp : List Addr), PTsD (X.blk s H scope (compEnvC scope cl C X.env) fp) Z E' ifs dt)
    (he : ∀ (s : Shared) (H : Hp) (C : Addr) (cl : List (Str × Addr)) (fp : List Addr), PD (X.blk s H scope (compEnvC scope cl C X.env) fp) Z E' elt de)
    (hT : ∀ i ∈ T, i ∈ own.map (·.2)) (hs : ∀ x, foldedSetIterable iter X.env x = pure x := by intro _; rfl) : PD X Z E (.ListComp elt [⟨tg, iter, ifs, 0⟩] scope pos) (dLcK fx dg dt de (own.map (·.2))) := by
  have base := pe_lc (X := X) (elt := elt) (pos := pos) (g := liftG X.K T dg) (tt := lift X.K Z E' RT dt) (te := lift X.K Z E' (RE X.K) de) hc hN (pi_keys (tg := tg) hi) ok hg ht he hs
  refine PE.weak (pe_or2 base (pe_lock base)) fun σ H Q ⟨W, G, ρ, sl, os, Qd, Ex, p, q⟩ => ?_
  obtain ⟨v, x, hk, rv, fin⟩ := hx.at_ W G ρ H os σ sl _ p.wo p.sl q
  match x, hk, rv with
  | .d (.dct ks), ⟨hok, hl, q⟩, rv =>
    have rv : Rep X.K G v (.dct ks) := rv
    cases rv with
    | @dct d kvs _ hd rk =>
      rcases hd with hd | ⟨o, hd⟩
      · refine .inr ⟨d, .dK kvs, p.wo.gh _ _ hd, trivial, fun od => ?_⟩
        have w1 := p.wo.lock hd od
        have f1 : Frz1 G (upd G d (.frz od (.dK kvs))) := frz_in hd
        refine lc_tail (E := E) (Ex := noX) (J := Itk d od kvs) hT ⟨w1, p.sl.frz f1, EKr.no, fun y os' v' G' ρ' H' a b c r => ?_⟩ (ri_keys upd_same (rk.frz f1) hok hl) q fun R hR => ?_
        · obtain ⟨gd, hd', w2, e2⟩ := p.wo.unlock hd b c
          exact ⟨hd', p.po y os' v' _ ρ' _ a w2 e2 (OvR.frz (frz_out gd) r)⟩
        · refine fin (upd H d (.frz od (.dK kvs))) _ (fun a C dx vs ha => ?_) ⟨d, od, rfl, .inl ⟨kvs, upd_same, hR⟩⟩
          have ne : a ≠ d := fun z => by rw [z, p.wo.gh _ _ hd] at ha; cases ha
          rw [upd_ne ne]
          exact ha
      · refine .inl (lc_tail hT p (ri_keys hd rk hok hl) q fun R hR => ?_)
        exact fin H _ (fun _ _ _ _ q => q) ⟨d, o, rfl, .inl ⟨kvs, p.wo.gh _ _ hd, hR⟩⟩
end
def dNeverS : DS := fun _ _ _ => False
theorem psd_never {X : Cx} {Z : Zs} {E : XK} {st : Stmt} : PSD X Z E st dNeverS := ⟨fun _ _ _ _ _ _ ⟨_, _, _, _, _, _, _, _, _, q⟩ => q.elim⟩
def opMulL : G2 := fun d e k => match d, e with
  | .int i, .int j => CMul i j ∧ k (.int (i * j))
  | .lst ds, .int n => (0 ≤ n ∧ n < 2 ^ 63 ∧ ds.length * n.toNat ≤ sizeLine) ∧ k (.lst (List.replicate n.toNat ds).flatten)
  | _, _ => False
theorem rep_flat {K : PySem.W.Frag} {G : Hp} {vs : List V} {ds : List Dt} (h : RepAll K G vs ds) : ∀ n : Nat, RepAll K G (List.replicate n vs).flatten (List.replicate n ds).flatten
  | 0 => .nil
  | n + 1 => by
    rw [List.replicate_succ, List.replicate_succ, List.flatten_cons, List.flatten_cons]
    exact h.app (rep_flat h n)
theorem flat_len {α : Type} (l : List α) : ∀ n : Nat, (List.replicate n l).flatten.length = l.length * n
  | 0 => rfl
  | n + 1 => by
    rw [List.replicate_succ, List.flatten_cons, List.length_append, flat_len l n, Nat.mul_succ, Nat.add_comm]
theorem od_mul {X : Cx} : OpD X (binaryOp .Mult) opMulL := by
  refine ⟨_, op_or op_mul op_rep, fun W G ρ H os v u d e Q k w sv su q fin => ?_⟩
  unfold opMulL at q
  split at q
  · rename_i i j
    obtain rfl := snp_int sv
    obtain rfl := snp_int su
    exact .inl ⟨i, j, rfl, rfl, q.1, fin _ q.2 _ G H (Same.refl _) w (.int _)⟩
  · rename_i ds n
    obtain rfl := snp_int su
    obtain ⟨a, vs, rfl, hv, ra, hl⟩ := sv
    obtain ⟨⟨h0, h1, h2⟩, q⟩ := q
    refine .inr ⟨a, n, vs, rfl, rfl, hv, by omega, h1, by rw [ra.len]; exact h2, fun p hp => ?_⟩
    obtain ⟨w2, g⟩ := w.new hp (.lst (List.replicate n.toNat vs).flatten)
    exact fin _ q _ _ _ g w2 (.lst upd_same ((rep_flat ra _).mono g) (by rw [flat_len]; exact h2))
  · exact q.elim
end De
namespace L2
open PySem PySem.Spec PyProof.Rows
section
variable {X : Cx}
theorem ps_setDc {i : Nat} {y : Str} {py : Pos} {kx vx tg iter : Expr} {ifs : List Expr} {scope : Scope} {own : List (Str × Nat)} {pos spos : Pos} {wi : TI} {g : TG} {tt : TT} {tk tv : TE} (hc : X.calm = true) (hN : X.N.Nodup) (hy : X.N[i]? = some y) (hyl : X.env.scope.names.lookup y = some .local)
    (hsw : swapsWith (.DictComp kx vx [⟨tg, iter, ifs, 0⟩] scope pos) (some (.Name y py)) spos.line X.env = pure true) (hi : PI X tg iter wi) (ok : BlkOk X.N X.env.scope scope own)
    (hg : ∀ (s : Shared) (H : Hp) (C : Addr) (cl : List (Str × Addr)) (fp : List Addr), PG (X.blk s H scope (compEnvC scope cl C X.env) fp) tg g) (ht : ∀ (s : Shared) (H : Hp) (C : Addr) (cl : List (Str × Addr)) (fp : List Addr), PTs (X.blk s H scope (compEnvC scope cl C X.env) fp) ifs tt)
    (hk : ∀ (s : Shared) (H : Hp) (C : Addr) (cl : List (Str × Addr)) (fp : List Addr), PE (X.blk s H scope (compEnvC scope cl C X.env) fp) kx tk)
    (he : ∀ (s : Shared) (H : Hp) (C : Addr) (cl : List (Str × Addr)) (fp : List Addr), PE (X.blk s H scope (compEnvC scope cl C X.env) fp) vx tv) (hs : ∀ x, foldedSetIterable iter X.env x = pure x := by intro _; rfl) :
    PS X (.Assign [.Name y py] (.DictComp kx vx [⟨tg, iter, ifs, 0⟩] scope pos) spos) (tAsg (tDc wi g tt tk tv (own.map (·.2))) (gName i)) := by
  refine ⟨fun pins s σ H D I h => ?_⟩
  rw [exec_Assign_Name_used _ _ _ _ hsw]
  refine wpAny_bind (wpAny_standAt (wpAny_bind ?_))
  show wpAny _ X.A (do let _ ← comprehension (.DictComp kx vx [⟨tg, iter, ifs, 0⟩] scope pos) scope X.env (firstIterPos [⟨tg, iter, ifs, 0⟩] pos) newDict false (eval iter X.env) (some (assign (.Name y py) X.env))) _ _ s
  have h : tDc wi g tt tk tv (own.map (·.2)) σ H (fun x H1 => gName i x σ H1 D.nx) := h
  refine wpAny_bind (thn (dc_core (Qf := fun _ s' => SP X pins D .next s') hc hN I hi ok hg ht hk he hs h fun L C s' m H' I' q hn f => ?_) fun _ s' hq => wpAny_pure (wpAny_pure hq))
  show wpAny _ _ (assign (.Name y py) X.env (.ref L)) _ _ _
  refine wpAny_assign_Name (store_ok2 (v := V.ref L) I' hN hy (.inl hyl) rfl (fun s2 I2 ⟨a, sb, ha⟩ => ?_) (.inr hyl))
  obtain ⟨f0, f1, f2, f3, f4, f5⟩ := f
  have haC : C ≠ a := by
    rcases ha with z | z
    · rw [z]; exact f1
    · exact fun e => f4 y a z e.symm
  refine ⟨m, hn.sameBut sb haC, fun h3 sb3 => ?_⟩
  exact ⟨_, H', I2.turned (t' := s2.toks) (fun b o hb e => (sb3.2 b hb).trans e) f0 f1 f3 f4 f5, q⟩
theorem sw_trueD {kx vx : Expr} {gs : List Comprehension} {scope : Scope} {pos py : Pos} {y : Str} {l : Nat} {env : Env} (hk : env.scope.kind = .function) (hy : env.scope.names.lookup y = some .local) (hl : (py.line == pos.line) = true)
    (ha : (scope.names.any fun (n, k) => n == y && (k == .local || k == .cell)) = false) : swapsWith (.DictComp kx vx gs scope pos) (some (.Name y py)) l env = pure true := by
  have ky : env.kindOf y = some .local := hy
  have hb : env.blockKind = .function := by unfold Env.blockKind; rw [hk]; rfl
  unfold swapsWith
  simp only [hb, ky, ha, Expr.pos, hl]
  rfl
end
end L2
namespace De
open PySem L2 Bl
theorem psd_setDc {X : Cx} {Z : Zs} {E E' : XK} {kx vx tg iter : Expr} {ifs : List Expr} {scope : Scope} {own : List (Str × Nat)} {pos spos py : Pos} {di : DI} {dg : DTg} {dt : DT} {dk de : DE} {T : List Nat} {i : Nat} {y : Str} (hy : X.N[i]? = some y) (hyl : X.env.scope.names.lookup y = some .local)
    (hsw : swapsWith (.DictComp kx vx [⟨tg, iter, ifs, 0⟩] scope pos) (some (.Name y py)) spos.line X.env = pure true) (hc : X.calm = true) (hN : X.N.Nodup) (hi : PID X Z E tg iter di) (ok : BlkOk X.N X.env.scope scope own)
    (hg : ∀ (s : Shared) (H : Hp) (C : Addr) (cl : List (Str × Addr)) (fp : List Addr), PGD (X.blk s H scope (compEnvC scope cl C X.env) fp) T tg dg)
    (ht : ∀ (s : Shared) (H : Hp) (C : Addr) (cl : List (Str × Addr)) (fp : List Addr), PTsD (X.blk s H scope (compEnvC scope cl C X.env) fp) Z E' ifs dt)
    (hk : ∀ (s : Shared) (H : Hp) (C : Addr) (cl : List (Str × Addr)) (fp : List Addr), PD (X.blk s H scope (compEnvC scope cl C X.env) fp) Z E' kx dk)
    (he : ∀ (s : Shared) (H : Hp) (C : Addr) (cl : List (Str × Addr)) (fp : List Addr), PD (X.blk s H scope (compEnvC scope cl C X.env) fp) Z E' vx de)
    (hT : ∀ i ∈ T, i ∈ own.map (·.2)) (hs : ∀ x, foldedSetIterable iter X.env x = pure x := by intro _; rfl) : PSD X Z E (.Assign [.Name y py] (.DictComp kx vx [⟨tg, iter, ifs, 0⟩] scope pos) spos) (dAsg (dDc di dg dt dk de (own.map (·.2))) (dgName i)) :=
  PS.weak (ps_setDc (g := liftG X.K T dg) (tt := lift X.K Z E' RT dt) (tk := lift X.K Z E' (RE X.K) dk) (tv := lift X.K Z E' (RE X.K) de) hc hN hy hyl hsw hi ok hg ht hk he hs) fun D σ H ⟨W, G, ρ, sl, os, DD, w, s, l, q⟩ => dc_weak hT (l.bind (RS := RE X.K) w s _ q fun x os1 v G1 ρ1 H1 q1 w1 s1 l1 r1 e1 =>
    l1.nx _ _ _ _ _ _ q1 w1 (s1.set r1) Ext.refl)
/-- list(d) -/
def fnListD : GN := fun ds k => match ds with
  | [.dct ks] => (∀ p ∈ ks, okK p.1) ∧ ks.length ≤ sizeLine ∧ k (.lst (ks.map fun p => keyT p.1))
  | _ => False
theorem rep_keys {K : PySem.W.Frag} {G G' : Hp} : ∀ {kvs : List (Key × V)} {ks : List (Key × Dt)}, RepK K G kvs ks → (∀ p ∈ ks, okK p.1) → RepAll K G' (kvs.map fun kv => kV kv.1) (ks.map fun p => keyT p.1)
  | _, _, .nil, _ => .nil
  | _, _, .cons _ r, h => .cons (rep_key (h _ List.mem_cons_self)) (rep_keys r fun p hp => h p (List.mem_cons_of_mem _ hp))
theorem cd_listD {X : Cx} (hc : X.calm = true) : CallD X (.type "list") fnListD := by
  refine ⟨_, call_listD hc, fun W G ρ H os vs ds Q k w sv q fin => ?_⟩
  unfold fnListD at q
  split at q
  · rename_i ks
    obtain ⟨v, rfl, s⟩ := snps1 sv
    obtain ⟨a, kvs, rfl, hd, rk⟩ := s
    obtain ⟨hok, hl, q⟩ := q
    refine ⟨a, kvs, rfl, hd, fun p hp => ?_⟩
    obtain ⟨w2, g⟩ := w.new hp (.lst (kvs.map fun kv => kV kv.1))
    exact fin _ q _ _ _ g w2 (.lst upd_same (rep_keys rk hok) (by rw [List.length_map]; exact hl))
  · exact q.elim
end De
namespace PySem
open PySem.Spec PyProof.Rows
set_option maxHeartbeats 1000000 in
theorem meets_enumerate_newB1 {v : Value} {o : Obj} {H : Heap → Prop} (B : Begins v o H) :
    Meets (Builtin.«enumerate.__new__» ⟨[.type "enumerate", v], []⟩) (fun _ R s => H s.heap ∧
      R (.ok (.ret (.ref (s.heap.push o).objs.size))) { s with heap := (s.heap.push o).push { cls := .type "enumerate", data := .fields #[.none, .bool false, .ref s.heap.objs.size, rawInt 0, .none, .none] } }) :=
  .of_wp fun prog w A R s h => by
    obtain ⟨hp, g, d, tk, os⟩ := s; obtain ⟨h1, h⟩ := h
    have hsub := sub_enumerate
    have q1 : ∀ {A' : Around} {E : Value → Shared → Prop} {Q : Value → Shared → Prop}, Q (.ref hp.objs.size) ⟨hp.push o, g, d, tk, os⟩ → wpAny (model prog w) A' (pyIter v) Q E ⟨hp, g, d, tk, os⟩ :=
      fun q => B.iter prog w _ _ ⟨hp, g, d, tk, os⟩ _ h1 q
    wp_walk using q1
    refine wpAny_stack_any fun st => wpAny_pure ?_
    split
    · rename_i c _ _ _ _ _
      cases (c == Value.type "enumerate")
      · wp_walk using q1
        exact ⟨_, rfl, h⟩
      · wp_walk using q1
        exact ⟨_, rfl, h⟩
    · wp_walk using q1
      exact ⟨_, rfl, h⟩
theorem enum_begins1 {prog : Program} {w : World} {A : Around} {E : Value → Shared → Prop} {s : Shared} {v : Value} {o : Obj} {H : Heap → Prop} {Q : Value → Shared → Prop} (B : Begins v o H) (h1 : H s.heap)
    (h : ∀ h', IsEnum h' (s.heap.objs.size + 1) s.heap.objs.size 0 .none → h'.get? s.heap.objs.size = some o → h'.objs.size = s.heap.objs.size + 2 →
      (∀ b o, s.heap.get? b = some o → h'.get? b = some o) → Q (.ref (s.heap.objs.size + 1)) { s with heap := h' }) :
    wpAny (model prog w) A (call (.type "enumerate") [v]) Q E s := by
  refine callType_new F.called_enumerate (by decide) (F.typeCall_enumerate_1 _) (F.newCall_enumerate_1 _) (fun obj => F.args_object_init_2 obj _) F.entry_enumerate_new
    (meets_enumerate_newB1 B) ⟨h1, ?_⟩
  have hz : (s.heap.push o).objs.size = s.heap.objs.size + 1 := Heap.size_push ..
  show _ ∧ _
  rw [hz]
  have he : IsEnum ((s.heap.push o).push { cls := .type "enumerate", data := .fields #[.none, .bool false, .ref s.heap.objs.size, rawInt 0, .none, .none] }) (s.heap.objs.size + 1) s.heap.objs.size 0 .none := by
    have := Heap.get?_push_size (s.heap.push o) (o := { cls := .type "enumerate", data := .fields #[.none, .bool false, .ref s.heap.objs.size, rawInt 0, .none, .none] }) rfl
    rw [hz] at this; exact this
  refine ⟨⟨_, he, rfl⟩, h _ he (Heap.get?_push_of_some _ (Heap.get?_push_size _ B.free)) (by rw [Heap.size_push, hz]) fun b o x => Heap.get?_push_of_some _ (Heap.get?_push_of_some _ x)⟩
end PySem
namespace L2
open PySem PySem.Spec PyProof.Rows
def IteT (K : PySem.W.Frag) (a : Addr) : It :=
  ⟨fun i H => ∃ (xs : List V) (x : V), SqT K H a xs ∧ xs[i]? = some x, fun i H v H' => ∃ T x, v = .ref T ∧ H T = none ∧ H' = upd H T (.tup [.int (i : Nat), x]) ∧ ∀ xs, SqT K H a xs → xs[i]? = some x, fun i H => ∃ xs : List V, SqT K H a xs ∧ xs.length ≤ i⟩
theorem turn_enumT {P : Program} {w : World} {K : PySem.W.Frag} {elts : List Expr} {kk : Nat} {tpos : Pos} (a e it : Addr) :
    Turn P w K (.Tuple elts kk tpos) (IteT K a) [e, it] e (fun i h => (∃ old, IsEnum h e it ((i : Nat) : Int) old) ∧ h.IsTupleIter it a i ∧ e ≠ it) where
  mem := by simp
  obj := fun i h st b hb => by
    obtain ⟨⟨old, he⟩, ⟨o, ho, hc, hd⟩, _⟩ := st
    have e' : b = e ∨ b = it := by simpa using hb
    rcases e' with z | z
    · rw [z]; exact ⟨_, he, fun v q => nomatch q⟩
    · rw [z]; exact ⟨o, ho, fun v q => by rw [hd] at q; cases q⟩
  keep := fun i h h' st k => let ⟨⟨old, he⟩, hi, hne⟩ := st; ⟨⟨old, k e (by simp) _ he⟩, hi.at fun o q => k it (by simp) o q, hne⟩
  item := by
    intro X hP hw hK hc i pins s σ H E I hf st hg
    subst hP hw hK
    obtain ⟨⟨old, he⟩, hit, hne⟩ := st
    obtain ⟨xs, x, hq, hx⟩ := hg
    obtain ⟨its, rv, p, hz⟩ := I.tuple hq
    obtain ⟨u, hu, ru⟩ := rv.get hx
    have p : s.heap.IsTuple a its.toArray := p
    have hel : e < s.heap.objs.size := Heap.lt_size he
    have hil : it < s.heap.objs.size := by obtain ⟨_, q, _⟩ := hit; exact Heap.lt_size q
    have nea : e ≠ a := by
      rintro rfl
      obtain ⟨o, q, c, _⟩ := p
      rw [show s.heap.get? e = _ from he] at q
      have h1 := congrArg Obj.cls (Option.some.inj q)
      rw [c] at h1
      exact absurd (Value.type.inj h1) (by decide)
    have nia : a ≠ it := by
      rintro rfl
      obtain ⟨o, q, c, _⟩ := p
      obtain ⟨o', q', c', _⟩ := hit
      rw [q] at q'
      have h1 := congrArg Obj.cls (Option.some.inj q')
      rw [c, c'] at h1
      exact absurd (Value.type.inj h1) (by decide)
    have hil2 : i < its.toArray.size := by
      have := (List.getElem?_eq_some_iff.mp hu).1
      simpa using this
    refine wpAny_pyNext_enum_itemC (Draws.tuple (A := X.A.in1) (show X.A.in1.handled = none from I.ok.hd hc) it a nia its.toArray) he ⟨hit, p⟩ hil2 hne (by simp [hne, nea]) fun x' h' tk hx' ho st' hT hsz hk => ?_
    have ex : x' = u := by
      have h1 : its.toArray[i]? = some x' := hx'
      rw [List.getElem?_toArray, hu] at h1
      exact (Option.some.inj h1).symm
    subst ex
    obtain ⟨hit', _⟩ := st'
    refine ⟨_, rfl, wpAny_letOwnedTupleGo_enum (s := { s with heap := h', toks := tk + 1 }) ho fun h'' he' sb => ?_⟩
    have hT2 : h''.get? s.heap.objs.size = some { cls := .type "tuple", data := .seq #[.int i tk, x'] } := (sb.2 _ (Nat.ne_of_gt hel)).trans hT
    have new : ObjOk X.prog X.w (upd H s.heap.objs.size (.tup [.int (i : Nat), x])) h'' s.heap.objs.size (.tup [.int (i : Nat), x]) :=
      ⟨by show 2 ≤ sizeLine; decide, [.int i tk, x'], .cons ⟨_, rfl⟩ (.cons ru .nil), ⟨_, hT2, rfl, _, rfl⟩⟩
    have I1 : Inv X pins σ (upd H s.heap.objs.size (.tup [.int (i : Nat), x])) { s with heap := h'', toks := tk + 1 } :=
      I.turnedNew (ch := [e, it]) (fun b ob hb q => (sb.2 b (fun z => hb (by simp [z]))).trans (hk b ob (fun z => hb (by simp [z])) (fun z => hb (by simp [z])) q)) hf (Nat.le_refl _) new
    refine ⟨.ref s.heap.objs.size, _, I1, rfl, ⟨_, x, rfl, I.hok.fresh (Nat.le_refl _), rfl, fun ys hy => by rw [I.tuple_inj hy hq]; exact hx⟩, ⟨⟨x', ?_⟩, hit'.at fun o q => (sb.2 it (Ne.symm hne)).trans q, hne⟩, fun b hb => ?_⟩
    · have e1 : ((i + 1 : Nat) : Int) = (i : Int) + 1 := by omega
      rw [e1]; exact he'
    · have hb' : b < s.heap.objs.size := by
        have e' : b = e ∨ b = it := by simpa using hb
        rcases e' with z | z
        · rw [z]; exact hel
        · rw [z]; exact hil
      rw [upd_ne (Nat.ne_of_lt hb')]
      exact (hf b hb).1
  done := by
    intro X hP hw hK hc i pins s σ H E I hf st hg
    subst hP hw hK
    obtain ⟨⟨old, he⟩, hit, hne⟩ := st
    obtain ⟨xs, hq, hx⟩ := hg
    obtain ⟨its, rv, p, hz⟩ := I.tuple hq
    have p : s.heap.IsTuple a its.toArray := p
    have nia : a ≠ it := by
      rintro rfl
      obtain ⟨o, q, c, _⟩ := p
      obtain ⟨o', q', c', _⟩ := hit
      rw [q] at q'
      have h1 := congrArg Obj.cls (Option.some.inj q')
      rw [c, c'] at h1
      exact absurd (Value.type.inj h1) (by decide)
    obtain ⟨f0, f1, f2, f3, f4, f5⟩ := hf it (by simp)
    have hl := rv.length
    have D0 : Draws X.prog X.w X.A.in1 it [it, a] its.toArray.size (fun j v => its.toArray[j]? = some v) (fun j h => h.IsTupleIter it a j ∧ h.IsTuple a its.toArray) := Draws.tuple (show X.A.in1.handled = none from I.ok.hd hc) it a nia its.toArray
    have D : Draws X.prog X.w X.A.in1 it [it, a] i (fun j v => its.toArray[j]? = some v) (fun j h => j = i ∧ h.IsTupleIter it a j ∧ h.IsTuple a its.toArray) := {
      live := fun j h st => D0.live j h st.2
      frame := fun j h h' st k => ⟨st.1, D0.frame j h h' st.2 k⟩
      item := fun j s Q E hj st _ => absurd st.1 (Nat.ne_of_lt hj)
      done := fun s Q E st hE => wpAny_nextOf_tuple_end (show X.A.in1.handled = none from I.ok.hd hc) st.2.1 st.2.2 (by simp; omega) hE }
    exact wpAny_pyNext_enum_endD D he ⟨rfl, hit, p⟩ fun h' eb => ⟨rfl, I.turned (t' := s.toks) (fun b o hb q => eb b o hb q) f0 f1 f3 f4 f5⟩
  self := fun A i s Q E st h => let ⟨⟨_, he⟩, _⟩ := st; wpAny_pyIter_enum he h
def iEnumA (K : PySem.W.Frag) (ta : TA) : TI := fun σ H R => ta σ H fun vs H1 => ∃ a, vs = [.ref a] ∧ ((∃ xs, SqL K H1 a xs ∧ R (Ite K a) H1) ∨ ∃ xs, SqT K H1 a xs ∧ R (IteT K a) H1)
theorem pi_enumA {X : Cx} {e : Expr} {ta : TA} {p pos tpos : Pos} {elts : List Expr} {kk : Nat} (hg : Gl X "enumerate") (hm : X.mg "enumerate" = none) (ha : PA X [e] ta) (hs : starEach [e] X.env = [(false, eval e X.env)] := by rfl) :
    PI X (.Tuple elts kk tpos) (.Call (.Name "enumerate" p) [e] [] pos) (iEnumA X.K ta) := by
  refine ⟨fun pins s σ H R I h => ?_⟩
  refine Call_ (ld_blt I hg hm boot_enumerate (callWith_type1 (thn (ha.run pos pins s σ H _ I h) fun us s1 ⟨vs, H1, I1, r1, q1⟩ => ?_) hs rfl))
  obtain ⟨a, ex, q⟩ := q1
  subst ex
  have fp : ∀ b ∈ [s1.heap.objs.size + 1, s1.heap.objs.size], FpOk X pins H1 b := fun b hb => by
    have e' : b = s1.heap.objs.size + 1 ∨ b = s1.heap.objs.size := by simpa using hb
    have hle : s1.heap.objs.size ≤ b := by
      rcases e' with z | z
      · rw [z]; exact Nat.le_add_right _ _
      · rw [z]; exact Nat.le_refl _
    exact I1.fpOk hle (I1.hok.fresh hle)
  cases r1 with
  | cons r rr =>
    cases rr
    cases r
    rcases q with ⟨xs, hq, q⟩ | ⟨xs, hq, q⟩
    · obtain ⟨its, rv, p', hz⟩ := I1.list hq
      refine call_enumerate_list p'.isList fun h' he hit hsz hk => wpAny_pyIter_enum he ?_
      have I2 : Inv X pins σ H1 { s1 with heap := h' } := I1.kept (t' := s1.toks) hk
      exact ⟨s1.heap.objs.size + 1, [s1.heap.objs.size + 1, s1.heap.objs.size], _, _, H1, rfl, I2, turn_enum a (s1.heap.objs.size + 1) s1.heap.objs.size, ⟨⟨.none, he⟩, hit, Nat.succ_ne_self _⟩, fp, q⟩
    · obtain ⟨its, rv, p', hz⟩ := I1.tuple hq
      refine enum_begins1 (begins_tuple a its.toArray) (show s1.heap.IsTuple a its.toArray from p') fun h' he ho hsz hk => wpAny_pyIter_enum he ?_
      have hit : h'.IsTupleIter s1.heap.objs.size a 0 := ⟨_, ho, rfl, rfl⟩
      have I2 : Inv X pins σ H1 { s1 with heap := h' } := I1.kept (t' := s1.toks) hk
      exact ⟨s1.heap.objs.size + 1, [s1.heap.objs.size + 1, s1.heap.objs.size], _, _, H1, rfl, I2, turn_enumT a (s1.heap.objs.size + 1) s1.heap.objs.size, ⟨⟨.none, he⟩, hit, Nat.succ_ne_self _⟩, fp, q⟩
end L2
namespace De
open PySem L2 Bl
theorem ri_enumT {K : PySem.W.Frag} {G : Hp} {ρ : List Addr} {a : Addr} {vs : List V} {ds : List Dt} (h : SqT K G a vs) (r : RepAll K G vs ds) (hl0 : ds.length ≤ sizeLine) : RI K G ρ (IteT K a) (enumL 0 ds) := by
  refine ⟨by rw [enumL_len]; exact hl0, fun W G' ρ' H os i s w => ?_⟩
  have hl : SqT K H a vs := Bl.Same.tup w.gh (Bl.Same.tup s h)
  have rr := r.mono s
  rw [enumL_len]
  refine ⟨fun hi => ?_, fun hi => ⟨vs, hl, by rw [rr.len]; exact hi⟩⟩
  obtain ⟨v, hv, rv⟩ := rr.get' (List.getElem?_eq_getElem hi)
  refine ⟨⟨vs, v, hl, hv⟩, ?_⟩
  rintro x H' ⟨T, y, rfl, hT, rfl, hx⟩
  have := hx vs hl
  rw [hv] at this
  obtain rfl := Option.some.inj this
  obtain ⟨w2, g⟩ := w.new hT (.tup [.int (i : Nat), v])
  refine ⟨_, _, ?_, g, w2, Rep.tup (SqT.of upd_same) (.cons (.int _) (.cons (rv.mono g) .nil)) (by show 2 ≤ sizeLine; decide)⟩
  rw [enumL_at, List.getElem?_eq_getElem hi, Option.map_some, Nat.zero_add]
/-- of a list or a tuple -/
def dEnumA (a : DA) : DI := fun sl os Q Ex => a sl os (fun xs os1 => match xs with
  | [.d (.lst ds)] => Q (enumL 0 ds) os1
  | [.d (.tup ds)] => Q (enumL 0 ds) os1
  | _ => False) Ex
section
variable {X : Cx} {Z : Zs} {E : XK} {tg e : Expr} {dr : DA}
theorem pid_enumA (h : PI X tg e (iEnumA X.K (lift X.K Z E (RA X.K) dr))) : PID X Z E tg e (dEnumA dr) := pid_of h fun σ H R W G ρ sl os Qd Ex p q => p.bind (RS := RA X.K) _ q fun xs os1 vs G1 ρ1 H1 q1 p1 r1 e1 => by
  split at q1
  · cases r1 with
    | cons r t =>
      cases t
      cases r with
      | lst h1 h2 h3 => exact ⟨_, rfl, .inl ⟨_, SqL.of (p1.wo.gh _ _ h1), p1.end_ q1 (ri_enum h1 h2 h3)⟩⟩
  · cases r1 with
    | cons r t =>
      cases t
      cases r with
      | tup h1 h2 h3 => exact ⟨_, rfl, .inr ⟨_, Bl.Same.tup p1.wo.gh h1, p1.end_ q1 (ri_enumT h1 h2 h3)⟩⟩
  · exact q1.elim
end
end De
namespace De
open PySem L2 Bl
/-- an object changes, and more is laid that nobody tells of -/
theorem Wo.but {K : PySem.W.Frag} {W : Wd} {G H H' : Hp} {ρ : List Addr} {os : List OO} (h : Wo K W G ρ H os) {k : Nat} {a : Addr} {y x : OO} {o : HO} (ha : ρ[k]? = some a) (hy : os[k]? = some y) (live : G a = none) (bt : But a H H') (ho : H' a = some o) (q : OOR K G ρ H' a x) : Wo K W G ρ H' (os.set k x) := by
  have keep : ∀ c u, c ≠ a → H c = some u → H' c = some u := fun c u ne hc => by
    have := bt c u (by rw [hide_ne ne]; exact hc)
    rwa [hide_ne ne] at this
  refine ⟨fun b u e => noT_of (keep b u (ne_of_none e live) (h.gh _ _ e)) (noT_no (h.gn _ _ e)), by rw [List.length_set]; exact h.len, h.nd, fun j b z hb hz => ?_, fun b u e m => ?_, h.ow, fun b hb => ?_, fun b hb => ?_⟩
  · by_cases e : j = k
    · subst e
      rw [ha] at hb
      obtain rfl := Option.some.inj hb
      rw [List.getElem?_set_self (List.getElem?_eq_some_iff.mp hy).1] at hz
      obtain rfl := Option.some.inj hz
      exact .inr ⟨live, q⟩
    · rw [List.getElem?_set_ne (Ne.symm e)] at hz
      have ne : b ≠ a := fun z => by
        subst z
        exact e ((List.getElem?_inj (List.getElem?_eq_some_iff.mp hb).1 h.nd).mp (hb.trans ha.symm))
      rcases h.ob j b z hb hz with q | ⟨q1, q2⟩
      · exact .inl q
      · obtain ⟨u, hu⟩ := h.tr b (mem_of hb)
        exact .inr ⟨q1, OOR.mono Ext.refl ((keep b u ne hu).trans hu.symm) q2⟩
  · have hm : b ≠ a := fun z => by
      subst z
      rcases h.ow _ (mem_of ha) with w | w
      · exact m w
      · rw [w] at e
        cases e
    exact keep b u hm (h.fr b u e m)
  · by_cases e : b = a
    · subst e
      exact ⟨o, ho⟩
    · obtain ⟨u, hu⟩ := h.tr b hb
      exact ⟨u, keep b u e hu⟩
  · obtain ⟨x1, x2, u, q⟩ := h.ex b hb
    have ne : b ≠ a := fun z => x2 (z ▸ mem_of ha)
    exact ⟨x1, x2, u, keep b u ne q.1, q.2⟩
def boxO (ns : List Int) (i w m c : Int) : OO := .lst [.d (.lst (ns.map .int)), .d (.int i), .d (.int w), .d (.int m), .d (.int c)]
def BoxO (o : OO) : Prop := ∃ ns i w m c, o = boxO ns i w m c ∧ 0 ≤ i ∧ 0 ≤ m ∧ m < 2147483629
theorem ints_rep {K : PySem.W.Frag} {G : Hp} : ∀ {ns : List Int} {vs : List V}, RepAll K G vs (ns.map .int) → vs = ns.map V.int
  | [], _, .nil => rfl
  | n :: ns, _, .cons r t => by
    cases r
    rw [ints_rep t]
    rfl
/-- what the table holds of a box, in the heap -/
theorem box_at {K : PySem.W.Frag} {W : Wd} {G H : Hp} {ρ : List Addr} {os : List OO} {k : Nat} {a : Addr} {o : OO} (wo : Wo K W G ρ H os) (ha : ρ[k]? = some a) (ho : os[k]? = some o) (hb : BoxO o) :
    G a = none ∧ ∃ l, BoxAt H a l ∧ ∀ H', BoxAt H' a l → But a H H' → ∃ o', BoxO o' ∧ Wo K W G ρ H' (os.set k o') := by
  obtain ⟨ns, i, w, m, c, rfl, hi, hm, hm2⟩ := hb
  rcases wo.ob k a _ ha ho with z | ⟨live, vs, hv, pr, hl⟩
  · cases z.1
  · match pr with
    | .cons (a := v0) r0 (.cons (a := v1) r1 (.cons (a := v2) r2 (.cons (a := v3) r3 (.cons (a := v4) r4 .nil)))) =>
      have r0 : Rep K G v0 (.lst (ns.map .int)) := r0
      have r1 : Rep K G v1 (.int i) := r1
      have r2 : Rep K G v2 (.int w) := r2
      have r3 : Rep K G v3 (.int m) := r3
      have r4 : Rep K G v4 (.int c) := r4
      cases r1
      cases r2
      cases r3
      cases r4
      cases r0 with
      | @lst l us _ h1 h2 h3 =>
        have eu := ints_rep h2
        subst eu
        have ne : l ≠ a := ne_of_none h1 live
        refine ⟨live, l, ⟨ns, i, w, m, c, hv, by rw [hide_ne ne]; exact wo.gh _ _ h1, hi, hm, hm2⟩, fun H' hb' bt => ?_⟩
        obtain ⟨ns', i', w', m', c', hp', hl', hi', hm', hm2'⟩ := hb'
        refine ⟨boxO ns i' w' m' c', ⟨ns, i', w', m', c', rfl, hi', hm', hm2'⟩, wo.but ha ho live bt hp' ⟨boxL l i' w' m' c', hp', ?_, by show 5 ≤ sizeLine; decide⟩⟩
        exact .cons (show OvR K G ρ (.ref l) (.d (.lst (ns.map .int))) from Rep.lst h1 h2 h3) (.cons (show OvR K G ρ _ (.d (.int i')) from .int _) (.cons (show OvR K G ρ _ (.d (.int w')) from .int _) (.cons (show OvR K G ρ _ (.d (.int m')) from .int _) (.cons (show OvR K G ρ _ (.d (.int c')) from .int _) .nil))))
def fPull : FD := fun xs os Q _ => ∃ b n o, xs = [.o b, .d (.int n)] ∧ os[b]? = some o ∧ BoxO o ∧ 0 < n ∧ n < 1073741824 ∧ ∀ d o', 0 ≤ d → d < n → BoxO o' → Q (.d (.int d)) (os.set b o')
theorem pull_imp {K : PySem.W.Frag} {Z : Zs} (vs : List V) (H : Hp) (Q : VK) (E : XK) (h : spD K Z 2 fPull vs H Q E) : spPull K vs H Q E := by
  obtain ⟨W, G, ρ, os, xs, Qd, Ex, wo, r, hn, ek, ⟨b, n, o, rfl, ho, hb, h0, h1, q⟩, po⟩ := h
  cases r with
  | @cons v0 _ _ _ r0 t =>
    cases t with
    | @cons v1 _ _ _ rn t =>
      cases t
      obtain ⟨a, ha, rfl⟩ := r0
      have rn : Rep K G v1 (.int n) := rn
      cases rn
      obtain ⟨live, l, hB, fin⟩ := box_at wo ha ho hb
      refine ⟨a, l, n, rfl, hB, h0, h1, fun d H' d0 d1 hb' bt => ?_⟩
      obtain ⟨o', ho', w'⟩ := fin H' hb' bt
      exact po (.d (.int d)) _ _ G ρ H' (q d o' d0 d1 ho') w' Ext.refl (Rep.int d)
/-- an item of a list, of a tuple, a sign of a text -/
def fOf : FD := fun xs os Q _ => ∃ b d o, xs = [.o b, .d d] ∧ os[b]? = some o ∧ BoxO o ∧ match d with
  | .lst ds => 0 < ds.length ∧ ds.length < 1000000 ∧ ∀ (i : Nat) x o', ds[i]? = some x → BoxO o' → Q (.d x) (os.set b o')
  | .tup ds => 0 < ds.length ∧ ds.length < 1000000 ∧ ∀ (i : Nat) x o', ds[i]? = some x → BoxO o' → Q (.d x) (os.set b o')
  | .str z => 0 < z.length ∧ z.length < 1000000 ∧ ∀ (c : Nat) o', c ∈ z.cps.toList → BoxO o' → Q (.d (.str ⟨#[c]⟩)) (os.set b o')
  | _ => False
theorem of_imp {K : PySem.W.Frag} {Z : Zs} (vs : List V) (H : Hp) (Q : VK) (E : XK) (h : spD K Z 2 fOf vs H Q E) : spOf K vs H Q E := by
  obtain ⟨W, G, ρ, os, xs, Qd, Ex, wo, r, hn, ek, ⟨b, d, o, rfl, ho, hb, q⟩, po⟩ := h
  cases r with
  | @cons v0 _ _ _ r0 t =>
    cases t with
    | @cons v1 _ _ _ rn t =>
      cases t
      obtain ⟨a, ha, rfl⟩ := r0
      have rn : Rep K G v1 d := rn
      obtain ⟨live, l, hB, fin⟩ := box_at wo ha ho hb
      have sg : Same G (hide a H) := fun c u hc => by
        rw [hide_ne (ne_of_none hc live)]
        exact wo.gh _ _ hc
      refine ⟨a, l, v1, rfl, hB, ?_⟩
      cases rn with
      | lst h1 h2 h3 =>
        obtain ⟨q0, q1, q⟩ := q
        refine .inl ⟨_, _, rfl, .inl (SqL.of (sg _ _ h1)), by rw [h2.len]; exact q0, by rw [h2.len]; exact q1, fun i x H' hx hb' bt => ?_⟩
        obtain ⟨dx, hdx, rx⟩ := h2.get hx
        obtain ⟨o', ho', w'⟩ := fin H' hb' bt
        exact po (.d dx) _ _ G ρ H' (q i dx o' hdx ho') w' Ext.refl rx
      | tup h1 h2 h3 =>
        obtain ⟨q0, q1, q⟩ := q
        refine .inl ⟨_, _, rfl, .inr (Bl.Same.tup sg h1), by rw [h2.len]; exact q0, by rw [h2.len]; exact q1, fun i x H' hx hb' bt => ?_⟩
        obtain ⟨dx, hdx, rx⟩ := h2.get hx
        obtain ⟨o', ho', w'⟩ := fin H' hb' bt
        exact po (.d dx) _ _ G ρ H' (q i dx o' hdx ho') w' Ext.refl rx
      | str z hz =>
        obtain ⟨q0, q1, q⟩ := q
        refine .inr ⟨z, rfl, q0, q1, fun c H' hc hb' bt => ?_⟩
        obtain ⟨o', ho', w'⟩ := fin H' hb' bt
        exact po (.d (.str ⟨#[c]⟩)) _ _ G ρ H' (q c o' hc ho') w' Ext.refl (Rep.str _ (okz_char hz hc))
      | _ => exact q.elim
end De
namespace De
open PySem L2 Bl
/-- all that stands is known, but the table's objects and what stands aside -/
def growW (G H : Hp) (L : List Addr) : Hp := fun b => match G b with
  | some o => some o
  | none => if b ∈ L then none else noT H b
theorem grow_le {G H : Hp} {L : List Addr} : Same G (growW G H L) := fun b o h => by
  unfold growW
  rw [h]
theorem grow_in {G H : Hp} {L : List Addr} {b : Addr} (g : G b = none) (h : b ∈ L) : growW G H L b = none := by
  unfold growW
  rw [g]
  exact if_pos h
theorem grow_of {G H : Hp} {L : List Addr} {b : Addr} {o : HO} (k : Same G H) (n : b ∉ L) (h : H b = some o) (t : ∀ ps, o ≠ .tbl ps) : growW G H L b = some o := by
  unfold growW
  cases e : G b with
  | some u =>
    have := k _ _ e
    rw [h] at this
    exact this.symm
  | none =>
    show (if b ∈ L then none else noT H b) = some o
    rw [if_neg n]
    exact noT_of h t
def tbOk (Tb : List (Addr × Str)) (os : List OO) : Prop := ∀ (k : Nat) (P : Addr) (q : Str), os[k]? = some (.tbl P q) → (P, q) ∈ Tb
section
variable {K : PySem.W.Frag} {W : Wd} {G H H' : Hp} {ρ : List Addr} {os : List OO}
theorem Wo.tab (h : Wo K W G ρ H os) {k : Nat} {P : Addr} {q : Str} (e : os[k]? = some (.tbl P q)) : ρ[k]? = some P ∧ LamX.TabS H P q := by
  have hk : k < ρ.length := by
    rw [h.len]
    exact (List.getElem?_eq_some_iff.mp e).1
  rcases h.ob k _ _ (List.getElem?_eq_getElem hk) e with z | ⟨_, e0, ps, h1, h2, h3⟩
  · cases z.1
  · refine ⟨by rw [List.getElem?_eq_getElem hk, e0], ps, by rw [← e0]; exact h1, h2, fun pos cv hc => ?_⟩
    obtain ⟨c, e1, e2⟩ := h3 pos cv hc
    exact ⟨c, e1, h.gh _ _ e2⟩
theorem Wo.extk (h : Wo K W G ρ H os) (e : LamX.ExtN H H') {Tb : List (Addr × Str)} (t : tbOk Tb os) (ht : LamX.Tabs Tb H') {c : Addr} {F : Heap → Prop} (k : H' c = some (.ext F)) : growW G H' (ρ ++ W.X) c = some (.ext F) := by
  have g1 : Same G H' := fun b o q => e _ _ (h.gh _ _ q) (noT_no (h.gn _ _ q))
  by_cases hm : c ∈ ρ
  · obtain ⟨j, hj⟩ := List.mem_iff_getElem?.mp hm
    have hk2 : j < os.length := by rw [← h.len]; exact (List.getElem?_eq_some_iff.mp hj).1
    rcases h.ob j c _ hj (List.getElem?_eq_getElem hk2) with ⟨_, u, hu2⟩ | ⟨_, r⟩
    · have := g1 _ _ hu2
      rw [k] at this
      obtain rfl := Option.some.inj this
      exact grow_le _ _ hu2
    · have no : ∀ o, H c = some o → (∀ ps, o ≠ .tbl ps) → o = .ext F := fun o z1 z2 => by
        have := e _ _ z1 z2
        rw [k] at this
        exact (Option.some.inj this).symm
      cases eo : os[j] with
      | dead =>
        rw [eo] at r
        exact r.elim
      | lst xs =>
        rw [eo] at r
        obtain ⟨vs, z, _⟩ := r
        cases no _ z (by intro _ z; cases z)
      | dct xs =>
        rw [eo] at r
        obtain ⟨vs, z, _⟩ := r
        cases no _ z (by intro _ z; cases z)
      | ins C xs =>
        rw [eo] at r
        obtain ⟨dx, vs, z, _⟩ := r
        cases no _ z (by intro _ z; cases z)
      | tbl P q =>
        rw [eo] at r
        obtain ⟨rfl, _⟩ := r
        obtain ⟨ps, h1, _⟩ := ht _ (t j _ _ ((List.getElem?_eq_getElem hk2).trans (congrArg some eo)))
        have h1 : H' c = some (.tbl ps) := h1
        rw [k] at h1
        cases h1
  · by_cases hx : c ∈ W.X
    · obtain ⟨_, _, u, z1, z2⟩ := h.ex c hx
      have := e _ _ z1 z2.nt
      rw [k] at this
      obtain rfl := Option.some.inj this
      exact z2.elim
    · exact grow_of g1 (by rw [List.mem_append]; exact fun z => z.elim hm hx) k (by intro _ z; cases z)
theorem Wo.code (h : Wo K W G ρ H os) (e : LamX.ExtN H H') {Tb : List (Addr × Str)} (t : tbOk Tb os) (ht : LamX.Tabs Tb H') {c : Addr} {q : Str} (k : H' c = some (LamX.CodeO c q)) : growW G H' (ρ ++ W.X) c = some (LamX.CodeO c q) := h.extk e t ht k
theorem Wo.lamk (h : Wo K W G ρ H os) (e : LamX.ExtN H H') {Tb : List (Addr × Str)} (t : tbOk Tb os) (ht : LamX.Tabs Tb H') {L : LamI} {f : Addr} (k : LamAt L H' f) : LamAt L (growW G H' (ρ ++ W.X)) f := by
  obtain ⟨c', pm, ctv, doc, dV, h1, h2, h3⟩ := k
  refine ⟨c', pm, ctv, doc, dV, h.extk e t ht h1, h.extk e t ht h2, ?_⟩
  cases hb : L.nd with
  | false =>
    rw [hb] at h3
    exact h3
  | true =>
    rw [hb] at h3
    obtain ⟨T, tk, z1, z2⟩ := h3
    exact ⟨T, tk, z1, h.extk e t ht z2⟩
/-- what nobody of the table changed, tables aside -/
theorem Wo.grow {Tb : List (Addr × Str)} (h : Wo K W G ρ H os) (e : LamX.ExtN H H') (t : tbOk Tb os) (ht : LamX.Tabs Tb H') :
    Wo K W (growW G H' (ρ ++ W.X)) ρ H' os := by
  have g1 : Same G H' := fun b o q => e _ _ (h.gh _ _ q) (noT_no (h.gn _ _ q))
  refine ⟨fun b o q => ?_, h.len, h.nd, fun k a o ha ho => ?_, fun a o q m => e _ _ (h.fr a o q m) (noT_no q), h.ow, fun a ha => ?_, fun a ha => ?_⟩
  · unfold growW at q
    cases eG : G b with
    | some u =>
      rw [eG] at q
      obtain rfl := Option.some.inj q
      exact noT_of (g1 _ _ eG) (noT_no (h.gn _ _ eG))
    | none =>
      rw [eG] at q
      have q : (if b ∈ ρ ++ W.X then none else noT H' b) = some o := q
      split at q
      · cases q
      · exact q
  · rcases h.ob k a o ha ho with ⟨z, u, hu⟩ | ⟨live, r⟩
    · exact .inl ⟨z, u, grow_le _ _ hu⟩
    · refine .inr ⟨grow_in live (List.mem_append_left _ (mem_of ha)), ?_⟩
      cases o with
      | dead => exact r
      | lst xs =>
        obtain ⟨vs, q, p, l⟩ := r
        exact ⟨vs, e _ _ q (by intro _ z; cases z), OvRs.mono (Ext.of grow_le) p, l⟩
      | dct xs =>
        obtain ⟨vs, q, p⟩ := r
        exact ⟨vs, e _ _ q (by intro _ z; cases z), pair_mono (fun _ _ z => ⟨z.1, OvR.mono (Ext.of grow_le) z.2⟩) p⟩
      | ins C xs =>
        obtain ⟨dx, vs, q, p⟩ := r
        exact ⟨dx, vs, e _ _ q (by intro _ z; cases z), pair_mono (fun _ _ z => ⟨z.1, OvR.mono (Ext.of grow_le) z.2⟩) p⟩
      | tbl P q =>
        obtain ⟨rfl, _⟩ := r
        obtain ⟨ps, h1, h2, h3⟩ := ht _ (t k _ _ ho)
        refine ⟨rfl, ps, h1, h2, fun pos cv hcv => ?_⟩
        obtain ⟨c, e1, e2⟩ := h3 pos cv hcv
        exact ⟨c, e1, h.code e t ht e2⟩
  · obtain ⟨u, hu⟩ := h.tr a ha
    by_cases hT : ∃ ps, u = .tbl ps
    · obtain ⟨ps, rfl⟩ := hT
      obtain ⟨k, hk⟩ := List.mem_iff_getElem?.mp ha
      have hk2 : k < os.length := by rw [← h.len]; exact (List.getElem?_eq_some_iff.mp hk).1
      rcases h.ob k a _ hk (List.getElem?_eq_getElem hk2) with ⟨_, u, hu2⟩ | ⟨_, r⟩
      · exact ⟨u, g1 _ _ hu2⟩
      · cases eo : os[k] with
        | tbl P q =>
          rw [eo] at r
          obtain ⟨rfl, _⟩ := r
          obtain ⟨ps, h1, _⟩ := ht _ (t k _ _ ((List.getElem?_eq_getElem hk2).trans (congrArg some eo)))
          exact ⟨_, h1⟩
        | dead =>
          rw [eo] at r
          exact r.elim
        | lst xs =>
          rw [eo] at r
          obtain ⟨vs, q, _⟩ := r
          rw [hu] at q
          cases q
        | dct xs =>
          rw [eo] at r
          obtain ⟨vs, q, _⟩ := r
          rw [hu] at q
          cases q
        | ins C xs =>
          rw [eo] at r
          obtain ⟨dx, vs, q, _⟩ := r
          rw [hu] at q
          cases q
    · exact ⟨u, e _ _ hu fun ps z => hT ⟨ps, z⟩⟩
  · obtain ⟨x1, x2, u, q⟩ := h.ex a ha
    exact ⟨grow_in x1 (List.mem_append_right _ ha), x2, u, e _ _ q.1 q.2.nt, q.2⟩
end
/-- the field of an error made of ys: none, the one, or both as a new tuple -/
def FieldR (H H' : Hp) (ys : List V) (v : V) : Prop := match ys with
  | [] => v = .non
  | [y] => v = y
  | [y, z] => ∃ t, v = .ref t ∧ H t = none ∧ H' t = some (.tup [y, z])
  | _ => False
theorem FieldR.back {H H1 H' : Hp} {ys : List V} {v : V} (e : Same H H1) (f : FieldR H1 H' ys v) : FieldR H H' ys v := by
  match ys, f with
  | [], f => exact f
  | [_], f => exact f
  | [_, _], ⟨t, h1, h2, h3⟩ => exact ⟨t, h1, e.free h2, h3⟩
def spFieldR (K : PySem.W.Frag) : Addr → Value → Option Addr → Sp := fun a cls d vs H Q _ => ∃ (r : Str × List Str) (ys : List V), vs = [.ref a] ∧ InHand K H cls d r ys ∧ ∀ (v : V) (H' : Hp), Same H H' → FieldR H H' ys v → Q v H'
def fieldD : List Dt → Dt
  | [] => .non
  | [d] => d
  | ds => .tup ds
/-- ("", answer) or (code, field) -/
def dGot (Tb : List (Addr × Str)) (d : DE) : DE := fun sl os Q Ex => (tbOk Tb os ∧ ∀ p ∈ Tb, ∃ k : Nat, os[k]? = some (OO.tbl p.1 p.2)) ∧
  d sl os (fun x os1 => frzGo os1 x fun z os2 => Q (.d (.tup [.str "", z])) os2) (fun e os1 => Q (.d (.tup [.str e.1.1, fieldD e.2])) os1)
structure LamD (X : Cx) (Z : Zs) (k : Nat) (L : LamI) (d : DE) : Prop where
  q : L.q = X.env.qual ++ "<lambda>"
  cl : L.cl = cloFrom X.env.cells L.scope.names []
  ex : ∃ D, LamBX X k L.nd D L.params L.body L.scope (fun E => lift X.K Z E (RE X.K) d)
def tbAll (Tb : List (Addr × Str)) (os : List OO) : Prop := tbOk Tb os ∧ ∀ p ∈ Tb, ∃ k : Nat, os[k]? = some (OO.tbl p.1 p.2)
def dLam (X : Cx) (Z : Zs) (k : Nat) (Tb : List (Addr × Str)) (d : DE) : DE := fun _ os Q _ => tbAll Tb os ∧ ∀ L, LamD X Z k L d → Q (.d (.lam L)) os
theorem pd_lam {X : Cx} {Z : Zs} {E : XK} {Tb : List (Addr × Str)} {c P : Addr} {k : Nat} {params : Arguments} {body : Expr} {scope : Scope} {pos : Pos} {nd : Bool} {D : List Str} {d : DE} (TB : LamX.TabB X.base X.mg c P) (hcode : X.env.code = .ref c) (hm : (P, X.env.qual ++ "<lambda>") ∈ Tb) (hu : ∀ p ∈ Tb, p.1 = P → p.2 = X.env.qual ++ "<lambda>")
    (hp : (nd = false ∧ defaultsOf params X.env = ([], [])) ∨ (nd = true ∧ ∃ j p, params.defaults = [.Constant (.int 0) j p] ∧ params.kw_defaults = []))
    (hL : LamSX D X.env.scope scope) (hdis : ∀ y ∈ D, y ∉ X.N) (hb : BindX params body scope D nd)
    (hbody : ∀ (A : Around) (outer : List Env) (s : Shared) (H : Hp) (E : XK) (f c' : Addr), Room k (A.deeper (LamX.lamEnv X scope s.heap.objs.size f c')) → PD (LamX.lamCx X A outer s H E scope f c') Z E body d) :
    PD X Z E (.Lambda params body scope pos) (dLam X Z k Tb d) := by
  refine pd_of (pe_lamX TB hcode hm hu hL hp) fun σ H Q W G ρ sl os Qd Ex p ⟨⟨t1, t2⟩, q⟩ => ?_
  unfold tLamV
  refine ⟨fun pr hp => ?_, fun f H1 e ht nf hl => ?_⟩
  · obtain ⟨j, hj⟩ := t2 pr hp
    exact (p.wo.tab hj).2
  · have w1 := p.wo.grow e t1 ht
    have hl : LamAt ⟨X.env.qual ++ "<lambda>", cloFrom X.env.cells scope.names [], params, body, scope, nd⟩ H1 f := hl
    exact p.po _ _ _ _ _ _ (q _ ⟨rfl, rfl, D, hL, hdis, hb, hbody⟩) w1 (Ext.of grow_le) (Rep.lam _ (p.wo.lamk e t1 ht hl))
/-- each lambda of a list asked, in turn -/
def allGo (X : Cx) (Z : Zs) (k : Nat) (Tb : List (Addr × Str)) (sl : Sl) : List LamI → List Dt → List OO → (List Dt → List OO → Prop) → Prop
  | [], acc, os, Q => Q acc os
  | L :: Ls, acc, os, Q => ∃ d, LamD X Z k L d ∧ d sl os (fun x os1 => frzGo os1 x fun z os2 => allGo X Z k Tb sl Ls (acc ++ [.tup [.str "", z]]) os2 Q) (fun e os1 => allGo X Z k Tb sl Ls (acc ++ [.tup [.str e.1.1, fieldD e.2]]) os1 Q)
def dAllGot (X : Cx) (Z : Zs) (k : Nat) (Tb : List (Addr × Str)) (a : DE) : DE := fun sl os Q Ex => a sl os (fun x os1 => ∃ Ls, x = .d (.lst (Ls.map .lam)) ∧ allGo X Z k Tb sl Ls [] os1 fun zs os2 => Q (.d (.lst zs)) os2) Ex
end De
namespace De
open PySem L2 Bl
structure Nms (n : Nat) (zs : List (List Nat)) : Prop where
  len : zs.length = n
  nm : ∀ z ∈ zs, NameL z
  nd : zs.Nodup
  same : ∃ m, ∀ z ∈ zs, z.length = m
abbrev nmT (z : List Nat) : Dt := .str (SX.S z)
theorem okz_nameB {z : Str} (h : nameB z = true) : okz z := by
  unfold nameB at h
  obtain ⟨h1, h2⟩ := Bool.and_eq_true_iff.mp h
  obtain ⟨_, h3⟩ := Bool.and_eq_true_iff.mp h1
  refine ⟨?_, ?_⟩
  · show z.cps.all (· < 0x110000) = true
    rw [← Array.all_toList, List.all_eq_true]
    intro c hc
    have hc2 := of_decide_eq_true (List.all_eq_true.mp h2 c hc)
    have : ∀ c ∈ alpha, c < 0x110000 := by decide
    exact decide_eq_true (this c hc2)
  · have h3 := of_decide_eq_true h3
    exact Nat.le_trans h3 (by decide)
theorem names_rep {K : PySem.W.Frag} {G : Hp} : ∀ {zs : List (List Nat)}, (∀ z ∈ zs, NameL z) → RepAll K G (zs.map nameV) (zs.map nmT)
  | [], _ => .nil
  | z :: zs, h => .cons (.str _ (okz_nameB (h z List.mem_cons_self).nameB)) (names_rep fun y hy => h y (List.mem_cons_of_mem _ hy))
/-- a new list that stands is known -/
theorem Wo.known {K : PySem.W.Frag} {W : Wd} {G H : Hp} {ρ : List Addr} {os : List OO} {t : Addr} {o : HO} (w : Wo K W G ρ H os) (gt : G t = none) (nr : t ∉ ρ) (nx : t ∉ W.X) (ht : H t = some o) (nt : ∀ ps, o ≠ .tbl ps := by intro _ z; cases z) : Wo K W (upd G t o) ρ H os ∧ Same G (upd G t o) := by
  have g := same_new gt o
  refine ⟨w.more g (fun b u hb => ?_) fun a ha ga => ?_, g⟩
  · by_cases eb : b = t
    · subst eb
      rw [upd_same] at hb
      rw [noT_of ht nt]
      exact hb
    · rw [upd_ne eb] at hb
      exact w.gn _ _ hb
  · have ne : a ≠ t := by
      rintro rfl
      exact ha.elim nr nx
    rw [upd_ne ne]
    exact ga
def fNames : FD := fun xs os Q _ => ∃ b n o, xs = [.o b, .d (.int (n : Nat))] ∧ os[b]? = some o ∧ BoxO o ∧ 1 ≤ n ∧ n ≤ 12 ∧ ∀ zs o', Nms n zs → BoxO o' → Q (.d (.lst (zs.map nmT))) (os.set b o')
theorem names_imp {K : PySem.W.Frag} {Z : Zs} (vs : List V) (H : Hp) (Q : VK) (E : XK) (h : spD K Z 2 fNames vs H Q E) : spNames K vs H Q E := by
  obtain ⟨W, G, ρ, os, xs, Qd, Ex, wo, r, hn, ek, ⟨b, n, o, rfl, ho, hb, h0, h1, q⟩, po⟩ := h
  cases r with
  | @cons v0 _ _ _ r0 t =>
    cases t with
    | @cons v1 _ _ _ rn t =>
      cases t
      obtain ⟨a, ha, rfl⟩ := r0
      have rn : Rep K G v1 (.int (n : Nat)) := rn
      cases rn
      obtain ⟨live, l, hB, fin⟩ := box_at wo ha ho hb
      refine ⟨a, l, n, rfl, hB, h0, h1, fun t zs H' z1 z2 z3 z4 ht nt hl hb' bt => ?_⟩
      obtain ⟨o', ho', w'⟩ := fin H' hb' bt
      have hH : H t = none := by rwa [hide_ne nt] at ht
      have gt : G t = none := by
        cases q : G t with
        | none => rfl
        | some u => rw [wo.gh _ _ q] at hH; cases hH
      obtain ⟨w2, g2⟩ := w'.known gt (wo.fresh hH) (fun m => by
        obtain ⟨_, _, u, q, _⟩ := wo.ex t m
        rw [hH] at q
        cases q) hl
      exact po (.d (.lst (zs.map nmT))) _ _ _ ρ H' (q zs o' ⟨z1, z2, z3, z4⟩ ho') w2 (Ext.of g2) (Rep.lst upd_same (names_rep z2) (by
        rw [List.length_map, z1]
        exact Nat.le_trans h1 (by decide)))
/-- deep and long enough to be compared -/
def fitD : Nat → Dt → Bool
  | 0, _ => false
  | n + 1, .lst ds => decide (ds.length < 1000000) && ds.all (fitD n)
  | n + 1, .tup ds => decide (ds.length < 1000000) && ds.all (fitD n)
  | _ + 1, .dct _ => false
  | _ + 1, .ins _ _ => false
  | _ + 1, .raw _ => false
  | _ + 1, .lam _ => false
  | _ + 1, _ => true
theorem toPys_map : ∀ ds : List Dt, toPys ds = ds.map toPy
  | [] => by simp [toPys]
  | d :: ds => by simp [toPys, toPys_map ds]
theorem plns_all : ∀ {ds : List Dt}, (∀ d ∈ ds, pln d = true) → plns ds = true
  | [], _ => plns_nil
  | d :: ds, h => by
    rw [plns_cons, h d List.mem_cons_self, plns_all fun e he => h e (List.mem_cons_of_mem _ he)]
    rfl
theorem fit_of : ∀ {n : Nat} {d : Dt}, fitD n d = true → Fits n (toPy d) ∧ pln d = true
  | 0, _, h => nomatch h
  | n + 1, d, h => by
    cases d with
    | lst ds =>
      have h : (decide (ds.length < 1000000) && ds.all (fitD n)) = true := h
      rw [Bool.and_eq_true] at h
      have h2 := List.all_eq_true.mp h.2
      refine ⟨?_, by rw [pln_lst]; exact plns_all fun e he => (fit_of (h2 e he)).2⟩
      show Fits (n + 1) (.list (toPys ds))
      rw [toPys_map]
      refine ⟨by rw [List.length_map]; exact of_decide_eq_true h.1, fun e he => ?_⟩
      obtain ⟨x, hx, rfl⟩ := List.mem_map.mp he
      exact (fit_of (h2 x hx)).1
    | tup ds =>
      have h : (decide (ds.length < 1000000) && ds.all (fitD n)) = true := h
      rw [Bool.and_eq_true] at h
      have h2 := List.all_eq_true.mp h.2
      refine ⟨?_, by rw [pln_tup]; exact plns_all fun e he => (fit_of (h2 e he)).2⟩
      show Fits (n + 1) (.tuple (toPys ds))
      rw [toPys_map]
      refine ⟨by rw [List.length_map]; exact of_decide_eq_true h.1, fun e he => ?_⟩
      obtain ⟨x, hx, rfl⟩ := List.mem_map.mp he
      exact (fit_of (h2 x hx)).1
    | non => exact ⟨True.intro, pln_non⟩
    | bl b => exact ⟨True.intro, pln_bl⟩
    | int b => exact ⟨True.intro, pln_int⟩
    | str b => exact ⟨True.intro, pln_str⟩
    | dct _ => cases h
    | ins _ _ => cases h
    | raw _ => cases h
    | lam _ => cases h
/-- two alike -/
def fSame (n : Nat) : FD := fun xs os Q _ => ∃ x y d, xs = [x, y] ∧ rdD os x = some d ∧ rdD os y = some d ∧ fitD n d = true ∧ Q (.d (.bl true)) os
theorem same_imp {K : PySem.W.Frag} {Z : Zs} {n : Nat} (vs : List V) (H : Hp) (Q : VK) (E : XK) (h : spD K Z 2 (fSame n) vs H Q E) : spSame K n vs H Q E := by
  obtain ⟨W, G, ρ, os, xs, Qd, Ex, wo, r, hn, ek, ⟨x, y, d, rfl, hx, hy, hd, q⟩, po⟩ := h
  cases r with
  | @cons v0 _ _ _ r0 t =>
    cases t with
    | @cons v1 _ _ _ r1 t =>
      cases t
      obtain ⟨f1, f2⟩ := fit_of hd
      exact ⟨v0, v1, toPy d, rfl, (Rep.dp ((wo.snp r0 hx).rep wo.gh) f2).1, (Rep.dp ((wo.snp r1 hy).rep wo.gh) f2).1, f1, fun H' s => po _ _ _ _ _ _ q (wo.same s) Ext.refl (Rep.bl true)⟩
end De
namespace De
open PySem L2 Bl
section
variable {X : Cx}
def fnInt : GN := fun ds k => match ds with
  | [.int i] => k (.int i)
  | [.bl b] => k (.int (if b then 1 else 0))
  | _ => False
def fnAbs : GN := fun ds k => match ds with
  | [.int i] => k (.int (if i < 0 then -i else i))
  | _ => False
def fnMin : GN := fun ds k => match ds with
  | [.int i, .int j] => k (.int (if j < i then j else i))
  | _ => False
def fnMax : GN := fun ds k => match ds with
  | [.int i, .int j] => k (.int (if j > i then j else i))
  | _ => False
theorem int_int {i : Int} {k : Dt → Prop} : fnInt [.int i] k = k (.int i) := rfl
theorem int_bl {i : Bool} {k : Dt → Prop} : fnInt [.bl i] k = k (.int (if i then 1 else 0)) := rfl
theorem abs_int {i : Int} {k : Dt → Prop} : fnAbs [.int i] k = k (.int (if i < 0 then -i else i)) := rfl
theorem min_int {i j : Int} {k : Dt → Prop} : fnMin [.int i, .int j] k = k (.int (if j < i then j else i)) := rfl
theorem max_int {i j : Int} {k : Dt → Prop} : fnMax [.int i, .int j] k = k (.int (if j > i then j else i)) := rfl
theorem mul_int {i j : Int} {k : Dt → Prop} : opMulL (.int i) (.int j) k = (CMul i j ∧ k (.int (i * j))) := rfl
theorem mul_lst {ds : List Dt} {n : Int} {k : Dt → Prop} : opMulL (.lst ds) (.int n) k = ((0 ≤ n ∧ n < 2 ^ 63 ∧ ds.length * n.toNat ≤ sizeLine) ∧ k (.lst (List.replicate n.toNat ds).flatten)) := rfl
end
end De
namespace De
open PySem L2 Bl
theorem lc_rng {dg : DTg} {dt : DT} {de : DE} {sl : Sl} {os : List OO} {Q : List Dt → List OO → Prop} {lo : Int} {n : Nat} (f : Nat → Dt) (h : ∀ i, i < n → ∀ (k : Dt → List OO → Prop) (s : List OO → Prop), k (f i) os → lcStep dg dt de sl (.int (lo + (i : Nat))) os k s) {acc : List Dt} (q : Q (acc ++ (List.range n).map f) os) : lcGo dg dt de sl (rngD lo n) acc os Q := by
  refine lc_map (fun d => match d with | .int j => f (j - lo).toNat | _ => .non) (fun d hd k s hk => ?_) ?_
  · unfold rngD at hd
    obtain ⟨i, hi, rfl⟩ := List.mem_map.mp hd
    refine h i (List.mem_range.mp hi) k s ?_
    have hk : k (f (lo + (i : Int) - lo).toNat) os := hk
    rwa [show (lo + (i : Int) - lo).toNat = i by omega] at hk
  · have e : (rngD lo n).map (fun d => match d with | .int j => f (j - lo).toNat | _ => .non) = (List.range n).map f := by
      unfold rngD
      rw [List.map_map]
      refine List.map_congr_left fun i _ => ?_
      show f (lo + (i : Int) - lo).toNat = f i
      rw [show (lo + (i : Int) - lo).toNat = i by omega]
    rw [e]
    exact q
theorem at_nat {α : Type} {xs : List α} {i : Nat} (d : α) (h : i < xs.length) : atI xs (i : Int) = some (xs.getD i d) := by
  refine atI_nat ?_
  rw [List.getD_eq_getElem?_getD, List.getElem?_eq_getElem h]
  rfl
theorem map_zip {α β γ : Type} (f : α → β → γ) (a : α) (b : β) {xs : List α} {ys : List β} (h : ys.length ≤ xs.length) : (List.range ys.length).map (fun i => f (xs.getD i a) (ys.getD i b)) = List.zipWith f xs ys := by
  refine List.ext_getElem? fun i => ?_
  rw [List.getElem?_map, List.getElem?_zipWith]
  by_cases hi : i < ys.length
  · have h1 : i < xs.length := by omega
    rw [List.getElem?_range hi, List.getElem?_eq_getElem h1, List.getElem?_eq_getElem hi]
    show some (f (xs.getD i a) (ys.getD i b)) = some (f xs[i] ys[i])
    rw [List.getD_eq_getElem?_getD, List.getD_eq_getElem?_getD, List.getElem?_eq_getElem h1, List.getElem?_eq_getElem hi]
    rfl
  · rw [List.getElem?_eq_none (by rw [List.length_range]; omega), List.getElem?_eq_none (l := ys) (by omega)]
    cases xs[i]? <;> rfl
theorem get_at {α : Type} {xs : List α} {i : Nat} (d : α) (h : i < xs.length) : xs[i]? = some (xs.getD i d) := by
  rw [List.getD_eq_getElem?_getD, List.getElem?_eq_getElem h]
  rfl
theorem szs {n : Nat} (h : n ≤ 1000000) : n ≤ sizeLine := Nat.le_trans h (by decide)
def dPar (i j : Nat) (da : DA) : DS := fun DD sl os => da sl os (fun xs os1 => match xs with
  | [x, y] => DD.nx ((sl.set i (some x)).set j (some y)) os1
  | _ => False) DD.ex
end De
namespace De
open PySem L2 Bl
/-- the box made: its list as long as the script -/
def spBox2 (K : PySem.W.Frag) : Sp := fun vs H Q _ => ∃ (a : Addr) (ns : List Int), vs = [.ref a] ∧ SqL K H a (ns.map V.int) ∧ ns.length ≤ 63 ∧
  ∀ (p l : Addr) (m : Int) (H' : Hp), H p = none → l ≠ p → H' l = some (.lst (ns.map V.int)) → H' p = some (.lst (boxL l 0 0 m 0)) → 0 ≤ m → m < 2147483629 → Same H H' → Q (.ref p) H'
def spLaw (K : PySem.W.Frag) (P : Addr) : Sp := fun vs H Q _ => ∃ (a : Addr) (ns : List Int), vs = [.ref a] ∧ SqL K H a (ns.map V.int) ∧ ns.length ≤ 63 ∧ H P = some (.tbl #[]) ∧ ∀ H', Q (.bl true) H'
theorem rep_ints {K : PySem.W.Frag} {G : Hp} : ∀ {ns : List Int}, RepAll K G (ns.map V.int) (ns.map .int)
  | [] => .nil
  | n :: ns => .cons (.int n) rep_ints
theorem law_start {K : PySem.W.Frag} {Z : Zs} {E : XK} {d : DS} {n : Nat} {a p l P : Addr} {q : Str} {m : Int} {ns : List Int} {H H1 : Hp} {Q : VK} (hP : H P = some (.tbl #[])) (e : Same H H1) (hp : H p = none) (h63 : ns.length ≤ 63) (nl : l ≠ p) (hl : H1 l = some (.lst (ns.map V.int)))
    (hb : H1 p = some (.lst (boxL l 0 0 m 0))) (h0 : 0 ≤ m) (h1 : m < 2147483629) (h : ∀ o, BoxO o → d { nx := fun _ _ => False, rt := fun x _ => x = .d (.bl true), ex := noX } (none :: some (.o 1) :: List.replicate n none) [.tbl P q, o]) (k : ∀ H', Q (.bl true) H') :
    liftS K Z E d { nx := fun _ H' => Q .non H', rt := Q } (some (.ref a) :: some (.ref p) :: List.replicate n none) H1 := by
  have hP1 := e _ _ hP
  have np : P ≠ p := ne_of_none hP hp
  have lP : l ≠ P := fun z => by
    rw [z, hP1] at hl
    cases hl
  have gl : growW (fun _ => none) H1 [P, p] l = some (.lst (ns.map V.int)) := grow_of (fun _ _ z => nomatch z) (by simp [nl, lP]) hl (by intro _ z; cases z)
  have w : Wo K ⟨H1, [P, p], []⟩ (growW (fun _ => none) H1 [P, p]) [P, p] H1 [.tbl P q, boxO ns 0 0 m 0] := by
    refine ⟨fun b o z => ?_, rfl, by simp [np], fun j b o hj ho => ?_, fun b o z _ => noT_le _ _ z, fun b z => .inl z, fun b hb' => ?_, fun b hb' => nomatch hb'⟩
    · unfold growW at z
      have z : (if b ∈ [P, p] then none else noT H1 b) = some o := z
      split at z
      · cases z
      · exact z
    · match j, hj, ho with
      | 0, hj, ho =>
        obtain rfl := Option.some.inj hj
        obtain rfl := Option.some.inj ho
        refine .inr ⟨grow_in rfl (by simp), rfl, #[], hP1, True.intro, fun pos cv hc => ?_⟩
        simp [codeAmong] at hc
      | 1, hj, ho =>
        obtain rfl := Option.some.inj hj
        obtain rfl := Option.some.inj ho
        refine .inr ⟨grow_in rfl (by simp), _, hb, ?_, by show 5 ≤ sizeLine; decide⟩
        exact .cons (Rep.lst gl rep_ints (by rw [List.length_map]; exact Nat.le_trans h63 (by decide))) (.cons (Rep.int 0) (.cons (Rep.int 0) (.cons (Rep.int m) (.cons (Rep.int 0) .nil))))
      | j + 2, hj, ho => cases hj
    · rcases List.mem_cons.mp hb' with rfl | hb'
      · exact ⟨_, hP1⟩
      · rw [List.mem_singleton.mp hb']
        exact ⟨_, hb⟩
  refine ⟨_, _, _, none :: some (.o 1) :: List.replicate n none, _, { nx := fun _ _ => False, rt := fun x _ => x = .d (.bl true), ex := noX }, w, ⟨?_, fun i x z => ?_⟩, ⟨fun _ _ _ _ _ _ z => z.elim, fun _ _ _ _ _ _ z => z.elim, fun _ _ _ _ _ _ z => z.elim, fun x os' v G' ρ' H' z _ _ r => ?_, EKr.no⟩, h _ ⟨ns, 0, 0, m, 0, rfl, by decide, h0, h1⟩⟩
  · simp
  · match i, z with
    | 0, z => cases z
    | 1, z =>
      obtain rfl := Option.some.inj (Option.some.inj z)
      exact ⟨.ref p, rfl, p, rfl, rfl⟩
    | i + 2, z =>
      have z : (List.replicate n (none : Option Ov))[i]? = some (some x) := z
      have := List.mem_of_getElem? z
      rw [List.mem_replicate] at this
      cases this.2
  · obtain rfl : x = .d (.bl true) := z
    cases r
    exact k H'
end De
namespace De
open PySem L2 Bl
theorem seq_go {a b : DS} {DD : DEnds} {sl : Sl} {os : List OO} (h : ∀ N : Sl → List OO → Prop, (∀ sl os, b DD sl os → N sl os) → a { DD with nx := N } sl os) : dSeqS a b DD sl os := h _ fun _ _ h => h
/-- the table of a law: its code objects, its box, and what it made -/
def lawT (P : Addr) (q : Str) (o : OO) (l : List OO) : List OO := .tbl P q :: o :: l
def noTb : OO → Bool
  | .tbl _ _ => false
  | _ => true
section
variable {P : Addr} {q : Str} {o o' x y : OO} {l m : List OO} {Tb : List (Addr × Str)}
theorem law_box : (lawT P q o l)[1]? = some o := rfl
theorem law_set : (lawT P q o l).set 1 o' = lawT P q o' l := rfl
theorem law_app : lawT P q o l ++ m = lawT P q o (l ++ m) := rfl
theorem box_noTb (h : BoxO o) : noTb o = true := by
  obtain ⟨ns, i, w, m, c, rfl, _⟩ := h
  rfl
theorem law_tbOk (ho : BoxO o) (hl : l.all noTb = true) : tbOk [(P, q)] (lawT P q o l) ∧ ∀ p ∈ [(P, q)], ∃ k : Nat, (lawT P q o l)[k]? = some (OO.tbl p.1 p.2) := by
  refine ⟨fun k P' q' e => ?_, fun p hp => ?_⟩
  · match k, e with
    | 0, e =>
      have := Option.some.inj e
      cases this
      exact List.mem_singleton.mpr rfl
    | 1, e =>
      have e := Option.some.inj (show some o = some (.tbl P' q') from e)
      have := box_noTb ho
      rw [e] at this
      cases this
    | k + 2, e =>
      have e : l[k]? = some (.tbl P' q') := e
      have := List.all_eq_true.mp hl _ (List.mem_of_getElem? e)
      cases this
  · rw [List.mem_singleton.mp hp]
    exact ⟨0, rfl⟩
end
end De
namespace Bl
open PySem L2
def top (i : Nat) : Stmt := PySem.Challenge.pw_bothlots_k05_columns_refused.main.body.getD i (.Pass ⟨0, 0, 0, 0⟩)
abbrev s_is_name : Stmt := top 4
abbrev s_is_number : Stmt := top 5
abbrev s_is_column : Stmt := top 6
abbrev s_is_tags : Stmt := top 14
abbrev s_is_column_of : Stmt := top 15
abbrev s_wrong_column : Stmt := top 16
abbrev s_is_side : Stmt := top 17
abbrev s_wrong_side : Stmt := top 18
abbrev s_is_key : Stmt := top 19
abbrev s_is_anchor : Stmt := top 20
abbrev s_columns_of_side : Stmt := top 21
abbrev s_cut_stands : Stmt := top 61
abbrev s_throw_stands : Stmt := top 64
abbrev s_count_looks : Stmt := top 107
abbrev s_count_tags : Stmt := top 108
abbrev s_box : Stmt := top 110
abbrev s_pull : Stmt := top 111
abbrev s_of : Stmt := top 112
abbrev s_names : Stmt := top 113
abbrev s_same : Stmt := top 114
abbrev s_field : Stmt := top 115
abbrev s_got : Stmt := top 116
abbrev s_all_got : Stmt := top 117
abbrev s_mixed : Stmt := top 118
abbrev s_main : Stmt := top 119
abbrev s_bad_column : Stmt := top 120
abbrev s_law : Stmt := top 121
abbrev s_Standing___init__ : Stmt := inClass (top 51) 0
abbrev s_Standing_strays : Stmt := inClass (top 51) 1
abbrev s_Standing_takes : Stmt := inClass (top 51) 6
abbrev s_Standing_take : Stmt := inClass (top 51) 7
abbrev s_Standing__stage_behind : Stmt := inClass (top 51) 8
abbrev s_Standing_is_behind : Stmt := inClass (top 51) 9
abbrev s_Program___init__ : Stmt := inClass (top 106) 2
abbrev s_Program__take_steps : Stmt := inClass (top 106) 3
abbrev s_Program_main : Stmt := inClass (top 106) 6
abbrev si_InvalidColumn : Stmt := inClass (top 25) 0
abbrev si_InvalidSide : Stmt := inClass (top 26) 0
abbrev si_InvalidKey : Stmt := inClass (top 27) 0
abbrev si_InvalidStep : Stmt := inClass (top 28) 0
abbrev si_InvalidTest : Stmt := inClass (top 29) 0
abbrev si_InvalidText : Stmt := inClass (top 30) 0
abbrev si_TooMany : Stmt := inClass (top 31) 0
abbrev si_NothingLeft : Stmt := inClass (top 32) 0
structure Top (K : PySem.W.Frag) (w : World) (mg : Str → Option Value) : Type where
  C_Standing : Addr
  mc_Standing : mg "Standing" = some (.ref C_Standing)
  cl_Standing : Cls K C_Standing
  mk_Standing : PySem.W.makesIn K C_Standing = true
  kp_Standing : PySem.W.keepIn K (.ref C_Standing) = true
  n_Standing_kinds : NoAttr K C_Standing "kinds"
  n_Standing_worths : NoAttr K C_Standing "worths"
  n_Standing_anchors : NoAttr K C_Standing "anchors"
  n_Standing_bounded : NoAttr K C_Standing "bounded"
  n_Standing_free : NoAttr K C_Standing "free"
  n_Standing_joined : NoAttr K C_Standing "joined"
  n_Standing_stage : NoAttr K C_Standing "stage"
  n_Standing_onces : NoAttr K C_Standing "onces"
  n_Standing_doublings : NoAttr K C_Standing "doublings"
  n_Standing_mixed : NoAttr K C_Standing "mixed"
  C_Program : Addr
  mc_Program : mg "Program" = some (.ref C_Program)
  cl_Program : Cls K C_Program
  mk_Program : PySem.W.makesIn K C_Program = true
  kp_Program : PySem.W.keepIn K (.ref C_Program) = true
  n_Program__main : NoAttr K C_Program "_main"
  n_Program__sides : NoAttr K C_Program "_sides"
  n_Program__unique : NoAttr K C_Program "_unique"
  n_Program__ahead : NoAttr K C_Program "_ahead"
  n_Program__steps : NoAttr K C_Program "_steps"
  n_Program__cut_at : NoAttr K C_Program "_cut_at"
  n_Program__kinds : NoAttr K C_Program "_kinds"
  n_Program__many : NoAttr K C_Program "_many"
  cr_Program : ClX.CRead K C_Program (.type "type")
  tk_Program_MOST_STEPS : Tok
  cv_Program_MOST_STEPS : ClX.CVal K C_Program (.type "type") "MOST_STEPS" (.int 12) (.int 12 tk_Program_MOST_STEPS)
  tk_Program_MOST_LOOKS : Tok
  cv_Program_MOST_LOOKS : ClX.CVal K C_Program (.type "type") "MOST_LOOKS" (.int 24) (.int 24 tk_Program_MOST_LOOKS)
  a_is_name : Addr
  d_is_name : FuncData
  F_is_name : Fun K "is_name" "is_name" s_is_name a_is_name d_is_name
  m_is_name : mg "is_name" = some (.ref a_is_name)
  b_is_name : Binds K d_is_name ["value"] []
  a_is_number : Addr
  d_is_number : FuncData
  F_is_number : Fun K "is_number" "is_number" s_is_number a_is_number d_is_number
  m_is_number : mg "is_number" = some (.ref a_is_number)
  b_is_number : Binds K d_is_number ["value", "least", "most"] []
  a_is_column : Addr
  d_is_column : FuncData
  F_is_column : Fun K "is_column" "is_column" s_is_column a_is_column d_is_column
  m_is_column : mg "is_column" = some (.ref a_is_column)
  b_is_column : Binds K d_is_column ["value"] []
  a_is_tags : Addr
  d_is_tags : FuncData
  F_is_tags : Fun K "is_tags" "is_tags" s_is_tags a_is_tags d_is_tags
  m_is_tags : mg "is_tags" = some (.ref a_is_tags)
  b_is_tags : Binds K d_is_tags ["value"] []
  a_is_column_of : Addr
  d_is_column_of : FuncData
  F_is_column_of : Fun K "is_column_of" "is_column_of" s_is_column_of a_is_column_of d_is_column_of
  m_is_column_of : mg "is_column_of" = some (.ref a_is_column_of)
  b_is_column_of : Binds K d_is_column_of ["value", "kinds"] []
  a_wrong_column : Addr
  d_wrong_column : FuncData
  F_wrong_column : Fun K "wrong_column" "wrong_column" s_wrong_column a_wrong_column d_wrong_column
  m_wrong_column : mg "wrong_column" = some (.ref a_wrong_column)
  b_wrong_column : Binds K d_wrong_column ["main"] []
  a_is_side : Addr
  d_is_side : FuncData
  F_is_side : Fun K "is_side" "is_side" s_is_side a_is_side d_is_side
  m_is_side : mg "is_side" = some (.ref a_is_side)
  b_is_side : Binds K d_is_side ["value"] []
  a_wrong_side : Addr
  d_wrong_side : FuncData
  F_wrong_side : Fun K "wrong_side" "wrong_side" s_wrong_side a_wrong_side d_wrong_side
  m_wrong_side : mg "wrong_side" = some (.ref a_wrong_side)
  b_wrong_side : Binds K d_wrong_side ["sides", "main"] []
  a_is_key : Addr
  d_is_key : FuncData
  F_is_key : Fun K "is_key" "is_key" s_is_key a_is_key d_is_key
  m_is_key : mg "is_key" = some (.ref a_is_key)
  b_is_key : Binds K d_is_key ["value", "main"] []
  a_is_anchor : Addr
  d_is_anchor : FuncData
  F_is_anchor : Fun K "is_anchor" "is_anchor" s_is_anchor a_is_anchor d_is_anchor
  m_is_anchor : mg "is_anchor" = some (.ref a_is_anchor)
  b_is_anchor : Binds K d_is_anchor ["kind"] []
  a_columns_of_side : Addr
  d_columns_of_side : FuncData
  F_columns_of_side : Fun K "columns_of_side" "columns_of_side" s_columns_of_side a_columns_of_side d_columns_of_side
  m_columns_of_side : mg "columns_of_side" = some (.ref a_columns_of_side)
  b_columns_of_side : Binds K d_columns_of_side ["side"] []
  a_cut_stands : Addr
  d_cut_stands : FuncData
  F_cut_stands : Fun K "_cut_stands" "_cut_stands" s_cut_stands a_cut_stands d_cut_stands
  m_cut_stands : mg "_cut_stands" = some (.ref a_cut_stands)
  b_cut_stands : Binds K d_cut_stands ["standing", "step"] []
  a_throw_stands : Addr
  d_throw_stands : FuncData
  F_throw_stands : Fun K "_throw_stands" "_throw_stands" s_throw_stands a_throw_stands d_throw_stands
  m_throw_stands : mg "_throw_stands" = some (.ref a_throw_stands)
  b_throw_stands : Binds K d_throw_stands ["standing", "given"] []
  a_count_looks : Addr
  d_count_looks : FuncData
  F_count_looks : Fun K "_count_looks" "_count_looks" s_count_looks a_count_looks d_count_looks
  m_count_looks : mg "_count_looks" = some (.ref a_count_looks)
  b_count_looks : Binds K d_count_looks ["main", "steps", "sides"] []
  a_count_tags : Addr
  d_count_tags : FuncData
  F_count_tags : Fun K "_count_tags" "_count_tags" s_count_tags a_count_tags d_count_tags
  m_count_tags : mg "_count_tags" = some (.ref a_count_tags)
  b_count_tags : Binds K d_count_tags ["columns"] []
  a_box : Addr
  d_box : FuncData
  F_box : Fun K "_law_box" "_law_box" s_box a_box d_box
  m_box : mg "_law_box" = some (.ref a_box)
  b_box : Binds K d_box ["_law_script"] []
  a_pull : Addr
  d_pull : FuncData
  F_pull : Fun K "_law_pull" "_law_pull" s_pull a_pull d_pull
  m_pull : mg "_law_pull" = some (.ref a_pull)
  b_pull : Binds K d_pull ["_law_box_here", "_law_many"] []
  a_of : Addr
  d_of : FuncData
  F_of : Fun K "_law_of" "_law_of" s_of a_of d_of
  m_of : mg "_law_of" = some (.ref a_of)
  b_of : Binds K d_of ["_law_box_here", "_law_some"] []
  a_names : Addr
  d_names : FuncData
  F_names : Fun K "_law_names" "_law_names" s_names a_names d_names
  m_names : mg "_law_names" = some (.ref a_names)
  b_names : Binds K d_names ["_law_box_here", "_law_many"] []
  a_same : Addr
  d_same : FuncData
  F_same : Fun K "_law_same" "_law_same" s_same a_same d_same
  m_same : mg "_law_same" = some (.ref a_same)
  b_same : Binds K d_same ["_law_found", "_law_due"] []
  a_field : Addr
  d_field : FuncData
  F_field : Fun K "_law_field" "_law_field" s_field a_field d_field
  m_field : mg "_law_field" = some (.ref a_field)
  b_field : Binds K d_field ["_law_e"] []
  a_got : Addr
  d_got : FuncData
  F_got : Fun K "_law_got" "_law_got" s_got a_got d_got
  m_got : mg "_law_got" = some (.ref a_got)
  b_got : Binds K d_got ["_law_ask"] []
  a_all_got : Addr
  d_all_got : FuncData
  F_all_got : Fun K "_law_all_got" "_law_all_got" s_all_got a_all_got d_all_got
  m_all_got : mg "_law_all_got" = some (.ref a_all_got)
  b_all_got : Binds K d_all_got ["_law_asks"] []
  a_mixed : Addr
  d_mixed : FuncData
  F_mixed : Fun K "_law_mixed" "_law_mixed" s_mixed a_mixed d_mixed
  m_mixed : mg "_law_mixed" = some (.ref a_mixed)
  b_mixed : Binds K d_mixed ["_law_box_here", "_law_some"] []
  a_main : Addr
  d_main : FuncData
  F_main : Fun K "_law_main" "_law_main" s_main a_main d_main
  m_main : mg "_law_main" = some (.ref a_main)
  b_main : Binds K d_main ["_law_box_here", "_law_words"] []
  a_bad_column : Addr
  d_bad_column : FuncData
  F_bad_column : Fun K "_law_bad_column" "_law_bad_column" s_bad_column a_bad_column d_bad_column
  m_bad_column : mg "_law_bad_column" = some (.ref a_bad_column)
  b_bad_column : Binds K d_bad_column ["_law_box_here", "_law_column", "_law_words"] []
  a_law : Addr
  d_law : FuncData
  F_law : Fun K "law" "law" s_law a_law d_law
  m_law : mg "law" = some (.ref a_law)
  b_law : Binds K d_law ["_law_script"] []
  a_Standing___init__ : Addr
  d_Standing___init__ : FuncData
  F_Standing___init__ : Fun K "__init__" "Standing.__init__" s_Standing___init__ a_Standing___init__ d_Standing___init__
  M_Standing___init__ : Meth K C_Standing "__init__" a_Standing___init__
  b_Standing___init__ : Binds K d_Standing___init__ ["self", "main", "sides", "unique"] []
  a_Standing_strays : Addr
  d_Standing_strays : FuncData
  F_Standing_strays : Fun K "strays" "Standing.strays" s_Standing_strays a_Standing_strays d_Standing_strays
  M_Standing_strays : Meth K C_Standing "strays" a_Standing_strays
  b_Standing_strays : Binds K d_Standing_strays ["self", "names"] []
  a_Standing_takes : Addr
  d_Standing_takes : FuncData
  F_Standing_takes : Fun K "takes" "Standing.takes" s_Standing_takes a_Standing_takes d_Standing_takes
  M_Standing_takes : Meth K C_Standing "takes" a_Standing_takes
  b_Standing_takes : Binds K d_Standing_takes ["self", "step"] []
  a_Standing_take : Addr
  d_Standing_take : FuncData
  F_Standing_take : Fun K "take" "Standing.take" s_Standing_take a_Standing_take d_Standing_take
  M_Standing_take : Meth K C_Standing "take" a_Standing_take
  b_Standing_take : Binds K d_Standing_take ["self", "step"] []
  a_Standing__stage_behind : Addr
  d_Standing__stage_behind : FuncData
  F_Standing__stage_behind : Fun K "_stage_behind" "Standing._stage_behind" s_Standing__stage_behind a_Standing__stage_behind d_Standing__stage_behind
  M_Standing__stage_behind : Meth K C_Standing "_stage_behind" a_Standing__stage_behind
  b_Standing__stage_behind : Binds K d_Standing__stage_behind ["self", "word"] []
  a_Standing_is_behind : Addr
  d_Standing_is_behind : FuncData
  F_Standing_is_behind : Fun K "is_behind" "Standing.is_behind" s_Standing_is_behind a_Standing_is_behind d_Standing_is_behind
  M_Standing_is_behind : Meth K C_Standing "is_behind" a_Standing_is_behind
  b_Standing_is_behind : Binds K d_Standing_is_behind ["self"] []
  a_Program___init__ : Addr
  d_Program___init__ : FuncData
  F_Program___init__ : Fun K "__init__" "Program.__init__" s_Program___init__ a_Program___init__ d_Program___init__
  M_Program___init__ : Meth K C_Program "__init__" a_Program___init__
  a_Program__take_steps : Addr
  d_Program__take_steps : FuncData
  F_Program__take_steps : Fun K "_take_steps" "Program._take_steps" s_Program__take_steps a_Program__take_steps d_Program__take_steps
  M_Program__take_steps : Meth K C_Program "_take_steps" a_Program__take_steps
  b_Program__take_steps : Binds K d_Program__take_steps ["self", "steps"] []
  a_Program_main : Addr
  d_Program_main : FuncData
  F_Program_main : Fun K "main" "Program.main" s_Program_main a_Program_main d_Program_main
  pr_Program_main : Addr
  M_Program_main : PropOf K C_Program "main" pr_Program_main a_Program_main
  b_Program_main : Binds K d_Program_main ["self"] []
  C_LotsError : Addr
  mc_LotsError : mg "LotsError" = some (.ref C_LotsError)
  C_Missing : Addr
  mc_Missing : mg "Missing" = some (.ref C_Missing)
  C_InvalidColumn : Addr
  mc_InvalidColumn : mg "InvalidColumn" = some (.ref C_InvalidColumn)
  x_InvalidColumn : XC K C_InvalidColumn
  f_InvalidColumn : Addr
  di_InvalidColumn : FuncData
  iC_InvalidColumn : PySem.W.findIn K (.ref C_InvalidColumn) "__init__" = some (some (.ref f_InvalidColumn))
  tI_InvalidColumn : PySem.W.typeIn K (.ref f_InvalidColumn) = some (.type "function")
  Fi_InvalidColumn : Fun K "__init__" "InvalidColumn.__init__" si_InvalidColumn f_InvalidColumn di_InvalidColumn
  bi_InvalidColumn : Binds K di_InvalidColumn ["self", "at"] []
  C_InvalidSide : Addr
  mc_InvalidSide : mg "InvalidSide" = some (.ref C_InvalidSide)
  x_InvalidSide : XC K C_InvalidSide
  f_InvalidSide : Addr
  di_InvalidSide : FuncData
  iC_InvalidSide : PySem.W.findIn K (.ref C_InvalidSide) "__init__" = some (some (.ref f_InvalidSide))
  tI_InvalidSide : PySem.W.typeIn K (.ref f_InvalidSide) = some (.type "function")
  Fi_InvalidSide : Fun K "__init__" "InvalidSide.__init__" si_InvalidSide f_InvalidSide di_InvalidSide
  bi_InvalidSide : Binds K di_InvalidSide ["self", "at"] []
  C_InvalidKey : Addr
  mc_InvalidKey : mg "InvalidKey" = some (.ref C_InvalidKey)
  x_InvalidKey : XC K C_InvalidKey
  f_InvalidKey : Addr
  di_InvalidKey : FuncData
  iC_InvalidKey : PySem.W.findIn K (.ref C_InvalidKey) "__init__" = some (some (.ref f_InvalidKey))
  tI_InvalidKey : PySem.W.typeIn K (.ref f_InvalidKey) = some (.type "function")
  Fi_InvalidKey : Fun K "__init__" "InvalidKey.__init__" si_InvalidKey f_InvalidKey di_InvalidKey
  bi_InvalidKey : Binds K di_InvalidKey ["self", "given"] []
  C_InvalidStep : Addr
  mc_InvalidStep : mg "InvalidStep" = some (.ref C_InvalidStep)
  x_InvalidStep : XC K C_InvalidStep
  f_InvalidStep : Addr
  di_InvalidStep : FuncData
  iC_InvalidStep : PySem.W.findIn K (.ref C_InvalidStep) "__init__" = some (some (.ref f_InvalidStep))
  tI_InvalidStep : PySem.W.typeIn K (.ref f_InvalidStep) = some (.type "function")
  Fi_InvalidStep : Fun K "__init__" "InvalidStep.__init__" si_InvalidStep f_InvalidStep di_InvalidStep
  bi_InvalidStep : Binds K di_InvalidStep ["self", "at"] []
  C_InvalidTest : Addr
  mc_InvalidTest : mg "InvalidTest" = some (.ref C_InvalidTest)
  x_InvalidTest : XC K C_InvalidTest
  f_InvalidTest : Addr
  di_InvalidTest : FuncData
  iC_InvalidTest : PySem.W.findIn K (.ref C_InvalidTest) "__init__" = some (some (.ref f_InvalidTest))
  tI_InvalidTest : PySem.W.typeIn K (.ref f_InvalidTest) = some (.type "function")
  Fi_InvalidTest : Fun K "__init__" "InvalidTest.__init__" si_InvalidTest f_InvalidTest di_InvalidTest
  bi_InvalidTest : Binds K di_InvalidTest ["self", "given"] []
  C_InvalidText : Addr
  mc_InvalidText : mg "InvalidText" = some (.ref C_InvalidText)
  x_InvalidText : XC K C_InvalidText
  f_InvalidText : Addr
  di_InvalidText : FuncData
  iC_InvalidText : PySem.W.findIn K (.ref C_InvalidText) "__init__" = some (some (.ref f_InvalidText))
  tI_InvalidText : PySem.W.typeIn K (.ref f_InvalidText) = some (.type "function")
  Fi_InvalidText : Fun K "__init__" "InvalidText.__init__" si_InvalidText f_InvalidText di_InvalidText
  bi_InvalidText : Binds K di_InvalidText ["self", "line"] []
  C_TooMany : Addr
  mc_TooMany : mg "TooMany" = some (.ref C_TooMany)
  x_TooMany : XC K C_TooMany
  f_TooMany : Addr
  di_TooMany : FuncData
  iC_TooMany : PySem.W.findIn K (.ref C_TooMany) "__init__" = some (some (.ref f_TooMany))
  tI_TooMany : PySem.W.typeIn K (.ref f_TooMany) = some (.type "function")
  Fi_TooMany : Fun K "__init__" "TooMany.__init__" si_TooMany f_TooMany di_TooMany
  bi_TooMany : Binds K di_TooMany ["self", "most"] []
  C_NothingLeft : Addr
  mc_NothingLeft : mg "NothingLeft" = some (.ref C_NothingLeft)
  x_NothingLeft : XC K C_NothingLeft
  f_NothingLeft : Addr
  di_NothingLeft : FuncData
  iC_NothingLeft : PySem.W.findIn K (.ref C_NothingLeft) "__init__" = some (some (.ref f_NothingLeft))
  tI_NothingLeft : PySem.W.typeIn K (.ref f_NothingLeft) = some (.type "function")
  Fi_NothingLeft : Fun K "__init__" "NothingLeft.__init__" si_NothingLeft f_NothingLeft di_NothingLeft
  bi_NothingLeft : Binds K di_NothingLeft ["self"] []
  p_STAGES : Addr
  c_STAGES : mg "STAGES" = some (.ref p_STAGES)
  g_STAGES : De.TabAt K w p_STAGES [("first", .tup [.str "keep", .str "join", .str "left", .str "sort", .str "once", .str "near", .str "all", .str "twice", .str "fan", .str "cut"]), ("second", .tup [.str "twice", .str "fan", .str "cut"]), ("cut", .tup [.str "once", .str "near", .str "all", .str "twice"]), ("behind", .tup [.str "near", .str "all", .str "twice"])]
  p_CUTS_steps : Addr
  c_CUTS_steps : mg "CUTS_steps" = some (.ref p_CUTS_steps)
  ua_CUTS_steps_0 : Addr
  ua_CUTS_steps_2 : Addr
  ua_CUTS_steps_3 : Addr
  ua_CUTS_steps_4 : Addr
  ua_CUTS_steps_5 : Addr
  g_CUTS_steps : De.TabAt K w p_CUTS_steps [("rounds", .raw (.ref ua_CUTS_steps_0)), ("throw", .raw (.ref a_throw_stands)), ("mark", .raw (.ref ua_CUTS_steps_2)), ("before", .raw (.ref ua_CUTS_steps_3)), ("share", .raw (.ref ua_CUTS_steps_4)), ("groups", .raw (.ref ua_CUTS_steps_5))]
  p_STANDS : Addr
  c_STANDS : mg "STANDS" = some (.ref p_STANDS)
  ua_STANDS_0 : Addr
  ua_STANDS_1 : Addr
  ua_STANDS_2 : Addr
  ua_STANDS_3 : Addr
  ua_STANDS_4 : Addr
  ua_STANDS_5 : Addr
  ua_STANDS_6 : Addr
  ua_STANDS_7 : Addr
  ua_STANDS_8 : Addr
  g_STANDS : De.TabAt K w p_STANDS [("keep", .raw (.ref ua_STANDS_0)), ("join", .raw (.ref ua_STANDS_1)), ("left", .raw (.ref ua_STANDS_2)), ("sort", .raw (.ref ua_STANDS_3)), ("once", .raw (.ref ua_STANDS_4)), ("near", .raw (.ref ua_STANDS_5)), ("all", .raw (.ref ua_STANDS_6)), ("twice", .raw (.ref ua_STANDS_7)), ("fan", .raw (.ref ua_STANDS_8)), ("cut", .raw (.ref a_cut_stands))]
  e_sides : Addr
  et_sides : ∀ H : Hp, SqT K H e_sides []
  e_unique : Addr
  et_unique : ∀ H : Hp, SqT K H e_unique []
  fd_Program : FunD K "__init__" "Program.__init__" (defArgs s_Program___init__) (defBody s_Program___init__) (defScope s_Program___init__) [] [("sides", V.ref e_sides), ("unique", V.ref e_unique)] a_Program___init__ d_Program___init__
  c_law : Addr
  P_law : Addr
  k_law : d_law.code = .ref c_law
  Lc_law : ∃ (e : Value) (dd : Option Addr) (vs : Array Value) (sl : Array (Option Value)), K.lookup c_law = some ⟨e, dd, .fields vs, sl⟩ ∧ vs[11]? = some (.ref P_law)
  Nc_law : K.lookup P_law = none
  Hc_law : PySem.W.codeHdIn K c_law P_law = true
  xq_InvalidColumn : xqB K C_InvalidColumn C_LotsError C_Missing C_NothingLeft ["at"] = true
  xq_InvalidSide : xqB K C_InvalidSide C_LotsError C_Missing C_NothingLeft ["at"] = true
  xq_InvalidKey : xqB K C_InvalidKey C_LotsError C_Missing C_NothingLeft ["given"] = true
  xq_InvalidStep : xqB K C_InvalidStep C_LotsError C_Missing C_NothingLeft ["at"] = true
  xq_InvalidTest : xqB K C_InvalidTest C_LotsError C_Missing C_NothingLeft ["given"] = true
  xq_InvalidText : xqB K C_InvalidText C_LotsError C_Missing C_NothingLeft ["line"] = true
  xq_TooMany : xqB K C_TooMany C_LotsError C_Missing C_NothingLeft ["most"] = true
  xq_NothingLeft : xqB K C_NothingLeft C_LotsError C_Missing C_NothingLeft [] = true
  z_abs : mg "abs" = none
  z_all : mg "all" = none
  z_any : mg "any" = none
  z_bool : mg "bool" = none
  z_enumerate : mg "enumerate" = none
  z_int : mg "int" = none
  z_isinstance : mg "isinstance" = none
  z_len : mg "len" = none
  z_list : mg "list" = none
  z_range : mg "range" = none
  z_set : mg "set" = none
  z_str : mg "str" = none
  z_tuple : mg "tuple" = none
  z_zip : mg "zip" = none
  t_LETTERS : Tok
  c_LETTERS : mg "LETTERS" = some (.str "abcdefghijklmnopqrstuvwxyz" t_LETTERS)
  r_LETTERS : RelV (.str "abcdefghijklmnopqrstuvwxyz") (.str "abcdefghijklmnopqrstuvwxyz" t_LETTERS)
  t_LONGEST_NAME : Tok
  c_LONGEST_NAME : mg "LONGEST_NAME" = some (.int 6 t_LONGEST_NAME)
  r_LONGEST_NAME : RelV (.int 6) (.int 6 t_LONGEST_NAME)
  t_MOST_COLUMNS : Tok
  c_MOST_COLUMNS : mg "MOST_COLUMNS" = some (.int 6 t_MOST_COLUMNS)
  r_MOST_COLUMNS : RelV (.int 6) (.int 6 t_MOST_COLUMNS)
  t_MOST_TICKS : Tok
  c_MOST_TICKS : mg "MOST_TICKS" = some (.int 2 t_MOST_TICKS)
  r_MOST_TICKS : RelV (.int 2) (.int 2 t_MOST_TICKS)
  t_MOST_SIDES : Tok
  c_MOST_SIDES : mg "MOST_SIDES" = some (.int 3 t_MOST_SIDES)
  r_MOST_SIDES : RelV (.int 3) (.int 3 t_MOST_SIDES)
  t_MOST_OF_SIDE : Tok
  c_MOST_OF_SIDE : mg "MOST_OF_SIDE" = some (.int 3 t_MOST_OF_SIDE)
  r_MOST_OF_SIDE : RelV (.int 3) (.int 3 t_MOST_OF_SIDE)
  t_MOST_TAGS : Tok
  c_MOST_TAGS : mg "MOST_TAGS" = some (.int 3 t_MOST_TAGS)
  r_MOST_TAGS : RelV (.int 3) (.int 3 t_MOST_TAGS)
  p_KINDS : Addr
  c_KINDS : mg "KINDS" = some (.ref p_KINDS)
  r_KINDS : RelV (.ref p_KINDS) (.ref p_KINDS)
  q_KINDS : ∀ H : Hp, SqT K H p_KINDS [.str "name", .str "tick", .str "worth"]
section
variable {P : Program} {w : World} {K : PySem.W.Frag} {mg : Str → Option Value} {base : Heap}
theorem sci_InvalidColumn : FnScope ["self", "at"] ["self", "at"] (defScope si_InvalidColumn) := ⟨rfl, rfl, rfl, by decide +kernel, rfl, by decide +kernel, by decide +kernel⟩
theorem oki_InvalidColumn (T : Top K w mg) : FnOk P w K mg base CX0 1 T.f_InvalidColumn T.di_InvalidColumn ["self", "at"] (spI K T.C_InvalidColumn ("InvalidColumn", ["at"])) := by
  refine T.Fi_InvalidColumn.ok sci_InvalidColumn (fun vs H Q E h => ?_) (fun cdv A outer s H vs Q E hr h => ?_)
  · obtain ⟨a, ys, rfl, hl, _⟩ := h
    rw [List.length_cons, hl]
    rfl
  obtain ⟨a, ys, rfl, hl, ea, k⟩ := h
  refine ⟨_, (pss_cons (ps_xst (pv 0) (pv 1))
    (pss_one (ps_xst (pv 0) pe_str))), ?_⟩
  exact ini1 T.x_InvalidColumn (xq_nof T.xq_InvalidColumn) hl ea k
theorem sci_InvalidSide : FnScope ["self", "at"] ["self", "at"] (defScope si_InvalidSide) := ⟨rfl, rfl, rfl, by decide +kernel, rfl, by decide +kernel, by decide +kernel⟩
theorem oki_InvalidSide (T : Top K w mg) : FnOk P w K mg base CX0 1 T.f_InvalidSide T.di_InvalidSide ["self", "at"] (spI K T.C_InvalidSide ("InvalidSide", ["at"])) := by
  refine T.Fi_InvalidSide.ok sci_InvalidSide (fun vs H Q E h => ?_) (fun cdv A outer s H vs Q E hr h => ?_)
  · obtain ⟨a, ys, rfl, hl, _⟩ := h
    rw [List.length_cons, hl]
    rfl
  obtain ⟨a, ys, rfl, hl, ea, k⟩ := h
  refine ⟨_, (pss_cons (ps_xst (pv 0) (pv 1))
    (pss_one (ps_xst (pv 0) pe_str))), ?_⟩
  exact ini1 T.x_InvalidSide (xq_nof T.xq_InvalidSide) hl ea k
theorem sci_InvalidKey : FnScope ["self", "given"] ["self", "given"] (defScope si_InvalidKey) := ⟨rfl, rfl, rfl, by decide +kernel, rfl, by decide +kernel, by decide +kernel⟩
theorem oki_InvalidKey (T : Top K w mg) : FnOk P w K mg base CX0 1 T.f_InvalidKey T.di_InvalidKey ["self", "given"] (spI K T.C_InvalidKey ("InvalidKey", ["given"])) := by
  refine T.Fi_InvalidKey.ok sci_InvalidKey (fun vs H Q E h => ?_) (fun cdv A outer s H vs Q E hr h => ?_)
  · obtain ⟨a, ys, rfl, hl, _⟩ := h
    rw [List.length_cons, hl]
    rfl
  obtain ⟨a, ys, rfl, hl, ea, k⟩ := h
  refine ⟨_, (pss_cons (ps_xst (pv 0) (pv 1))
    (pss_one (ps_xst (pv 0) pe_str))), ?_⟩
  exact ini1 T.x_InvalidKey (xq_nof T.xq_InvalidKey) hl ea k
theorem sci_InvalidStep : FnScope ["self", "at"] ["self", "at"] (defScope si_InvalidStep) := ⟨rfl, rfl, rfl, by decide +kernel, rfl, by decide +kernel, by decide +kernel⟩
theorem oki_InvalidStep (T : Top K w mg) : FnOk P w K mg base CX0 1 T.f_InvalidStep T.di_InvalidStep ["self", "at"] (spI K T.C_InvalidStep ("InvalidStep", ["at"])) := by
  refine T.Fi_InvalidStep.ok sci_InvalidStep (fun vs H Q E h => ?_) (fun cdv A outer s H vs Q E hr h => ?_)
  · obtain ⟨a, ys, rfl, hl, _⟩ := h
    rw [List.length_cons, hl]
    rfl
  obtain ⟨a, ys, rfl, hl, ea, k⟩ := h
  refine ⟨_, (pss_cons (ps_xst (pv 0) (pv 1))
    (pss_one (ps_xst (pv 0) pe_str))), ?_⟩
  exact ini1 T.x_InvalidStep (xq_nof T.xq_InvalidStep) hl ea k
theorem sci_TooMany : FnScope ["self", "most"] ["self", "most"] (defScope si_TooMany) := ⟨rfl, rfl, rfl, by decide +kernel, rfl, by decide +kernel, by decide +kernel⟩
theorem oki_TooMany (T : Top K w mg) : FnOk P w K mg base CX0 1 T.f_TooMany T.di_TooMany ["self", "most"] (spI K T.C_TooMany ("TooMany", ["most"])) := by
  refine T.Fi_TooMany.ok sci_TooMany (fun vs H Q E h => ?_) (fun cdv A outer s H vs Q E hr h => ?_)
  · obtain ⟨a, ys, rfl, hl, _⟩ := h
    rw [List.length_cons, hl]
    rfl
  obtain ⟨a, ys, rfl, hl, ea, k⟩ := h
  refine ⟨_, (pss_cons (ps_xst (pv 0) (pv 1))
    (pss_one (ps_xst (pv 0) pe_str))), ?_⟩
  exact ini1 T.x_TooMany (xq_nof T.xq_TooMany) hl ea k
end
end Bl
namespace Bl
open PySem L2 De
local macro_rules | `(tactic| sizeOf_list_dec) => `(tactic| simp only [dDef, startS, dSeqS, dNext, dBrk, dCnt, dAsg, dDrop, dRet, dRetN, dIfS, dFor, dVar, dC, dNil, dCons, dOp, dFn, dTst, dAndT, dOrT, dNotT, dAnd, dOr, dNot, dIfE, dChain, dTup, dLst, dLstO, dIsi, dStar, dPart, dNoPart, dSl, dAppend, dAppV, dRng1, dRng2, dEnum, dEnumA, dZip, dCount, dCount.isSeqL, dCount.itemsL, end_at, end_set, rdd_end, dgName, dgNil, dgCons, dgTup, dSeq, dLc, dLcO, dYes, dCall, dCall0,
  rdd_d, rdds_nil, rdds_cons, asB_bl, asL_some, seq_lst, seq_tup, seq_str, ex_sl, dts, opIsN, opNotN, opEq, opNe, has_str_non, has_int_non, has_bool_non, has_list_non, has_tuple_non, has_dict_non, isN_non, notRaw_non, data_non, has_str_bl, has_int_bl, has_bool_bl, has_list_bl, has_tuple_bl, has_dict_bl, isN_bl, notRaw_bl, data_bl, has_str_int, has_int_int, has_bool_int, has_list_int, has_tuple_int, has_dict_int, isN_int, notRaw_int, data_int, has_str_str, has_int_str, has_bool_str, has_list_str, has_tuple_str, has_dict_str, isN_str, notRaw_str, data_str, has_str_lst, has_int_lst, has_bool_lst, has_list_lst, has_tuple_lst, has_dict_lst, isN_lst, notRaw_lst, data_lst, has_str_tup, has_int_tup, has_bool_tup, has_list_tup, has_tuple_tup, has_dict_tup, isN_tup, notRaw_tup, data_tup, has_str_dct, has_int_dct, has_bool_dct, has_list_dct, has_tuple_dct, has_dict_dct, isN_dct, notRaw_dct, data_dct, has_str_ins, has_int_ins, has_bool_ins, has_list_ins, has_tuple_ins, has_dict_ins, isN_ins, notRaw_ins, data_ins, has_str_raw, has_int_raw, has_bool_raw, has_list_raw, has_tuple_raw, has_dict_raw, isN_raw, notRaw_raw, data_raw, has_str_lam, has_int_lam, has_bool_lam, has_list_lam, has_tuple_lam, has_dict_lam, isN_lam, notRaw_lam, data_lam, dLam, dAllGot, keyD_int, keyD_str, add_int, add_str, add_lst, add_tup, i0_int, oi_int, in_lst, in_tup, in_dct_str, in_sign, optP_some, De.ix_lst, De.ix_tup, ix_dct_str, all_lst, atI_0, atI_1, atI_2, len_lst, len_tup, len_str, tuple_lst, tuple_tup, list_lst, list_tup, pln_non, dep_non, pln_bl, dep_bl, pln_int, dep_int, pln_str, dep_str, pln_lst, pln_tup, dep_lst, dep_tup, plns_nil, plns_cons, deps_nil, deps_cons, eqB_int, eqB_str, eqB_non_str, eqB_str_non, eqB_bl_str, eqB_str_bl, eqB_int_str, eqB_str_int, eqB_lst_str, eqB_str_lst, eqB_tup_str, eqB_str_tup, sz_0, sz_1, sz_2, sz_3, sz_4, sz_5, sz_6, sz_7, sz_8, sz_9, sz_10, sz_11, sz_12, sz_13, sz_14, lcStep, wipeS, dLenSet, isSeq, itemsD, dDc, dcStep, dFld, dFldS, dFldA, insD, InsF.look, InsF.lack, dMeth, dMethN, dProp, dMake, dMakeK, dRaise, dCallL, opTab, opInTab, dAppE, dInsE, lstAt, dIndexL, dLcK, fxVar, fxFld, putG, dFrz, dGot, dPar, int_int, int_bl, abs_int, min_int, max_int, mul_int, mul_lst, dgSub, List.lookup_cons, List.lookup_nil, Int.reduceNeg, List.map_cons, List.map_nil, List.length_cons, List.length_nil, List.replicate_succ, List.replicate_zero, List.append_nil, List.nil_append, List.cons_append, List.set_cons_zero, List.set_cons_succ,
  Option.map_some, Option.map_none, Nat.zero_add, Nat.add_zero, Nat.reduceAdd, Nat.reduceLeDiff, Nat.min_self, Nat.reduceSub, Nat.sub_self, Nat.add_one_sub_one, List.getElem?_cons_zero, List.getElem?_cons_succ, if_true, if_false, true_and, and_true, Bool.not_true, Bool.not_false, Bool.true_or, Bool.false_or, Bool.or_true, Bool.or_false, Bool.true_and, Bool.false_and, Bool.and_true, Bool.and_false, Bool.false_eq_true, reduceIte, reduceCtorEq, Bool.not_eq_true', not_true_eq_false, not_false_eq_true, exists_eq_left', exists_eq_left, exists_and_left, Option.some.injEq, Ov.o.injEq, OO.lst.injEq, Ov.d.injEq, and_self])
abbrev zT {K : PySem.W.Frag} {mg : Str → Option Value} (T : Top K w mg) : Zs := ⟨T.C_LotsError, T.C_Missing, T.C_NothingLeft⟩
abbrev n_is_name : List Str := ["value", "letter"]
theorem sc_is_name : FnScope n_is_name ["value"] (defScope s_is_name) := ⟨rfl, rfl, rfl, by decide +kernel, rfl, by decide +kernel, by decide +kernel⟩
section
variable {P : Program} {w : World} {K : PySem.W.Frag} {mg : Str → Option Value} {base : Heap}
def nmD : Dt → Bool
  | .str z => nameB z
  | _ => false
def fIsName : FD := fun xs os Q _ => match xs with
  | [.d d] => data d = true ∧ Q (.d (.bl (nmD d))) os
  | _ => False
theorem isName_eq {d : Dt} {os : List OO} {Q : Ov → List OO → Prop} {Ex : Exn → List OO → Prop} : fIsName [.d d] os Q Ex = (data d = true ∧ Q (.d (.bl (nmD d))) os) := rfl
theorem one_get {xs : List Ov} {k : Dt → Prop} (h : match xs with | [.d d] => k d | _ => False) : ∃ d, xs = [.d d] ∧ k d := by
  split at h
  · exact ⟨_, rfl, h⟩
  · exact h.elim
theorem ok_is_name (T : Top K w mg) : FnOk P w K mg base CX0 1 T.a_is_name T.d_is_name ["value"] (spD K (zT T) 1 fIsName) := by
  refine fn_d T.F_is_name sc_is_name (fun cdv A outer s H E hr => (pss_consD (psd_if (ptd_w (pwd_or (ptd_not (ptd_tst (pd_isi (c := .str) (pe_callB call_isi (by rfl) T.z_isinstance (by decide +kernel) (pa_cons (pd_var (pv 0)) (pa_cons (pe_bltn (v := .ty "str") (by rfl) T.z_str (by decide +kernel) rfl) pa_nil)))))) (pwd_or1 (ptd_not (ptd_chain od_le od_le pd_int (pd_callB cd_len (by rfl) T.z_len (by decide +kernel) (pad_cons (pd_var (pv 0)) pad_nil)) (pd_c (pe_glob rfl T.c_LONGEST_NAME T.r_LONGEST_NAME) (fun _ => (.int _)))))))) (pss_oneD (psd_ret pd_bl)) pss_nilD)
    (pss_oneD (psd_ret (pd_callB (cd_all rfl) (by rfl) T.z_all (by decide +kernel) (pad_cons (pd_lc (own := [("letter", 1)]) (E' := E0) rfl sc_is_name.nd (pid_seq (pd_var (pv 0))) (blkOk_by (own := [("letter", 1)]) (N := n_is_name) (sc := defScope s_is_name) (by decide +kernel)) (fun _ _ _ _ _ => (pgd_name (pg_name (i := 1) sc_is_name.nd rfl (Or.inl rfl)))) (fun _ _ _ _ _ => ptsd_nil) (fun _ _ _ _ _ => (pd_cmp (od_in (hu65 hr)) (pd_var (pv 1)) (pd_c (pe_glob rfl T.c_LETTERS T.r_LETTERS) (fun _ => (.str _ (by decide +kernel)))) rfl)) (by decide)) pad_nil)))))) (fun xs os Q Ex hn h => ?_)
  obtain ⟨d, rfl, hd, q⟩ := one_get h
  sizeOf_list_dec
  refine ⟨hd, ?_⟩
  cases d with
  | str z =>
    sizeOf_list_dec
    have e : nmD (.str z) = (decide ((1 : Int) ≤ z.length) && (decide ((z.length : Int) ≤ 6) && z.cps.toList.all (fun c => decide (c ∈ alpha)))) := by
      show nameB z = _
      unfold nameB
      rw [show decide ((1 : Int) ≤ z.length) = decide (1 ≤ z.length) from decide_eq_decide.mpr (by omega), show decide ((z.length : Int) ≤ 6) = decide (z.length ≤ 6) from decide_eq_decide.mpr (by omega), Bool.and_assoc]
    rw [e] at q
    split
    · rename_i h1
      rw [h1, Bool.true_and] at q
      split
      · rename_i h2
        rw [h2] at q
        exact q
      · rename_i h2
        rw [Bool.of_not_eq_false h2, Bool.true_and] at q
        refine lc_map (fun d => match d with | .str z => .bl (z.cps.toList.all fun c => decide (c ∈ alpha)) | _ => .non) (fun d hd k s hk => ?_) ?_
        · unfold chars at hd
          obtain ⟨c, _, rfl⟩ := List.mem_map.mp hd
          sizeOf_list_dec
          rw [alpha_eq]
          simpa using hk
        · sizeOf_list_dec
          unfold chars
          rw [List.map_map]
          show optP (bls (z.cps.toList.map fun c => .bl ([c].all fun c => decide (c ∈ alpha)))) _
          rw [bls_map, optP_some, List.all_map]
          simpa [Function.comp_def] using q
    · rename_i h1
      rw [Bool.eq_false_iff.mpr h1] at q
      exact q
  | _ =>
    sizeOf_list_dec
    exact q
end
end Bl
namespace Bl
open PySem L2
abbrev n_box : List Str := ["_law_script", "_law_mixed_here", "_law_cell"]
theorem sc_box : FnScope n_box ["_law_script"] (defScope s_box) := ⟨rfl, rfl, rfl, by decide +kernel, rfl, by decide +kernel, by decide +kernel⟩
abbrev n_pull : List Str := ["_law_box_here", "_law_many", "_law_cell", "_law_digit", "_law_twice"]
theorem sc_pull : FnScope n_pull ["_law_box_here", "_law_many"] (defScope s_pull) := ⟨rfl, rfl, rfl, by decide +kernel, rfl, by decide +kernel, by decide +kernel⟩
abbrev n_of : List Str := ["_law_box_here", "_law_some"]
theorem sc_of : FnScope n_of ["_law_box_here", "_law_some"] (defScope s_of) := ⟨rfl, rfl, rfl, by decide +kernel, rfl, by decide +kernel, by decide +kernel⟩
section
variable {P : Program} {w : World} {K : PySem.W.Frag} {mg : Str → Option Value} {base : Heap}
theorem ok_pull (T : Top K w mg) : FnOk P w K mg base CX0 1 T.a_pull T.d_pull ["_law_box_here", "_law_many"] (spPull K) := by
  refine T.F_pull.ok sc_pull (fun vs H Q E h => ?_) (fun cdv A outer s H vs Q E hr h => ?_)
  · obtain ⟨p, l, n, rfl, _⟩ := h
    rfl
  obtain ⟨p, l, n, rfl, ⟨ns, i, w', m, c, hp, hl, hi, hm0, hm1⟩, hn0, hn1, k⟩ := h
  -- what a box at the end gives
  have fin : ∀ (H' : Hp) (i' w2 m' c' d : Int), H' p = some (.lst (boxL l i' w2 m' c')) → But p H H' → 0 ≤ i' → 0 ≤ m' → m' < 2147483629 → 0 ≤ d → d < n → Q (.int d) H' := fun H' i' w2 m' c' d h1 h2 h3 h4 h5 h6 h7 =>
    k d H' h6 h7 ⟨ns, i', w2, m', c', h1, h2 _ _ hl, h3, h4, h5⟩ h2
  refine ⟨_, (pss_cons (ps_asg (pe_op op_add (pe_ix ix_list (pv 0) pe_int (fun _ _ => rfl)) pe_int) (pg_sub (pv 0) pe_int set_list))
    (C8.pss_cut (ps_if (PW.pt (pw_and (pt_cmpR op_eq (pe_ix ix_list (pv 0) pe_int (fun _ _ => rfl)) pe_int (nomark _)) (pw_and1 (pt_cmpR op_lt (pe_ix ix_list (pv 0) pe_int (fun _ _ => rfl)) (pe_callB call_len_seq (by rfl) T.z_len (by decide +kernel) (pa_cons (pe_ix ix_list (pv 0) pe_int (fun _ _ => rfl)) pa_nil)) (nomark _))))) (pss_cons (ps_set (i := 2) sc_pull.nd rfl (Or.inl rfl) (pe_ix ix_list (pe_ix ix_list (pv 0) pe_int (fun _ _ => rfl)) (pe_ix ix_list (pv 0) pe_int (fun _ _ => rfl)) (fun _ _ => rfl)))
    (pss_cons (ps_asg (pe_op op_add (pe_ix ix_list (pv 0) pe_int (fun _ _ => rfl)) pe_int) (pg_sub (pv 0) pe_int set_list))
    (pss_one (ps_if (pt_cmpR op_ge (pe_callB call_abs (by rfl) T.z_abs (by decide +kernel) (pa_cons (pv 2) pa_nil)) (pe_op op_pow pe_int pe_int) (nomark _)) (pss_one (ps_asg (pe_callB call_abs (by rfl) T.z_abs (by decide +kernel) (pa_cons (pv 2) pa_nil)) (pg_sub (pv 0) pe_int set_list))) (pss_one (ps_asg (pe_op op_mod (pe_callTy call_int1 (by rfl) T.z_int (by decide +kernel) (pa_cons (pe_op op_add (pe_op op_add (pe_op op_mul (pe_ix ix_list (pv 0) pe_int (fun _ _ => rfl)) pe_int) (pe_op op_mul (pe_op op_mod (pe_callTy call_int1 (by rfl) T.z_int (by decide +kernel) (pa_cons (pv 2) pa_nil)) pe_int) pe_int)) pe_int) pa_nil)) pe_int) (pg_sub (pv 0) pe_int set_list))))))) pss_nil)
    (pss_cons (ps_if (pt_cmpR op_gt (pe_ix ix_list (pv 0) pe_int (fun _ _ => rfl)) pe_int (nomark _)) (pss_cons (ps_set (i := 3) sc_pull.nd rfl (Or.inl rfl) (pe_op op_mod (pe_callTy call_int1 (by rfl) T.z_int (by decide +kernel) (pa_cons (pe_ix ix_list (pv 0) pe_int (fun _ _ => rfl)) pa_nil)) (pv 1)))
    (pss_cons (ps_asg (pe_op op_fdiv (pe_ix ix_list (pv 0) pe_int (fun _ _ => rfl)) (pv 1)) (pg_sub (pv 0) pe_int set_list))
    (pss_one (ps_ret (pv 3))))) pss_nil)
    (pss_cons (ps_set (i := 4) sc_pull.nd rfl (Or.inl rfl) (pe_op op_mod (pe_callTy call_int1 (by rfl) T.z_int (by decide +kernel) (pa_cons (pe_op op_add (pe_op op_mul (pe_ix ix_list (pv 0) pe_int (fun _ _ => rfl)) (pe_ix ix_list (pv 0) pe_int (fun _ _ => rfl))) (pe_op op_mul (pe_ix ix_list (pv 0) pe_int (fun _ _ => rfl)) pe_int)) pa_nil)) pe_int))
    (pss_cons (ps_asg (pe_op op_mod (pe_callTy call_int1 (by rfl) T.z_int (by decide +kernel) (pa_cons (pe_op op_add (pe_op op_add (pe_op op_mul (pv 4) pe_int) (pe_op op_mul (pe_ix ix_list (pv 0) pe_int (fun _ _ => rfl)) pe_int)) pe_int) pa_nil)) pe_int) (pg_sub (pv 0) pe_int set_list))
    (pss_one (ps_ret (pe_op op_mod (pe_callTy call_int1 (by rfl) T.z_int (by decide +kernel) (pa_cons (pe_op op_fdiv (pe_ix ix_list (pv 0) pe_int (fun _ _ => rfl)) pe_int) pa_nil)) (pv 1))))))))), ?_⟩
  -- box[4] = box[4] + 1
  refine ⟨_, rfl, p, _, _, _, rfl, rfl, SqL.of hp, rfl, _, _, rfl, rfl, _, rfl, p, _, _, _, rfl, rfl, hp, rfl, ?_⟩
  have e1 : But p H (upd H p (.lst (boxL l i w' m (c + 1)))) := But.put (Same.refl _)
  have hp1 : (upd H p (.lst (boxL l i w' m (c + 1)))) p = some (.lst (boxL l i w' m (c + 1))) := upd_same
  show tSeq _ _ _ _ (upd H p (.lst (boxL l i w' m (c + 1))))
  generalize (upd H p (.lst (boxL l i w' m (c + 1)))) = H1 at e1 hp1 ⊢
  have hl1 : SqL K H1 l (ns.map V.int) := SqL.of (hide_le _ _ (e1 _ _ hl))
  clear hp
  refine ⟨fun σ H2 => ∃ (o2 : Option V) (i2 w2 m2 : Int), σ = [some (.ref p), some (.int n), o2, none, none] ∧ H2 p = some (.lst (boxL l i2 w2 m2 (c + 1))) ∧ But p H H2 ∧ 0 ≤ i2 ∧ 0 ≤ m2 ∧ m2 < 2147483629, ?_, ?_⟩
  -- if box[2] == 0 and box[1] < len(box[0])
  · refine ⟨_, rfl, p, _, _, _, rfl, rfl, SqL.of hp1, rfl, rfl, _, rfl, ?_⟩
    refine ite2 (fun _ => ?_) (fun _ => iteF ⟨none, i, w', m, rfl, hp1, e1, hi, hm0, hm1⟩)
    refine ⟨_, rfl, p, _, _, _, rfl, rfl, SqL.of hp1, rfl, _, rfl, p, _, _, _, rfl, rfl, SqL.of hp1, rfl, l, _, rfl, .inl hl1, _, _, rfl, rfl, _, rfl, ?_⟩
    refine ite2 (fun hlt => ?_) (fun _ => ⟨none, i, w', m, rfl, hp1, e1, hi, hm0, hm1⟩)
    have hlt' : i < ns.length := by
      have := of_decide_eq_true hlt
      simpa using this
    obtain ⟨v, hv⟩ := atI_int hi hlt'
    -- cell = box[0][box[1]]; box[1] = box[1] + 1
    refine ⟨_, rfl, p, _, _, _, rfl, rfl, SqL.of hp1, rfl, _, rfl, p, _, _, _, rfl, rfl, SqL.of hp1, rfl, l, _, _, _, rfl, rfl, hl1, hv, ?_⟩
    refine ⟨_, rfl, p, _, _, _, rfl, rfl, SqL.of hp1, rfl, _, _, rfl, rfl, _, rfl, p, _, _, _, rfl, rfl, hp1, rfl, ?_⟩
    -- if abs(cell) >= 10 ** 18
    refine ⟨_, rfl, v, rfl, _, _, rfl, rfl, ⟨by decide, by decide, by decide⟩, _, _, rfl, rfl, _, rfl, ?_⟩
    refine ite2 (fun _ => ?_) (fun _ => ?_)
    · refine ⟨_, rfl, v, rfl, _, rfl, p, _, _, _, rfl, rfl, upd_same, rfl, ?_⟩
      exact ⟨_, i + 1, _, m, rfl, upd_same, (But.put (But.put e1)), by omega, hm0, hm1⟩
    · refine ⟨_, rfl, p, _, _, _, rfl, rfl, SqL.of upd_same, rfl, _, _, rfl, rfl, .inl (by constructor <;> omega), _, rfl, .inl ⟨v, rfl, ?_⟩⟩
      have b1 := mod_lt' (a := v) (b := 1000003) (by decide)
      refine ⟨_, _, rfl, rfl, (by show (0 : Int) < 1000003; decide), _, _, rfl, rfl, .inl (by constructor <;> omega), _, _, rfl, rfl, _, _, rfl, rfl, .inl ⟨_, rfl, ?_⟩⟩
      refine ⟨_, _, rfl, rfl, (by show (0 : Int) < 2147483629; decide), _, rfl, p, _, _, _, rfl, rfl, upd_same, rfl, ?_⟩
      exact ⟨_, i + 1, w', _, rfl, upd_same, (But.put (But.put e1)), by omega, Int.emod_nonneg _ (by decide), Int.emod_lt_of_pos _ (by decide)⟩
  -- the rest
  · rintro σ H2 ⟨o2, i2, w2, m2, rfl, hp2, e2, hi2, hm20, hm21⟩
    refine ⟨_, rfl, p, _, _, _, rfl, rfl, SqL.of hp2, rfl, _, _, rfl, rfl, _, rfl, ?_⟩
    refine ite2 (fun _ => ?_) (fun _ => ?_)
    · refine ⟨_, rfl, p, _, _, _, rfl, rfl, SqL.of hp2, rfl, .inl ⟨_, rfl, ?_⟩⟩
      refine ⟨_, rfl, _, _, rfl, rfl, hn0, ?_⟩
      refine ⟨_, rfl, p, _, _, _, rfl, rfl, SqL.of hp2, rfl, _, rfl, _, _, rfl, rfl, ⟨hn0, hn1⟩, _, rfl, p, _, _, _, rfl, rfl, hp2, rfl, ?_⟩
      refine ⟨_, rfl, ?_⟩
      exact fin _ i2 _ m2 _ _ upd_same (But.put e2) hi2 hm20 hm21 (Int.emod_nonneg _ (by omega)) (Int.emod_lt_of_pos _ hn0)
    · refine ⟨_, rfl, p, _, _, _, rfl, rfl, SqL.of hp2, rfl, _, rfl, p, _, _, _, rfl, rfl, SqL.of hp2, rfl, _, _, rfl, rfl, .inl (by constructor <;> omega), _, rfl, p, _, _, _, rfl, rfl, SqL.of hp2, rfl, _, _, rfl, rfl, .inr (by constructor <;> omega), _, _, rfl, rfl, .inl ⟨_, rfl, ?_⟩⟩
      have b1 := mod_lt' (a := m2 * m2 + (c + 1) * 8317) (b := 2147483549) (by decide)
      refine ⟨_, _, rfl, rfl, (by show (0 : Int) < 2147483549; decide), ?_⟩
      refine ⟨_, rfl, _, _, rfl, rfl, .inl (by constructor <;> omega), _, rfl, p, _, _, _, rfl, rfl, SqL.of hp2, rfl, _, _, rfl, rfl, .inl (by constructor <;> omega), _, _, rfl, rfl, _, _, rfl, rfl, .inl ⟨_, rfl, ?_⟩⟩
      refine ⟨_, _, rfl, rfl, (by show (0 : Int) < 2147483629; decide), _, rfl, p, _, _, _, rfl, rfl, hp2, rfl, ?_⟩
      refine ⟨_, rfl, p, _, _, _, rfl, rfl, SqL.of upd_same, rfl, _, _, rfl, rfl, (by constructor <;> decide), .inl ⟨_, rfl, ?_⟩⟩
      refine ⟨_, rfl, _, _, rfl, rfl, hn0, ?_⟩
      exact fin _ i2 w2 _ _ _ upd_same (But.put e2) hi2 (Int.emod_nonneg _ (by decide)) (Int.emod_lt_of_pos _ (by decide)) (Int.emod_nonneg _ (by omega)) (Int.emod_lt_of_pos _ hn0)
theorem ok_box (T : Top K w mg) : FnOk P w K mg base CX0 1 T.a_box T.d_box ["_law_script"] (De.spBox2 K) := by
  refine T.F_box.ok sc_box (fun vs H Q E h => ?_) (fun cdv A outer s H vs Q E hr h => ?_)
  · obtain ⟨a, ns, rfl, _⟩ := h
    rfl
  obtain ⟨a, ns, rfl, hS, h63, k⟩ := h
  refine ⟨_, (pss_cons (ps_set (i := 1) sc_box.nd rfl (Or.inl rfl) pe_int)
    (pss_cons (ps_for PassesOwn.never rfl (pi_list (pe_slice sl_list (pv 0) po_none (po_some pe_int))) (pg_name (i := 2) sc_box.nd rfl (Or.inl rfl))
    (pss_one (ps_set (i := 1) sc_box.nd rfl (Or.inl rfl) (pe_op op_mod (pe_callTy call_int1 (by rfl) T.z_int (by decide +kernel) (pa_cons (pe_op op_add (pe_op op_add (pe_op op_mul (pv 1) pe_int) (pe_op op_mul (pe_op op_mod (pe_callTy call_int1 (by rfl) T.z_int (by decide +kernel) (pa_cons (pv 2) pa_nil)) pe_int) pe_int)) pe_int) pa_nil)) pe_int))))
    (pss_one (ps_ret (pe_lst (pa_cons (pe_callTy call_list_of (by rfl) T.z_list (by decide +kernel) (pa_cons (pe_slice sl_list (pv 0) po_none (po_some pe_int)) pa_nil)) (pa_cons pe_int (pa_cons pe_int (pa_cons (pv 1) (pa_cons pe_int pa_nil)))))))))), ?_⟩
  refine ⟨_, rfl, _, rfl, a, _, rfl, hS, fun p hp => ?_⟩
  rw [cutV_63 h63]
  have g1 : Same H (upd H p (.lst (ns.map V.int))) := same_new hp _
  refine ⟨p, rfl, ⟨_, SqL.of upd_same⟩, for_list (K := K) (a := p) (xs := ns.map V.int) (fun i σ H2 => ∃ (m : Int) (o : Option V), σ = [some (.ref a), some (.int m), o] ∧ 0 ≤ m ∧ m < 2147483629 ∧ Same (upd H p (.lst (ns.map V.int))) H2)
    ⟨10010, none, rfl, by decide, by decide, Same.refl _⟩ (fun i σ H2 _ ⟨_, _, _, _, _, s2⟩ => s2.seq (SqL.of upd_same)) ?_ ?_⟩
  · rintro i x σ H2 hx ⟨m, o, rfl, h0, h1, s2⟩
    obtain ⟨v, rfl⟩ : ∃ v : Int, x = .int v := by
      rw [List.getElem?_map] at hx
      cases e : ns[i]? with
      | none => rw [e] at hx; cases hx
      | some z => rw [e] at hx; exact ⟨z, (Option.some.inj hx).symm⟩
    have b1 := mod_lt' (a := v) (b := 1000003) (by decide)
    refine ⟨_, rfl, _, _, rfl, rfl, .inl (by constructor <;> omega), _, rfl, .inl ⟨v, rfl, ?_⟩⟩
    refine ⟨_, _, rfl, rfl, (by show (0 : Int) < 1000003; decide), _, _, rfl, rfl, .inl (by constructor <;> omega), _, _, rfl, rfl, _, _, rfl, rfl, .inl ⟨_, rfl, ?_⟩⟩
    refine ⟨_, _, rfl, rfl, (by show (0 : Int) < 2147483587; decide), ?_⟩
    have b2 := mod_lt' (a := m * 50021 + v % 1000003 * 769 + 17) (b := 2147483587) (by decide)
    exact ⟨_, _, rfl, b2.1, by omega, s2⟩
  · rintro σ H2 ⟨m, o, rfl, h0, h1, s2⟩
    have s3 := g1.trans s2
    refine ⟨_, rfl, _, rfl, a, _, rfl, s3.seq hS, fun q hq => ?_⟩
    rw [cutV_63 h63]
    have g2 := same_new hq (.lst (ns.map V.int))
    refine ⟨q, _, rfl, .inl (SqL.of upd_same), fun l hl => ?_⟩
    have g3 := same_new hl (.lst (ns.map V.int))
    refine ⟨_, rfl, (by show 5 ≤ sizeLine; decide), fun b hb => ?_⟩
    have g4 := same_new hb (.lst (boxL l 0 0 m 0))
    have nb : l ≠ b := ne_of_none upd_same hb
    refine k b l m _ (s3.free (g2.free (g3.free hb))) nb ?_ upd_same h0 h1 (s3.trans (g2.trans (g3.trans g4)))
    rw [upd_ne nb, upd_same]
theorem ok_of (T : Top K w mg) : FnOk P w K mg base CX0 2 T.a_of T.d_of ["_law_box_here", "_law_some"] (spOf K) := by
  refine T.F_of.ok sc_of (fun vs H Q E h => ?_) (fun cdv A outer s H vs Q E hr h => ?_)
  · obtain ⟨p, l, v, rfl, _⟩ := h
    rfl
  obtain ⟨p, l, v, rfl, B, h⟩ := h
  refine ⟨_, (pss_one (ps_ret (pe_ix ix_seq (pv 1) (pe_call (ok_pull T) (hr.mono (by decide)) rfl T.m_pull T.F_pull.kp T.b_pull .nil pass0 (pa_cons (pv 0) (pa_cons (pe_callB call_len (by rfl) T.z_len (by decide +kernel) (pa_cons (pv 1) pa_nil)) pa_nil))) (fun _ _ => rfl)))), ?_⟩
  rcases h with ⟨a, xs, rfl, hS, h0, h1, k⟩ | ⟨z, rfl, h0, h1, k⟩
  · refine ⟨_, rfl, _, rfl, _, rfl, _, xs.length, rfl, ?_, p, l, xs.length, rfl, B, by omega, by omega, fun d H' hd0 hd1 B' e => ?_⟩
    · rcases hS with hS | hS
      · exact .inl ⟨xs, hide_le.seq hS, rfl⟩
      · exact .inr ⟨xs, Same.tup hide_le hS, rfl⟩
    · obtain ⟨n, x, hx, hat⟩ := atI_some hd0 hd1
      rcases hS with hS | hS
      · exact .inl ⟨a, xs, d, x, rfl, rfl, hide_le.seq (e.seq hS), hat, k n x H' hx B' e⟩
      · exact .inr (.inl ⟨a, xs, d, x, rfl, rfl, Same.tup hide_le (Same.tup e hS), hat, k n x H' hx B' e⟩)
  · refine ⟨_, rfl, _, rfl, _, rfl, _, z.length, rfl, ⟨small (by omega), rfl⟩, p, l, z.length, rfl, B, by omega, by omega, fun d H' hd0 hd1 B' e => ?_⟩
    obtain ⟨n, rfl⟩ := Int.eq_ofNat_of_zero_le hd0
    have hn : n < z.cps.toList.length := by
      rw [Array.length_toList]
      show n < z.length
      omega
    exact .inr (.inr ⟨z, n, z.cps.toList[n], rfl, rfl, small (by omega), atI_nat (List.getElem?_eq_getElem hn), k _ H' (List.getElem_mem hn) B' e⟩)
end
end Bl
namespace Bl
open PySem L2
abbrev n_same : List Str := ["_law_found", "_law_due", "_law_a", "_law_b"]
theorem sc_same : FnScope n_same ["_law_found", "_law_due"] (defScope s_same) := ⟨rfl, rfl, rfl, by decide +kernel, rfl, by decide +kernel, by decide +kernel⟩
section
variable {P : Program} {w : World} {K : PySem.W.Frag} {mg : Str → Option Value} {base : Heap}
theorem walk_zipT {a b : Addr} {xs ys : List V} {n : Nat} (hn : n = min xs.length ys.length) : Walk (RZ.ItzT K a b) n (fun H => SqT K H a xs ∧ SqT K H b ys) (YPair (fun i => xs[i]?) (fun i => ys[i]?)) := by
  subst hn
  refine ⟨fun i _ hi q => ?_, fun _ q => ⟨xs, ys, q.1, q.2, by omega⟩, fun i H v H' _ q y => ?_⟩
  · have h1 : i < xs.length := by omega
    have h2 : i < ys.length := by omega
    exact ⟨xs, ys, xs[i], ys[i], q.1, q.2, by simp [h1], by simp [h2]⟩
  · obtain ⟨T, x, z, h1, h2, h3, h4, h5⟩ := y
    exact ⟨T, x, z, h1, h2, h3, h4 xs q.1, h5 ys q.2⟩
theorem kit_lt (d : PyData) : PySem.W.kitAny K (.type (tyN d)) [.type "list", .type "tuple"] = some (match d with | .list _ => true | .tuple _ => true | _ => false) := by
  cases d with
  | list ds => exact kitAny_cons (b := true) (kit_ty (by dsimp only [tyN]; decide +kernel)) (fun h => nomatch h) (fun _ => rfl)
  | tuple ds => exact kitAny_cons (b := false) (kit_ty (by dsimp only [tyN]; decide +kernel)) (fun _ => kitAny_cons (b := true) (kit_ty (by dsimp only [tyN]; decide +kernel)) (fun h => nomatch h) (fun _ => rfl)) (fun h => nomatch h)
  | _ => exact kitAny_cons (b := false) (kit_ty (by dsimp only [tyN]; decide +kernel)) (fun _ => kitAny_cons (b := false) (kit_ty (by dsimp only [tyN]; decide +kernel)) (fun _ => kitAny_nil) (fun h => nomatch h)) (fun h => nomatch h)
theorem ok_same0 (T : Top K w mg) : FnOk P w K mg base CX0 0 T.a_same T.d_same ["_law_found", "_law_due"] (spSame K 0) := by
  have no : ∀ vs H Q E, ¬ spSame K 0 vs H Q E := fun vs H Q E h => by
    obtain ⟨x, y, d, _, _, _, h1, _⟩ := h
    cases d <;> exact h1
  exact ⟨fun vs H Q E h => absurd h (no vs H Q E), fun A outer s H args us vs Q E _ _ _ _ h => absurd h (no vs H Q E)⟩
theorem ok_same1 (T : Top K w mg) {n : Nat} (G : FnOk P w K mg base CX0 n T.a_same T.d_same ["_law_found", "_law_due"] (spSame K n)) : FnOk P w K mg base CX0 (n + 1) T.a_same T.d_same ["_law_found", "_law_due"] (spSame K (n + 1)) := by
  refine T.F_same.ok sc_same (fun vs H Q E h => ?_) (fun cdv A outer s H vs Q E hr h => ?_)
  · obtain ⟨x, y, d, rfl, _⟩ := h
    rfl
  obtain ⟨x, y, d, rfl, hx, hy, hf, k⟩ := h
  refine ⟨_, (pss_cons (ps_if (PW.pt (pw_or (pt_cmpR op_isN (pv 1) pe_non (nomark _)) (pw_or1 (pt_cmpR op_isN (pv 0) pe_non (nomark _))))) (pss_one (ps_ret (pe_and (pe_cmpR op_isN (pv 1) pe_non (nomark _)) (pe_one (pe_cmpR op_isN (pv 0) pe_non (nomark _)))))) pss_nil)
    (pss_cons (ps_if (pt_val (pe_callB call_isiT (by rfl) T.z_isinstance (by decide +kernel) (pa_cons (pv 1) (pa_cons (pe_tup (pa_cons (pe_bltn (v := .ty "list") (by rfl) T.z_list (by decide +kernel) rfl) (pa_cons (pe_bltn (v := .ty "tuple") (by rfl) T.z_tuple (by decide +kernel) rfl) pa_nil))) pa_nil)))) (pss_cons (ps_if (PW.pt (pw_or (pt_cmpR op_ne (pe_callB call_isi (by rfl) T.z_isinstance (by decide +kernel) (pa_cons (pv 0) (pa_cons (pe_bltn (v := .ty "list") (by rfl) T.z_list (by decide +kernel) rfl) pa_nil))) (pe_callB call_isi (by rfl) T.z_isinstance (by decide +kernel) (pa_cons (pv 1) (pa_cons (pe_bltn (v := .ty "list") (by rfl) T.z_list (by decide +kernel) rfl) pa_nil))) (nomark _)) (pw_or1 (pt_cmpR op_ne (pe_callB call_isi (by rfl) T.z_isinstance (by decide +kernel) (pa_cons (pv 0) (pa_cons (pe_bltn (v := .ty "tuple") (by rfl) T.z_tuple (by decide +kernel) rfl) pa_nil))) (pe_callB call_isi (by rfl) T.z_isinstance (by decide +kernel) (pa_cons (pv 1) (pa_cons (pe_bltn (v := .ty "tuple") (by rfl) T.z_tuple (by decide +kernel) rfl) pa_nil))) (nomark _))))) (pss_one (ps_ret pe_bl)) pss_nil)
    (pss_one (ps_ret (pe_and (pe_cmpR op_eq (pe_callB call_len (by rfl) T.z_len (by decide +kernel) (pa_cons (pv 0) pa_nil)) (pe_callB call_len (by rfl) T.z_len (by decide +kernel) (pa_cons (pv 1) pa_nil)) (nomark _)) (pe_one (pe_callB (cr_all rfl) (by rfl) T.z_all (by decide +kernel) (pa_cons (pe_lc (own := [("_law_a", 2), ("_law_b", 3)]) (g := gTup K 2 (gCons (gName 2) (gCons (gName 3) gNil))) (tt := tYes) rfl sc_same.nd (RZ.pi_zipA (by rfl) T.z_zip (pa_cons (pv 0) (pa_cons (pv 1) pa_nil))) (blkOk_by (own := [("_law_a", 2), ("_law_b", 3)]) (N := n_same) (sc := defScope s_same) (by decide +kernel)) (fun _ _ _ _ _ => by exact (pg_tup rfl (pgs_cons (pg_name (i := 2) sc_same.nd rfl (Or.inl rfl)) (pgs_cons (pg_name (i := 3) sc_same.nd rfl (Or.inl rfl)) pgs_nil)))) (fun _ _ _ _ _ => pts_nil) (fun _ _ _ _ _ => (pe_call G hr rfl T.m_same T.F_same.kp T.b_same .nil pass0 (pa_cons (pv 2) (pa_cons (pv 3) pa_nil))))) pa_nil))))))) pss_nil)
    (pss_cons (ps_if (PW.pt (pw_or (pt_val (pe_callB call_isi (by rfl) T.z_isinstance (by decide +kernel) (pa_cons (pv 1) (pa_cons (pe_bltn (v := .ty "bool") (by rfl) T.z_bool (by decide +kernel) rfl) pa_nil)))) (pw_or1 (pt_val (pe_callB call_isi (by rfl) T.z_isinstance (by decide +kernel) (pa_cons (pv 0) (pa_cons (pe_bltn (v := .ty "bool") (by rfl) T.z_bool (by decide +kernel) rfl) pa_nil))))))) (pss_one (ps_ret (pe_and (pe_callB call_isi (by rfl) T.z_isinstance (by decide +kernel) (pa_cons (pv 1) (pa_cons (pe_bltn (v := .ty "bool") (by rfl) T.z_bool (by decide +kernel) rfl) pa_nil))) (pe_and (pe_callB call_isi (by rfl) T.z_isinstance (by decide +kernel) (pa_cons (pv 0) (pa_cons (pe_bltn (v := .ty "bool") (by rfl) T.z_bool (by decide +kernel) rfl) pa_nil))) (pe_one (pe_cmpR op_eq (pv 0) (pv 1) (nomark _))))))) pss_nil)
    (pss_cons (ps_if (pt_val (pe_callB call_isi (by rfl) T.z_isinstance (by decide +kernel) (pa_cons (pv 1) (pa_cons (pe_bltn (v := .ty "int") (by rfl) T.z_int (by decide +kernel) rfl) pa_nil)))) (pss_one (ps_ret (pe_and (pe_callB call_isi (by rfl) T.z_isinstance (by decide +kernel) (pa_cons (pv 0) (pa_cons (pe_bltn (v := .ty "int") (by rfl) T.z_int (by decide +kernel) rfl) pa_nil))) (pe_one (pe_cmpR op_eq (pv 0) (pv 1) (nomark _)))))) pss_nil)
    (pss_one (ps_ret (pe_and (pe_callB call_isi (by rfl) T.z_isinstance (by decide +kernel) (pa_cons (pv 0) (pa_cons (pe_bltn (v := .ty "str") (by rfl) T.z_str (by decide +kernel) rfl) pa_nil))) (pe_and (pe_callB call_isi (by rfl) T.z_isinstance (by decide +kernel) (pa_cons (pv 1) (pa_cons (pe_bltn (v := .ty "str") (by rfl) T.z_str (by decide +kernel) rfl) pa_nil))) (pe_one (pe_cmpR op_eq (pv 0) (pv 1) (nomark _))))))))))), ?_⟩
  cases d with
  | none =>
    obtain rfl : x = .non := by cases hx; rfl
    obtain rfl : y = .non := by cases hy; rfl
    refine ⟨_, rfl, rfl, _, rfl, ?_⟩
    refine iteT ?_
    refine ⟨_, rfl, rfl, _, rfl, ?_⟩
    refine iteT ?_
    refine ⟨_, rfl, rfl, ?_⟩
    exact k H (Same.refl _)
  | bool b =>
    obtain rfl : x = .bl b := by cases hx; rfl
    obtain rfl : y = .bl b := by cases hy; rfl
    refine ⟨_, rfl, rfl, _, rfl, ?_⟩
    refine iteF ?_
    refine ⟨_, rfl, rfl, _, rfl, ?_⟩
    refine iteF ?_
    refine ⟨_, rfl, (by show 2 ≤ sizeLine; decide), fun tp htp => ?_⟩
    have g := same_new htp (.tup [.ty "list", .ty "tuple"])
    have hx' := Dp.mono g _ _ hx
    refine ⟨_, tp, _, _, _, _, rfl, upd_same, .cons (.ty "list") (.cons (.ty "tuple") .nil), Dp.ty hx', kit_lt _, _, rfl, ?_⟩
    refine iteF ?_
    refine ⟨_, rfl, _, .ty "bool", _, _, _, rfl, .ty "bool", Dp.ty hx', kit_d some_bool, _, rfl, ?_⟩
    rw [isBool_eq]
    refine iteT ?_
    refine ⟨_, rfl, _, .ty "bool", _, _, _, rfl, .ty "bool", Dp.ty hx', kit_d some_bool, _, rfl, ?_⟩
    rw [isBool_eq]
    refine iteT ?_
    refine ⟨_, rfl, _, .ty "bool", _, _, _, rfl, .ty "bool", Dp.ty hx', kit_d some_bool, _, rfl, ?_⟩
    rw [isBool_eq]
    refine iteT ?_
    refine ⟨_, rfl, _, rfl, rfl, ?_⟩
    rw [decide_eq_true rfl]
    exact k _ g
  | int i =>
    obtain rfl : x = .int i := by cases hx; rfl
    obtain rfl : y = .int i := by cases hy; rfl
    refine ⟨_, rfl, rfl, _, rfl, ?_⟩
    refine iteF ?_
    refine ⟨_, rfl, rfl, _, rfl, ?_⟩
    refine iteF ?_
    refine ⟨_, rfl, (by show 2 ≤ sizeLine; decide), fun tp htp => ?_⟩
    have g := same_new htp (.tup [.ty "list", .ty "tuple"])
    have hx' := Dp.mono g _ _ hx
    refine ⟨_, tp, _, _, _, _, rfl, upd_same, .cons (.ty "list") (.cons (.ty "tuple") .nil), Dp.ty hx', kit_lt _, _, rfl, ?_⟩
    refine iteF ?_
    refine ⟨_, rfl, _, .ty "bool", _, _, _, rfl, .ty "bool", Dp.ty hx', kit_d some_bool, _, rfl, ?_⟩
    rw [isBool_eq]
    refine iteF ?_
    refine ⟨_, rfl, _, .ty "bool", _, _, _, rfl, .ty "bool", Dp.ty hx', kit_d some_bool, _, rfl, ?_⟩
    rw [isBool_eq]
    refine iteF ?_
    refine ⟨_, rfl, _, .ty "int", _, _, _, rfl, .ty "int", Dp.ty hx', kit_d some_int, _, rfl, ?_⟩
    rw [isInt_eq]
    refine iteT ?_
    refine ⟨_, rfl, _, .ty "int", _, _, _, rfl, .ty "int", Dp.ty hx', kit_d some_int, _, rfl, ?_⟩
    rw [isInt_eq]
    refine iteT ?_
    refine ⟨_, rfl, _, rfl, rfl, ?_⟩
    rw [decide_eq_true rfl]
    exact k _ g
  | str z =>
    obtain rfl : x = .str z := by cases hx; rfl
    obtain rfl : y = .str z := by cases hy; rfl
    refine ⟨_, rfl, rfl, _, rfl, ?_⟩
    refine iteF ?_
    refine ⟨_, rfl, rfl, _, rfl, ?_⟩
    refine iteF ?_
    refine ⟨_, rfl, (by show 2 ≤ sizeLine; decide), fun tp htp => ?_⟩
    have g := same_new htp (.tup [.ty "list", .ty "tuple"])
    have hx' := Dp.mono g _ _ hx
    refine ⟨_, tp, _, _, _, _, rfl, upd_same, .cons (.ty "list") (.cons (.ty "tuple") .nil), Dp.ty hx', kit_lt _, _, rfl, ?_⟩
    refine iteF ?_
    refine ⟨_, rfl, _, .ty "bool", _, _, _, rfl, .ty "bool", Dp.ty hx', kit_d some_bool, _, rfl, ?_⟩
    rw [isBool_eq]
    refine iteF ?_
    refine ⟨_, rfl, _, .ty "bool", _, _, _, rfl, .ty "bool", Dp.ty hx', kit_d some_bool, _, rfl, ?_⟩
    rw [isBool_eq]
    refine iteF ?_
    refine ⟨_, rfl, _, .ty "int", _, _, _, rfl, .ty "int", Dp.ty hx', kit_d some_int, _, rfl, ?_⟩
    rw [isInt_eq]
    refine iteF ?_
    refine ⟨_, rfl, _, .ty "str", _, _, _, rfl, .ty "str", Dp.ty hx', kit_d some_str, _, rfl, ?_⟩
    rw [isStr_eq]
    refine iteT ?_
    refine ⟨_, rfl, _, .ty "str", _, _, _, rfl, .ty "str", Dp.ty hx', kit_d some_str, _, rfl, ?_⟩
    rw [isStr_eq]
    refine iteT ?_
    refine ⟨_, rfl, _, rfl, rfl, ?_⟩
    rw [decide_eq_true rfl]
    exact k _ g
  | list ds =>
    cases hx with
    | lst hsx hax =>
    cases hy with
    | lst hsy hay =>
    rename_i ax xs ay ys
    have hx : Dp K H (.ref ax) (.list ds) := .lst hsx hax
    have hy : Dp K H (.ref ay) (.list ds) := .lst hsy hay
    refine ⟨_, rfl, rfl, _, rfl, ?_⟩
    refine iteF ?_
    refine ⟨_, rfl, rfl, _, rfl, ?_⟩
    refine iteF ?_
    refine ⟨_, rfl, (by show 2 ≤ sizeLine; decide), fun tp htp => ?_⟩
    have g := same_new htp (.tup [.ty "list", .ty "tuple"])
    have hT1 : (upd H tp (.tup [.ty "list", .ty "tuple"])) tp = some (.tup [.ty "list", .ty "tuple"]) := upd_same
    generalize upd H tp (.tup [.ty "list", .ty "tuple"]) = H1 at g hT1 ⊢
    have hx' := Dp.mono g _ _ hx
    have hy' := Dp.mono g _ _ hy
    refine ⟨_, tp, _, _, _, _, rfl, hT1, .cons (.ty "list") (.cons (.ty "tuple") .nil), Dp.ty hy', kit_lt _, _, rfl, ?_⟩
    refine iteT ?_
    refine ⟨_, rfl, _, .ty "list", _, _, _, rfl, .ty "list", Dp.ty hx', kit_d some_list, _, rfl, _, .ty "list", _, _, _, rfl, .ty "list", Dp.ty hy', kit_d some_list, rfl, _, rfl, ?_⟩
    refine iteNS rfl ?_
    refine ⟨_, rfl, _, .ty "tuple", _, _, _, rfl, .ty "tuple", Dp.ty hx', kit_d some_tuple, _, rfl, _, .ty "tuple", _, _, _, rfl, .ty "tuple", Dp.ty hy', kit_d some_tuple, rfl, _, rfl, ?_⟩
    refine iteNS rfl ?_
    have lx := DpAll.len hax
    have ly := DpAll.len hay
    refine ⟨_, rfl, _, ds.length, rfl, .inl ⟨xs, Same.seq g hsx, lx.symm⟩, _, rfl, _, ds.length, rfl, .inl ⟨ys, Same.seq g hsy, ly.symm⟩, rfl, _, rfl, ?_⟩
    rw [decide_eq_true rfl]
    refine iteT ?_
    refine ⟨_, rfl, _, rfl, ax, ay, xs, ys, rfl, .inl ⟨Same.seq g hsx, Same.seq g hsy, fun D hD => ?_⟩⟩
    refine lc_it (walk_zip (xs := xs) (ys := ys) (n := ds.length) (by omega)) (fun i H2 => Same H1 H2 ∧ H2 D = some (.lst ((List.replicate i true).map V.bl))) ⟨same_new hD _, upd_same⟩ (fun i H2 _ q => ⟨Same.seq (g.trans q.1) hsx, Same.seq (g.trans q.1) hsy⟩) ?_ ?_
    · rintro i x H2 H3 hi ⟨g2, hl⟩ ⟨Tt, u, v, rfl, hT, rfl, hu, hv⟩
      obtain ⟨d1, hd1, du⟩ := DpAll.get hax hu
      obtain ⟨d2, hd2, dv⟩ := DpAll.get hay hv
      rw [hd1] at hd2
      cases hd2
      have g3 := g.trans (g2.trans (same_new hT (.tup [u, v])))
      have hfd : Fits n d1 := hf.2 d1 (List.mem_of_getElem? hd1)
      refine ⟨Tt, _, rfl, SqT.of upd_same, rfl, _, _, rfl, _, _, rfl, rfl, rfl, ?_⟩
      refine ⟨_, rfl, _, rfl, u, v, d1, rfl, Dp.mono g3 _ _ du, Dp.mono g3 _ _ dv, hfd, fun H' g4 => ?_⟩
      have hD' : H' D = some (.lst ((List.replicate i true).map V.bl)) := g4 _ _ (by rw [upd_ne (ne_of_none hl hT)]; exact hl)
      have hlen : ((List.replicate i true).map V.bl).length < sizeLine := by
        rw [List.length_map, List.length_replicate]
        exact small' (Nat.lt_trans hi hf.1)
      refine ⟨_, hD', hlen, fun b o q => ?_, ?_⟩
      · rw [upd_ne (ne_of_none q hD)]
        exact g4 _ _ (same_new hT _ _ _ (g2 b o q))
      · rw [upd_same, List.replicate_succ', List.map_append]
        rfl
    · rintro H2 ⟨g2, hl⟩
      refine ⟨D, _, rfl, SqL.of hl, ?_⟩
      have e : (List.replicate ds.length true).all id = true := by simp
      rw [e]
      exact k H2 (g.trans g2)
  | tuple ds =>
    cases hx with
    | tup hsx hax =>
    cases hy with
    | tup hsy hay =>
    rename_i ax xs ay ys
    have hx : Dp K H (.ref ax) (.tuple ds) := .tup hsx hax
    have hy : Dp K H (.ref ay) (.tuple ds) := .tup hsy hay
    refine ⟨_, rfl, rfl, _, rfl, ?_⟩
    refine iteF ?_
    refine ⟨_, rfl, rfl, _, rfl, ?_⟩
    refine iteF ?_
    refine ⟨_, rfl, (by show 2 ≤ sizeLine; decide), fun tp htp => ?_⟩
    have g := same_new htp (.tup [.ty "list", .ty "tuple"])
    have hT1 : (upd H tp (.tup [.ty "list", .ty "tuple"])) tp = some (.tup [.ty "list", .ty "tuple"]) := upd_same
    generalize upd H tp (.tup [.ty "list", .ty "tuple"]) = H1 at g hT1 ⊢
    have hx' := Dp.mono g _ _ hx
    have hy' := Dp.mono g _ _ hy
    refine ⟨_, tp, _, _, _, _, rfl, hT1, .cons (.ty "list") (.cons (.ty "tuple") .nil), Dp.ty hy', kit_lt _, _, rfl, ?_⟩
    refine iteT ?_
    refine ⟨_, rfl, _, .ty "list", _, _, _, rfl, .ty "list", Dp.ty hx', kit_d some_list, _, rfl, _, .ty "list", _, _, _, rfl, .ty "list", Dp.ty hy', kit_d some_list, rfl, _, rfl, ?_⟩
    refine iteNS rfl ?_
    refine ⟨_, rfl, _, .ty "tuple", _, _, _, rfl, .ty "tuple", Dp.ty hx', kit_d some_tuple, _, rfl, _, .ty "tuple", _, _, _, rfl, .ty "tuple", Dp.ty hy', kit_d some_tuple, rfl, _, rfl, ?_⟩
    refine iteNS rfl ?_
    have lx := DpAll.len hax
    have ly := DpAll.len hay
    refine ⟨_, rfl, _, ds.length, rfl, .inr ⟨xs, Same.tup g hsx, lx.symm⟩, _, rfl, _, ds.length, rfl, .inr ⟨ys, Same.tup g hsy, ly.symm⟩, rfl, _, rfl, ?_⟩
    rw [decide_eq_true rfl]
    refine iteT ?_
    refine ⟨_, rfl, _, rfl, ax, ay, xs, ys, rfl, .inr ⟨Same.tup g hsx, Same.tup g hsy, fun D hD => ?_⟩⟩
    refine lc_it (walk_zipT (xs := xs) (ys := ys) (n := ds.length) (by omega)) (fun i H2 => Same H1 H2 ∧ H2 D = some (.lst ((List.replicate i true).map V.bl))) ⟨same_new hD _, upd_same⟩ (fun i H2 _ q => ⟨Same.tup (g.trans q.1) hsx, Same.tup (g.trans q.1) hsy⟩) ?_ ?_
    · rintro i x H2 H3 hi ⟨g2, hl⟩ ⟨Tt, u, v, rfl, hT, rfl, hu, hv⟩
      obtain ⟨d1, hd1, du⟩ := DpAll.get hax hu
      obtain ⟨d2, hd2, dv⟩ := DpAll.get hay hv
      rw [hd1] at hd2
      cases hd2
      have g3 := g.trans (g2.trans (same_new hT (.tup [u, v])))
      have hfd : Fits n d1 := hf.2 d1 (List.mem_of_getElem? hd1)
      refine ⟨Tt, _, rfl, SqT.of upd_same, rfl, _, _, rfl, _, _, rfl, rfl, rfl, ?_⟩
      refine ⟨_, rfl, _, rfl, u, v, d1, rfl, Dp.mono g3 _ _ du, Dp.mono g3 _ _ dv, hfd, fun H' g4 => ?_⟩
      have hD' : H' D = some (.lst ((List.replicate i true).map V.bl)) := g4 _ _ (by rw [upd_ne (ne_of_none hl hT)]; exact hl)
      have hlen : ((List.replicate i true).map V.bl).length < sizeLine := by
        rw [List.length_map, List.length_replicate]
        exact small' (Nat.lt_trans hi hf.1)
      refine ⟨_, hD', hlen, fun b o q => ?_, ?_⟩
      · rw [upd_ne (ne_of_none q hD)]
        exact g4 _ _ (same_new hT _ _ _ (g2 b o q))
      · rw [upd_same, List.replicate_succ', List.map_append]
        rfl
    · rintro H2 ⟨g2, hl⟩
      refine ⟨D, _, rfl, SqL.of hl, ?_⟩
      have e : (List.replicate ds.length true).all id = true := by simp
      rw [e]
      exact k H2 (g.trans g2)
  | dict _ => cases hx
theorem ok_same (T : Top K w mg) : ∀ n : Nat, FnOk P w K mg base CX0 n T.a_same T.d_same ["_law_found", "_law_due"] (spSame K n)
  | 0 => ok_same0 T
  | n + 1 => ok_same1 T (ok_same T n)
end
end Bl
namespace Bl
open PySem L2
open SX (S)
abbrev n_names : List Str := ["_law_box_here", "_law_many", "_law_letters", "_law_stem", "_law_spot", "_law_first", "_law_found", "_law_k", "_law_word"]
theorem sc_names : FnScope n_names ["_law_box_here", "_law_many"] (defScope s_names) := ⟨rfl, rfl, rfl, by decide +kernel, rfl, by decide +kernel, by decide +kernel⟩
section
variable {P : Program} {w : World} {K : PySem.W.Frag} {mg : Str → Option Value} {base : Heap}
theorem ok_names (T : Top K w mg) : FnOk P w K mg base CX0 3 T.a_names T.d_names ["_law_box_here", "_law_many"] (spNames K) := by
  refine T.F_names.ok sc_names (fun vs H Q E h => ?_) (fun cdv A outer s H vs Q E hr h => ?_)
  · obtain ⟨p, b, n, rfl, _⟩ := h
    rfl
  obtain ⟨p, b, n, rfl, B, hn1, hn5, k⟩ := h
  refine ⟨_, (pss_cons (ps_set (i := 2) sc_names.nd rfl (Or.inr rfl) pe_str)
    (pss_cons (ps_set (i := 3) sc_names.nd rfl (Or.inr rfl) (pe_join pe_str (pe_lc (own := [("_law_k", 7)]) (g := gName 7) (tt := tYes) rfl sc_names.nd (pi_range1 (by rfl) T.z_range (pa_cons (pe_call (ok_of T) (hr.mono (by decide)) rfl T.m_of T.F_of.kp T.b_of .nil pass0 (pa_cons (pv 0) (pa_cons (pe_lst (pa_cons pe_int (pa_cons pe_int (pa_cons pe_int (pa_cons pe_int pa_nil))))) pa_nil))) pa_nil)) (blkOk_by (own := [("_law_k", 7)]) (N := n_names) (sc := defScope s_names) (by decide +kernel)) (fun _ _ _ _ _ => (pg_name (i := 7) sc_names.nd rfl (Or.inl rfl))) (fun _ _ _ _ _ => pts_nil) (fun _ _ _ _ _ => (pe_call (ok_of T) (hr.mono (by decide)) rfl T.m_of T.F_of.kp T.b_of .nil pass0 (pa_cons (pv 0) (pa_cons (pv 2) pa_nil)))))))
    (pss_cons (ps_asg (pe_tup (pa_cons (pe_call (ok_pull T) (hr.mono (by decide)) rfl T.m_pull T.F_pull.kp T.b_pull .nil pass0 (pa_cons (pv 0) (pa_cons (pe_op op_add (pe_callB call_len_str (by rfl) T.z_len (by decide +kernel) (pa_cons (pv 3) pa_nil)) pe_int) pa_nil))) (pa_cons (pe_call (ok_pull T) (hr.mono (by decide)) rfl T.m_pull T.F_pull.kp T.b_pull .nil pass0 (pa_cons (pv 0) (pa_cons pe_int pa_nil))) pa_nil))) (pg_tup rfl (pgs_cons (pg_name (i := 4) sc_names.nd rfl (Or.inr rfl)) (pgs_cons (pg_name (i := 5) sc_names.nd rfl (Or.inr rfl)) pgs_nil))))
    (pss_cons (ps_setLc (i := 6) (own := [("_law_k", 7)]) (g := gName 7) (tt := tYes) rfl sc_names.nd rfl rfl (sw_true rfl rfl rfl (by decide +kernel)) (pi_range1 (by rfl) T.z_range (pa_cons (pe_op op_add (pv 1) pe_int) pa_nil)) (blkOk_by (own := [("_law_k", 7)]) (N := n_names) (sc := defScope s_names) (by decide +kernel)) (fun _ _ _ _ _ => (pg_name (i := 7) sc_names.nd rfl (Or.inl rfl))) (fun _ _ _ _ _ => pts_nil) (fun _ _ _ _ _ => (pe_op op_add_str (pe_op op_add_str (pe_slice sl_str (pv 3) po_none (po_some (pv 4))) (pe_ix ix_str (pv 2) (pe_op op_mod (pe_callTy call_int1 (by rfl) T.z_int (by decide +kernel) (pa_cons (pe_op op_add (pv 5) (pe_op op_mul pe_int (pv 7))) pa_nil)) pe_int) (fun _ _ => rfl))) (pe_slice sl_str (pv 3) (po_some (pv 4)) po_none))))
    (pss_one (ps_ret (pe_slice sl_list (pe_lc (own := [("_law_word", 8)]) (g := gName 8) rfl sc_names.nd (pi_list (pv 6)) (blkOk_by (own := [("_law_word", 8)]) (N := n_names) (sc := defScope s_names) (by decide +kernel)) (fun _ _ _ _ _ => (pg_name (i := 8) sc_names.nd rfl (Or.inl rfl))) (fun _ _ _ _ _ => (pts_one (pt_cmpR (r := rIn K true) op_notIn_seq (pv 8) (pe_lst (pa_cons pe_str (pa_cons pe_str (pa_cons pe_str (pa_cons pe_str pa_nil))))) rfl))) (fun _ _ _ _ _ => (pv 8))) po_none (po_some (pv 1))))))))), ?_⟩
  -- the stem
  refine ⟨⟨_, rfl⟩, _, rfl, (by show 4 ≤ sizeLine; decide), fun l hl => ?_⟩
  have B1 := B.new hl (.lst [.int 0, .int 1, .int 2, .int 5])
  have e1 : But p H _ := But.of (same_new hl (.lst [.int 0, .int 1, .int 2, .int 5]))
  refine ⟨p, b, _, rfl, B1, .inl ⟨l, _, rfl, .inl (SqL.of (hid_same (B.ne hl))), (by decide), (by decide), fun i x H1 hx B2 e2 => ?_⟩⟩
  obtain ⟨j, rfl, hj⟩ : ∃ j : Nat, x = .int (j : Int) ∧ (j = 0 ∨ j = 1 ∨ j = 2 ∨ j = 5) := by
    match i, hx with
    | 0, h => exact ⟨0, (Option.some.inj h).symm, by decide⟩
    | 1, h => exact ⟨1, (Option.some.inj h).symm, by decide⟩
    | 2, h => exact ⟨2, (Option.some.inj h).symm, by decide⟩
    | 3, h => exact ⟨5, (Option.some.inj h).symm, by decide⟩
    | n + 4, h => cases h
  have e12 : But p H H1 := Same.trans e1 e2
  clear e1 e2 B1
  refine ⟨(j : Int), rfl, by omega, by omega, fun D hD => ?_⟩
  have nD := B2.ne hD
  have nDb := B2.nl hD
  refine lc_range (lo := 0) (n := (j : Int).toNat) (fun i H2 => BoxAt H2 p b ∧ But p H1 H2 ∧ ∃ cs : List Nat, cs.length = i ∧ (∀ c ∈ cs, c ∈ alpha) ∧ H2 D = some (.lst ((cs.map fun c => S [c]).map V.str)))
    ⟨B2.new hD _, But.of (same_new hD _), [], rfl, (by intro c hc; cases hc), upd_same⟩ ?_ ?_
  · rintro i H2 hi ⟨B3, e3, cs, hcs, hlow, hd⟩
    refine ⟨rfl, _, rfl, _, rfl, p, b, _, rfl, B3, .inr ⟨_, rfl, by decide +kernel, by decide +kernel, fun c H3 hc B4 e4 => ?_⟩⟩
    have hd' : H3 D = some (.lst ((cs.map fun c => S [c]).map V.str)) := hide_le _ _ (e4 _ _ (by rw [hide_ne nD]; exact hd))
    refine ⟨_, hd', ?_, B4.mut nD nDb _, But.mut (Same.trans e3 e4) hD _, cs ++ [c], by rw [List.length_append, hcs]; rfl, ?_, ?_⟩
    · rw [List.length_map, List.length_map]
      exact small' (by omega)
    · intro x hx
      rcases List.mem_append.mp hx with h | h
      · exact hlow x h
      · rw [List.mem_singleton.mp h, ← alpha_eq]
        exact hc
    · rw [upd_same, List.map_append, List.map_append]
      rfl
  · rintro H2 ⟨B3, e3, cs, hcs, hlow, hd⟩
    rw [Int.toNat_natCast] at hcs
    refine ⟨_, D, cs.map fun c => S [c], rfl, rfl, .inl (SqL.of hd), ?_, ?_⟩
    · have h1 : ∀ l : List Nat, ((l.map fun c => S [c]).map (·.length)).sum = l.length := by
        intro l
        induction l with
        | nil => rfl
        | cons c l ih =>
          rw [List.map_cons, List.map_cons, List.sum_cons, ih, List.length_cons]
          show 1 + l.length = l.length + 1
          omega
      rw [h1, show ("" : Str).length = 0 by decide +kernel, Nat.mul_zero]
      omega
    rw [join_one]
    have e123 : But p H H2 := Same.trans e12 e3
    -- spot, first
    refine ⟨_, rfl, _, rfl, _, rfl, small (by rw [SX.S_len]; omega), _, _, rfl, rfl, ?_⟩
    refine ⟨p, b, _, rfl, B3, by omega, by rw [SX.S_len]; omega, fun sp H3 hsp0 hsp1 B4 e4 => ?_⟩
    refine ⟨_, rfl, p, b, _, rfl, B4, by decide, by decide, fun fi H4 hf0 hf1 B5 e5 => ?_⟩
    obtain ⟨sp, rfl⟩ := Int.eq_ofNat_of_zero_le hsp0
    obtain ⟨f, rfl⟩ := Int.eq_ofNat_of_zero_le hf0
    rw [SX.S_len] at hsp1
    have hsp : sp ≤ cs.length := by omega
    refine ⟨(by show 2 ≤ sizeLine; decide), fun t ht => ?_⟩
    have B6 := B5.new ht (.tup [.int sp, .int f])
    have e6 : But p H _ := Same.trans e123 (Same.trans e4 (Same.trans e5 (But.of (same_new ht (.tup [.int sp, .int f])))))
    have ht1 : (upd H4 t (.tup [.int sp, .int f])) t = some (.tup [.int sp, .int f]) := upd_same
    refine ⟨t, _, rfl, SqT.of ht1, rfl, _, _, rfl, _, _, rfl, rfl, ?_⟩
    show tSeq _ _ _ _ (upd H4 t (.tup [.int sp, .int f]))
    generalize (upd H4 t (.tup [.int sp, .int f])) = H5 at B6 e6 ⊢
    -- the words
    refine ⟨_, rfl, _, _, rfl, rfl, _, rfl, (by omega), (by omega), fun D2 hD2 => ?_⟩
    refine lc_range (lo := 0) (n := ((n : Int) + 2).toNat) (fun i H2 => Same H5 H2 ∧ H2 D2 = some (.lst (((List.range i).map (wd cs sp f)).map nameV))) ⟨same_new hD2 _, upd_same⟩ ?_ ?_
    · rintro i H6 hi ⟨g, hd6⟩
      have hidx : ((f : Int) + 7 * (0 + (i : Int))) % 26 = (((f + 7 * i) % 26 : Nat) : Int) := by omega
      have hlt : (f + 7 * i) % 26 < 26 := Nat.mod_lt _ (by decide)
      refine ⟨rfl, _, rfl, _, rfl, _, rfl, _, rfl, small (by rw [SX.S_len]; omega), ?_⟩
      refine ⟨_, rfl, _, rfl, _, rfl, _, _, rfl, rfl, .inl (by constructor <;> decide), _, _, rfl, rfl, .inl ⟨_, rfl, _, _, rfl, rfl, (by show (0 : Int) < 26; decide), ?_⟩⟩
      refine ⟨_, _, alpha.getD ((f + 7 * i) % 26) 0, rfl, rfl, (by decide +kernel), ?_, ?_⟩
      · rw [hidx, alpha_eq]
        exact atI_nat (alpha_at _ hlt)
      · rw [cut_pre hsp]
        refine ⟨_, _, rfl, rfl, ?_, ?_⟩
        · rw [SX.S_len, List.length_take]
          show min sp cs.length + 1 ≤ sizeLine
          exact small (by omega)
        refine ⟨_, rfl, _, rfl, _, rfl, _, rfl, small (by rw [SX.S_len]; omega), ?_⟩
        rw [cut_suf hsp]
        have ew : S (cs.take sp) ++ (⟨#[alpha.getD ((f + 7 * i) % 26) 0]⟩ : Str) ++ S (cs.drop sp) = S (wd cs sp f i) := by
          show S (cs.take sp) ++ S [alpha.getD ((f + 7 * i) % 26) 0] ++ S (cs.drop sp) = _
          rw [SX.S_cat, SX.S_cat, List.append_assoc]
          rfl
        refine ⟨_, _, rfl, rfl, ?_, ?_⟩
        · have h1 : (S (cs.take sp) ++ (⟨#[alpha.getD ((f + 7 * i) % 26) 0]⟩ : Str)).length = min sp cs.length + 1 := by
            show (S (cs.take sp) ++ S [alpha.getD ((f + 7 * i) % 26) 0]).length = _
            rw [SX.S_cat, SX.S_len, List.length_append, List.length_take]
            rfl
          rw [h1, SX.S_len, List.length_drop]
          exact small (by omega)
        · rw [ew]
          refine ⟨_, hd6, ?_, Same.mut g hD2 _, ?_⟩
          · rw [List.length_map, List.length_map, List.length_range]
            exact small' (by omega)
          · rw [upd_same, List.range_succ, List.map_append, List.map_append]
            rfl
    rintro H6 ⟨g6, hd6⟩
    rw [show ((n : Int) + 2).toNat = n + 2 by omega] at hd6
    obtain ⟨hz1, hz2, hz3, hz4⟩ := wds_names (sp := sp) (f := f) hn5 hlow (by omega)
    -- those let
    refine ⟨_, rfl, D2, rfl, ⟨_, SqL.of hd6⟩, fun D3 hD3 => ?_⟩
    refine lc_list (K := K) (a := D2) (xs := (wds cs sp f (n + 2)).map nameV) (fun i H2 => Same H6 H2 ∧ H2 D3 = some (.lst ((((wds cs sp f (n + 2)).take i).filter keepB).map nameV))) ⟨same_new hD3 _, upd_same⟩ (fun i H2 _ q => q.1.seq (SqL.of hd6)) ?_ ?_
    · rintro i x H7 hx ⟨g, hd7⟩
      rw [List.getElem?_map] at hx
      obtain ⟨z, hz, rfl⟩ : ∃ z, (wds cs sp f (n + 2))[i]? = some z ∧ x = nameV z := by
        cases e : (wds cs sp f (n + 2))[i]? with
        | none => rw [e] at hx; cases hx
        | some z => rw [e] at hx; exact ⟨z, rfl, (Option.some.inj hx).symm⟩
      refine ⟨rfl, _, rfl, (by show 4 ≤ sizeLine; decide), fun l4 hl4 => ?_⟩
      have g8 := g.trans (same_new hl4 (.lst bads))
      have hd8 : (upd H7 l4 (.lst bads)) D3 = some (.lst ((((wds cs sp f (n + 2)).take i).filter keepB).map nameV)) := by
        rw [upd_ne (ne_of_none hd7 hl4)]
        exact hd7
      refine ⟨l4, bads, rfl, .inl (SqL.of upd_same), rfl, rfl, _, rfl, ?_⟩
      show if (!inV (.str (S z)) bads) = true then _ else _
      rw [inV_bads]
      have ef : ((wds cs sp f (n + 2)).take (i + 1)).filter keepB = ((wds cs sp f (n + 2)).take i).filter keepB ++ (if keepB z = true then [z] else []) := by
        rw [List.take_add_one, hz, List.filter_append]
        congr 1
        by_cases hk : keepB z = true
        · rw [if_pos hk]
          exact List.filter_cons_of_pos hk
        · rw [if_neg hk]
          exact List.filter_cons_of_neg hk
      refine ite2 (fun hk => ?_) (fun hk => ?_)
      · have hk' : keepB z = true := hk
        rw [if_pos hk'] at ef
        refine ⟨_, rfl, _, hd8, ?_, Same.mut g8 hD3 _, ?_⟩
        · rw [List.length_map]
          have h1 := List.length_filter_le keepB ((wds cs sp f (n + 2)).take i)
          have h2 : ((wds cs sp f (n + 2)).take i).length ≤ n + 2 := by
            rw [List.length_take]
            unfold wds
            rw [List.length_map, List.length_range]
            omega
          exact small' (by omega)
        · rw [upd_same, ef, List.map_append]
          rfl
      · have hk' : ¬ keepB z = true := hk
        rw [if_neg hk', List.append_nil] at ef
        refine ⟨g8, ?_⟩
        rw [ef]
        exact hd8
    · rintro H7 ⟨g7, hd7⟩
      rw [List.length_map, List.take_of_length_le (Nat.le_refl _)] at hd7
      refine ⟨_, rfl, _, rfl, D3, _, rfl, SqL.of hd7, fun q hq => ?_⟩
      rw [cutV_pre, ← List.map_take]
      have B7 := (B6.mono g6).mono g7
      have e7 : But p H H7 := Same.trans e6 (But.of (g6.trans g7))
      refine k q _ _ hz1 hz2 hz3 ⟨_, hz4⟩ ?_ (B7.ne hq) upd_same (B7.new hq _) (Same.trans e7 (But.of (same_new hq _)))
      exact e7.free (hide_free hq)
end
end Bl
namespace Bl
open PySem L2 De
local macro_rules | `(tactic| sizeOf_list_dec) => `(tactic| simp only [dDef, startS, dSeqS, dNext, dBrk, dCnt, dAsg, dDrop, dRet, dRetN, dIfS, dFor, dVar, dC, dNil, dCons, dOp, dFn, dTst, dAndT, dOrT, dNotT, dAnd, dOr, dNot, dIfE, dChain, dTup, dLst, dLstO, dIsi, dStar, dPart, dNoPart, dSl, dAppend, dAppV, dRng1, dRng2, dEnum, dEnumA, dZip, dCount, dCount.isSeqL, dCount.itemsL, end_at, end_set, rdd_end, dgName, dgNil, dgCons, dgTup, dSeq, dLc, dLcO, dYes, dCall, dCall0,
  rdd_d, rdds_nil, rdds_cons, asB_bl, asL_some, seq_lst, seq_tup, seq_str, ex_sl, dts, opIsN, opNotN, opEq, opNe, has_str_non, has_int_non, has_bool_non, has_list_non, has_tuple_non, has_dict_non, isN_non, notRaw_non, data_non, has_str_bl, has_int_bl, has_bool_bl, has_list_bl, has_tuple_bl, has_dict_bl, isN_bl, notRaw_bl, data_bl, has_str_int, has_int_int, has_bool_int, has_list_int, has_tuple_int, has_dict_int, isN_int, notRaw_int, data_int, has_str_str, has_int_str, has_bool_str, has_list_str, has_tuple_str, has_dict_str, isN_str, notRaw_str, data_str, has_str_lst, has_int_lst, has_bool_lst, has_list_lst, has_tuple_lst, has_dict_lst, isN_lst, notRaw_lst, data_lst, has_str_tup, has_int_tup, has_bool_tup, has_list_tup, has_tuple_tup, has_dict_tup, isN_tup, notRaw_tup, data_tup, has_str_dct, has_int_dct, has_bool_dct, has_list_dct, has_tuple_dct, has_dict_dct, isN_dct, notRaw_dct, data_dct, has_str_ins, has_int_ins, has_bool_ins, has_list_ins, has_tuple_ins, has_dict_ins, isN_ins, notRaw_ins, data_ins, has_str_raw, has_int_raw, has_bool_raw, has_list_raw, has_tuple_raw, has_dict_raw, isN_raw, notRaw_raw, data_raw, has_str_lam, has_int_lam, has_bool_lam, has_list_lam, has_tuple_lam, has_dict_lam, isN_lam, notRaw_lam, data_lam, dLam, dAllGot, keyD_int, keyD_str, add_int, add_str, add_lst, add_tup, i0_int, oi_int, in_lst, in_tup, in_dct_str, in_sign, optP_some, De.ix_lst, De.ix_tup, ix_dct_str, all_lst, atI_0, atI_1, atI_2, len_lst, len_tup, len_str, tuple_lst, tuple_tup, list_lst, list_tup, pln_non, dep_non, pln_bl, dep_bl, pln_int, dep_int, pln_str, dep_str, pln_lst, pln_tup, dep_lst, dep_tup, plns_nil, plns_cons, deps_nil, deps_cons, eqB_int, eqB_str, eqB_non_str, eqB_str_non, eqB_bl_str, eqB_str_bl, eqB_int_str, eqB_str_int, eqB_lst_str, eqB_str_lst, eqB_tup_str, eqB_str_tup, sz_0, sz_1, sz_2, sz_3, sz_4, sz_5, sz_6, sz_7, sz_8, sz_9, sz_10, sz_11, sz_12, sz_13, sz_14, lcStep, wipeS, dLenSet, isSeq, itemsD, dDc, dcStep, dFld, dFldS, dFldA, insD, InsF.look, InsF.lack, dMeth, dMethN, dProp, dMake, dMakeK, dRaise, dCallL, opTab, opInTab, dAppE, dInsE, lstAt, dIndexL, dLcK, fxVar, fxFld, putG, dFrz, dGot, dPar, int_int, int_bl, abs_int, min_int, max_int, mul_int, mul_lst, dgSub, List.lookup_cons, List.lookup_nil, Int.reduceNeg, List.map_cons, List.map_nil, List.length_cons, List.length_nil, List.replicate_succ, List.replicate_zero, List.append_nil, List.nil_append, List.cons_append, List.set_cons_zero, List.set_cons_succ,
  Option.map_some, Option.map_none, Nat.zero_add, Nat.add_zero, Nat.reduceAdd, Nat.reduceLeDiff, Nat.min_self, Nat.reduceSub, Nat.sub_self, Nat.add_one_sub_one, List.getElem?_cons_zero, List.getElem?_cons_succ, if_true, if_false, true_and, and_true, Bool.not_true, Bool.not_false, Bool.true_or, Bool.false_or, Bool.or_true, Bool.or_false, Bool.true_and, Bool.false_and, Bool.and_true, Bool.and_false, Bool.false_eq_true, reduceIte, reduceCtorEq, Bool.not_eq_true', not_true_eq_false, not_false_eq_true, exists_eq_left', exists_eq_left, exists_and_left, Option.some.injEq, Ov.o.injEq, OO.lst.injEq, Ov.d.injEq, and_self])
abbrev n_is_tags : List Str := ["value", "tag"]
theorem sc_is_tags : FnScope n_is_tags ["value"] (defScope s_is_tags) := ⟨rfl, rfl, rfl, by decide +kernel, rfl, by decide +kernel, by decide +kernel⟩
abbrev n_is_column_of : List Str := ["value", "kinds", "name", "kind"]
theorem sc_is_column_of : FnScope n_is_column_of ["value", "kinds"] (defScope s_is_column_of) := ⟨rfl, rfl, rfl, by decide +kernel, rfl, by decide +kernel, by decide +kernel⟩
abbrev n_is_anchor : List Str := ["kind"]
theorem sc_is_anchor : FnScope n_is_anchor ["kind"] (defScope s_is_anchor) := ⟨rfl, rfl, rfl, by decide +kernel, rfl, by decide +kernel, by decide +kernel⟩
section
variable {P : Program} {w : World} {K : PySem.W.Frag} {mg : Str → Option Value} {base : Heap}
abbrev kinds3 : List Dt := [.str "name", .str "tick", .str "worth"]
/-- a name that is none of the words of kinds -/
def tagB : Dt → Bool := fun d => nmD d && !inD d kinds3
/-- the texts -/
def txt : Dt → Str
  | .str z => z
  | _ => Str.empty
def tagsD : Dt → Bool
  | .tup ds => decide (1 ≤ ds.length) && (decide (ds.length ≤ 3) && (ds.all tagB && decide (ds.map txt).Nodup))
  | _ => false
def fIsTags : FD := fun xs os Q _ => match xs with
  | [.d d] => (data d = true ∧ ∀ ds, d = .tup ds → ds.all data = true) ∧ Q (.d (.bl (tagsD d))) os
  | _ => False
theorem nm_txt {d : Dt} (h : nmD d = true) : d = .str (txt d) := by
  cases d with
  | str z => rfl
  | _ => cases h
theorem txts_nm : ∀ {ds : List Dt}, ds.all nmD = true → txts ds = some (ds.map txt)
  | [], _ => rfl
  | d :: ds, h => by
    rw [List.all_cons, Bool.and_eq_true] at h
    rw [nm_txt h.1]
    show (txts ds).map (txt d :: ·) = _
    rw [txts_nm h.2]
    rfl
theorem tag_nm {ds : List Dt} (h : ds.all tagB = true) : ds.all nmD = true := by
  rw [List.all_eq_true] at h ⊢
  exact fun d hd => (Bool.and_eq_true_iff.mp (h d hd)).1
theorem ok_is_tags (T : Top K w mg) : FnOk P w K mg base CX0 2 T.a_is_tags T.d_is_tags ["value"] (spD K (zT T) 1 fIsTags) := by
  refine fn_d T.F_is_tags sc_is_tags (fun cdv A outer s H E hr => (pss_consD (psd_if (ptd_w (pwd_or (ptd_not (ptd_tst (pd_isi (c := .tuple) (pe_callB call_isi (by rfl) T.z_isinstance (by decide +kernel) (pa_cons (pd_var (pv 0)) (pa_cons (pe_bltn (v := .ty "tuple") (by rfl) T.z_tuple (by decide +kernel) rfl) pa_nil)))))) (pwd_or1 (ptd_not (ptd_chain od_le od_le pd_int (pd_callB cd_len (by rfl) T.z_len (by decide +kernel) (pad_cons (pd_var (pv 0)) pad_nil)) (pd_c (pe_glob rfl T.c_MOST_TAGS T.r_MOST_TAGS) (fun _ => (.int _)))))))) (pss_oneD (psd_ret pd_bl)) pss_nilD)
    (pss_consD (psd_if (ptd_not (ptd_tst (pd_callB (cd_all rfl) (by rfl) T.z_all (by decide +kernel) (pad_cons (pd_lc (own := [("tag", 1)]) (E' := E0) rfl sc_is_tags.nd (pid_seq (pd_var (pv 0))) (blkOk_by (own := [("tag", 1)]) (N := n_is_tags) (sc := defScope s_is_tags) (by decide +kernel)) (fun _ _ _ _ _ => (pgd_name (pg_name (i := 1) sc_is_tags.nd rfl (Or.inl rfl)))) (fun _ _ _ _ _ => ptsd_nil) (fun _ _ _ _ _ => (pd_and (pd_call0 (pe_call (ok_is_name T) (hr.mono (by decide)) rfl T.m_is_name T.F_is_name.kp T.b_is_name .nil pass0 (pad_cons (pd_var (pv 1)) pad_nil))) (pd_one (pd_cmp (od_notIn (hu65 hr)) (pd_var (pv 1)) (pd_c (pe_glob rfl T.c_KINDS T.r_KINDS) (fun G => .tup (T.q_KINDS G) (.cons (.str _ (by decide +kernel)) (.cons (.str _ (by decide +kernel)) (.cons (.str _ (by decide +kernel)) .nil))) (by show 3 ≤ sizeLine; decide))) rfl)))) (by decide)) pad_nil)))) (pss_oneD (psd_ret pd_bl)) pss_nilD)
    (pss_oneD (psd_ret (pd_cmp (od_eq hr.units) (pd_lenSet (pe_lenSetM rfl (by rfl) T.z_len (by rfl) T.z_set (pd_var (pv 0)))) (pd_callB cd_len (by rfl) T.z_len (by decide +kernel) (pad_cons (pd_var (pv 0)) pad_nil)) (nomark _))))))) (fun xs os Q Ex hn h => ?_)
  obtain ⟨d, rfl, ⟨hd, hds⟩, q⟩ := one_get h
  sizeOf_list_dec
  refine ⟨hd, ?_⟩
  cases d with
  | tup ds =>
    have hds := List.all_eq_true.mp (hds ds rfl)
    sizeOf_list_dec
    have e : tagsD (.tup ds) = (decide ((1 : Int) ≤ ds.length) && (decide ((ds.length : Int) ≤ 3) && (ds.all tagB && decide (ds.map txt).Nodup))) := by
      unfold tagsD
      rw [show decide ((1 : Int) ≤ ds.length) = decide (1 ≤ ds.length) from decide_eq_decide.mpr (by omega), show decide ((ds.length : Int) ≤ 3) = decide (ds.length ≤ 3) from decide_eq_decide.mpr (by omega)]
    rw [e] at q
    split
    · rename_i h1
      rw [h1, Bool.true_and] at q
      split
      · rename_i h2
        rw [h2] at q
        exact q
      · rename_i h2
        rw [Bool.of_not_eq_false h2, Bool.true_and] at q
        refine lc_map (fun d => .bl (tagB d)) (fun d hd k s hk => ?_) ?_
        · sizeOf_list_dec
          simp only [isName_eq]
          have dd := hds d hd
          sizeOf_list_dec
          refine ⟨dd, ?_⟩
          split
          · rename_i h3
            have e3 := nm_txt h3
            rw [e3] at hk ⊢
            sizeOf_list_dec
            refine ⟨fun z => by simp, ?_⟩
            have e4 : tagB (.str (txt d)) = !inD (.str (txt d)) kinds3 := by
              unfold tagB
              rw [← e3, h3, Bool.true_and]
            rw [e4] at hk
            exact ⟨by decide, hk⟩
          · rename_i h3
            have e4 : tagB d = false := by
              unfold tagB
              rw [Bool.eq_false_iff.mpr h3, Bool.false_and]
            rw [e4] at hk
            exact hk
        · sizeOf_list_dec
          rw [bls_map, optP_some, List.all_map]
          have e5 : (ds.all (id ∘ tagB)) = ds.all tagB := rfl
          rw [e5]
          split
          · rename_i h3
            rw [h3, Bool.false_and] at q
            exact q
          · rename_i h3
            have h3 := Bool.of_not_eq_false h3
            rw [h3, Bool.true_and] at q
            rw [txts_nm (tag_nm h3), optP_some]
            have h2' : ds.length ≤ 3 := by have := of_decide_eq_true (Bool.of_not_eq_false h2); omega
            refine ⟨by rw [List.length_map]; omega, ?_⟩
            rw [List.length_map]
            have e6 : decide ((nDiff (ds.map txt) ds.length : Int) = ds.length) = decide (ds.map txt).Nodup := by
              rw [← nDiff_eq, List.length_map]
              exact decide_eq_decide.mpr (by omega)
            rw [e6]
            exact q
    · rename_i h1
      rw [Bool.eq_false_iff.mpr h1, Bool.false_and] at q
      exact q
  | _ =>
    sizeOf_list_dec
    exact q
theorem isTags_eq {d : Dt} {os : List OO} {Q : Ov → List OO → Prop} {Ex : Exn → List OO → Prop} : fIsTags [.d d] os Q Ex = ((data d = true ∧ ∀ ds, d = .tup ds → ds.all data = true) ∧ Q (.d (.bl (tagsD d))) os) := rfl
theorem pln_data {d : Dt} (h : pln d = true) : data d = true := by
  cases d <;> first | rfl | (simp [pln] at h)
theorem plns_mem : ∀ {ds : List Dt}, plns ds = true → ∀ d ∈ ds, pln d = true
  | [], _, _, hd => nomatch hd
  | e :: ds, h, d, hd => by
    rw [plns_cons, Bool.and_eq_true] at h
    rcases List.mem_cons.mp hd with rfl | hd
    · exact h.1
    · exact plns_mem h.2 d hd
theorem pln_tupd {d : Dt} (h : pln d = true) : ∀ ds, d = .tup ds → ds.all data = true := by
  rintro ds rfl
  rw [pln_tup] at h
  exact List.all_eq_true.mpr fun d hd => pln_data (plns_mem h d hd)
/-- a pair of a name and a kind -/
def colOf (kinds : List Dt) : Dt → Bool
  | .tup [n, k] => nmD n && !decide (txt n = "own") && (inD k kinds || tagsD k)
  | _ => false
def fIsCol : FD := fun xs os Q _ => match xs with
  | [.d d, .d (.tup ks)] => (pln d = true ∧ plns ks = true ∧ deps ks ≤ 1) ∧ Q (.d (.bl (colOf ks d))) os
  | _ => False
theorem isCol_eq {d : Dt} {ks : List Dt} {os : List OO} {Q : Ov → List OO → Prop} {Ex : Exn → List OO → Prop} : fIsCol [.d d, .d (.tup ks)] os Q Ex = ((pln d = true ∧ plns ks = true ∧ deps ks ≤ 1) ∧ Q (.d (.bl (colOf ks d))) os) := rfl
theorem isCol_get {xs : List Ov} {os : List OO} {Q : Ov → List OO → Prop} {Ex : Exn → List OO → Prop} (h : fIsCol xs os Q Ex) : ∃ d ks, xs = [.d d, .d (.tup ks)] ∧ (pln d = true ∧ plns ks = true ∧ deps ks ≤ 1) ∧ Q (.d (.bl (colOf ks d))) os := by
  unfold fIsCol at h
  split at h
  · exact ⟨_, _, rfl, h⟩
  · exact h.elim
theorem ok_is_column_of (T : Top K w mg) : FnOk P w K mg base CX0 3 T.a_is_column_of T.d_is_column_of ["value", "kinds"] (spD K (zT T) 2 fIsCol) := by
  refine fn_d T.F_is_column_of sc_is_column_of (fun cdv A outer s H E hr => (pss_consD (psd_if (ptd_w (pwd_or (ptd_not (ptd_tst (pd_isi (c := .tuple) (pe_callB call_isi (by rfl) T.z_isinstance (by decide +kernel) (pa_cons (pd_var (pv 0)) (pa_cons (pe_bltn (v := .ty "tuple") (by rfl) T.z_tuple (by decide +kernel) rfl) pa_nil)))))) (pwd_or1 (ptd_cmp (od_ne hr.units) (pd_callB cd_len (by rfl) T.z_len (by decide +kernel) (pad_cons (pd_var (pv 0)) pad_nil)) pd_int (nomark _))))) (pss_oneD (psd_ret pd_bl)) pss_nilD)
    (pss_consD (psd_asg (ps_asg (pd_var (pv 0)) (pgd_tup (n := 2) (pg_tup rfl (pgsd_cons (pgs_cons (pgd_name (pg_name (i := 2) sc_is_column_of.nd rfl (Or.inl rfl))) (pgsd_cons (pgs_cons (pgd_name (pg_name (i := 3) sc_is_column_of.nd rfl (Or.inl rfl))) pgsd_nil))))))))
    (pss_consD (psd_if (ptd_w (pwd_or (ptd_not (ptd_tst (pd_call0 (pe_call (ok_is_name T) (hr.mono (by decide)) rfl T.m_is_name T.F_is_name.kp T.b_is_name .nil pass0 (pad_cons (pd_var (pv 2)) pad_nil))))) (pwd_or1 (ptd_cmp (od_eq hr.units) (pd_var (pv 2)) pd_str (nomark _))))) (pss_oneD (psd_ret pd_bl)) pss_nilD)
    (pss_oneD (psd_ret (pd_or (pd_cmp (od_in (hu65 hr)) (pd_var (pv 3)) (pd_var (pv 1)) rfl) (pd_one (pd_call0 (pe_call (ok_is_tags T) (hr.mono (by decide)) rfl T.m_is_tags T.F_is_tags.kp T.b_is_tags .nil pass0 (pad_cons (pd_var (pv 3)) pad_nil))))))))))) (fun xs os Q Ex hn h => ?_)
  obtain ⟨d, ks, rfl, ⟨hp, hk, hk1⟩, q⟩ := isCol_get h
  sizeOf_list_dec
  refine ⟨pln_data hp, ?_⟩
  cases d with
  | tup ds =>
    rw [pln_tup] at hp
    sizeOf_list_dec
    match ds, hp, q with
    | [], _, q => sizeOf_list_dec; exact q
    | [_], _, q => sizeOf_list_dec; exact q
    | _ :: _ :: _ :: _, _, q =>
      sizeOf_list_dec
      rw [if_pos (by simp; omega)]
      exact q
    | [n, k], hp, q =>
      rw [plns_cons, plns_cons, Bool.and_eq_true, Bool.and_eq_true] at hp
      have dn := pln_data hp.1
      sizeOf_list_dec
      simp only [isName_eq]
      sizeOf_list_dec
      refine ⟨dn, ?_⟩
      have ed : dep n = 1 ∨ dep n ≠ 1 := Classical.em _
      have e : colOf ks (.tup [n, k]) = (nmD n && !decide (txt n = "own") && (inD k ks || tagsD k)) := rfl
      rw [e] at q
      split
      · rename_i h1
        rw [h1] at q
        exact q
      · rename_i h1
        have h1 := Bool.of_not_eq_false h1
        have en := nm_txt h1
        rw [h1, Bool.true_and] at q
        refine ⟨⟨hp.1, by omega⟩, ?_⟩
        rw [en, eqB_str]
        have et : txt (.str (txt n)) = txt n := rfl
        split
        · rename_i h2
          rw [h2] at q
          exact q
        · rename_i h2
          rw [Bool.eq_false_iff.mpr h2, Bool.not_false, Bool.true_and] at q
          have hk2 := hp.2.1
          refine ⟨⟨hk2, hk, by omega⟩, ?_⟩
          split
          · rename_i h3
            rw [h3] at q
            exact q
          · rename_i h3
            rw [Bool.eq_false_iff.mpr h3, Bool.false_or] at q
            rw [isTags_eq]
            exact ⟨⟨pln_data hk2, pln_tupd hk2⟩, q⟩
  | _ =>
    sizeOf_list_dec
    exact q
end
end Bl
namespace Bl
open PySem L2 De
local macro_rules | `(tactic| sizeOf_list_dec) => `(tactic| simp only [dDef, startS, dSeqS, dNext, dBrk, dCnt, dAsg, dDrop, dRet, dRetN, dIfS, dFor, dVar, dC, dNil, dCons, dOp, dFn, dTst, dAndT, dOrT, dNotT, dAnd, dOr, dNot, dIfE, dChain, dTup, dLst, dLstO, dIsi, dStar, dPart, dNoPart, dSl, dAppend, dAppV, dRng1, dRng2, dEnum, dEnumA, dZip, dCount, dCount.isSeqL, dCount.itemsL, end_at, end_set, rdd_end, dgName, dgNil, dgCons, dgTup, dSeq, dLc, dLcO, dYes, dCall, dCall0,
  rdd_d, rdds_nil, rdds_cons, asB_bl, asL_some, seq_lst, seq_tup, seq_str, ex_sl, dts, opIsN, opNotN, opEq, opNe, has_str_non, has_int_non, has_bool_non, has_list_non, has_tuple_non, has_dict_non, isN_non, notRaw_non, data_non, has_str_bl, has_int_bl, has_bool_bl, has_list_bl, has_tuple_bl, has_dict_bl, isN_bl, notRaw_bl, data_bl, has_str_int, has_int_int, has_bool_int, has_list_int, has_tuple_int, has_dict_int, isN_int, notRaw_int, data_int, has_str_str, has_int_str, has_bool_str, has_list_str, has_tuple_str, has_dict_str, isN_str, notRaw_str, data_str, has_str_lst, has_int_lst, has_bool_lst, has_list_lst, has_tuple_lst, has_dict_lst, isN_lst, notRaw_lst, data_lst, has_str_tup, has_int_tup, has_bool_tup, has_list_tup, has_tuple_tup, has_dict_tup, isN_tup, notRaw_tup, data_tup, has_str_dct, has_int_dct, has_bool_dct, has_list_dct, has_tuple_dct, has_dict_dct, isN_dct, notRaw_dct, data_dct, has_str_ins, has_int_ins, has_bool_ins, has_list_ins, has_tuple_ins, has_dict_ins, isN_ins, notRaw_ins, data_ins, has_str_raw, has_int_raw, has_bool_raw, has_list_raw, has_tuple_raw, has_dict_raw, isN_raw, notRaw_raw, data_raw, has_str_lam, has_int_lam, has_bool_lam, has_list_lam, has_tuple_lam, has_dict_lam, isN_lam, notRaw_lam, data_lam, dLam, dAllGot, keyD_int, keyD_str, add_int, add_str, add_lst, add_tup, i0_int, oi_int, in_lst, in_tup, in_dct_str, in_sign, optP_some, De.ix_lst, De.ix_tup, ix_dct_str, all_lst, atI_0, atI_1, atI_2, len_lst, len_tup, len_str, tuple_lst, tuple_tup, list_lst, list_tup, pln_non, dep_non, pln_bl, dep_bl, pln_int, dep_int, pln_str, dep_str, pln_lst, pln_tup, dep_lst, dep_tup, plns_nil, plns_cons, deps_nil, deps_cons, eqB_int, eqB_str, eqB_non_str, eqB_str_non, eqB_bl_str, eqB_str_bl, eqB_int_str, eqB_str_int, eqB_lst_str, eqB_str_lst, eqB_tup_str, eqB_str_tup, sz_0, sz_1, sz_2, sz_3, sz_4, sz_5, sz_6, sz_7, sz_8, sz_9, sz_10, sz_11, sz_12, sz_13, sz_14, lcStep, wipeS, dLenSet, isSeq, itemsD, dDc, dcStep, dFld, dFldS, dFldA, insD, InsF.look, InsF.lack, dMeth, dMethN, dProp, dMake, dMakeK, dRaise, dCallL, opTab, opInTab, dAppE, dInsE, lstAt, dIndexL, dLcK, fxVar, fxFld, putG, dFrz, dGot, dPar, int_int, int_bl, abs_int, min_int, max_int, mul_int, mul_lst, dgSub, List.lookup_cons, List.lookup_nil, Int.reduceNeg, List.map_cons, List.map_nil, List.length_cons, List.length_nil, List.replicate_succ, List.replicate_zero, List.append_nil, List.nil_append, List.cons_append, List.set_cons_zero, List.set_cons_succ,
  Option.map_some, Option.map_none, Nat.zero_add, Nat.add_zero, Nat.reduceAdd, Nat.reduceLeDiff, Nat.min_self, Nat.reduceSub, Nat.sub_self, Nat.add_one_sub_one, List.getElem?_cons_zero, List.getElem?_cons_succ, if_true, if_false, true_and, and_true, Bool.not_true, Bool.not_false, Bool.true_or, Bool.false_or, Bool.or_true, Bool.or_false, Bool.true_and, Bool.false_and, Bool.and_true, Bool.and_false, Bool.false_eq_true, reduceIte, reduceCtorEq, Bool.not_eq_true', not_true_eq_false, not_false_eq_true, exists_eq_left', exists_eq_left, exists_and_left, Option.some.injEq, Ov.o.injEq, OO.lst.injEq, Ov.d.injEq, and_self])
abbrev n_wrong_column : List Str := ["main", "names", "at", "column", "kinds", "name", "kind"]
theorem sc_wrong_column : FnScope n_wrong_column ["main"] (defScope s_wrong_column) := ⟨rfl, rfl, rfl, by decide +kernel, rfl, by decide +kernel, by decide +kernel⟩
section
variable {P : Program} {w : World} {K : PySem.W.Frag} {mg : Str → Option Value} {base : Heap}
def item0 : Dt → Dt
  | .tup (n :: _) => n
  | _ => .non
def item1 : Dt → Dt
  | .tup (_ :: k :: _) => k
  | _ => .non
/-- the first place of a list at which p holds -/
def firstAt (n : Nat) (p : Nat → Bool) : Option Nat := (List.range n).find? p
theorem firstAt_some {n i : Nat} {p : Nat → Bool} (hi : i < n) (h : p i = true) (k : ∀ j, j < i → p j = false) : firstAt n p = some i := by
  unfold firstAt
  rw [List.find?_eq_some_iff_getElem]
  refine ⟨h, i, by rw [List.length_range]; exact hi, by rw [List.getElem_range], fun j hj => ?_⟩
  rw [List.getElem_range, k j hj]
  rfl
theorem firstAt_none {n : Nat} {p : Nat → Bool} (k : ∀ j, j < n → p j = false) : firstAt n p = none := by
  unfold firstAt
  rw [List.find?_eq_none]
  intro j hj
  rw [k j (List.mem_range.mp hj)]
  simp
def badCol (ds : List Dt) (i : Nat) : Bool := match ds[i]? with
  | some d => !colOf kinds3 d || inD (item0 d) ((ds.take i).map item0)
  | none => false
/-- what is told of a main table: an index, or None -/
def wCol (ds : List Dt) : Dt := match firstAt ds.length (badCol ds) with
  | some i => .int (i : Nat)
  | none => if decide (1 ≤ ds.length) && decide (ds.length ≤ 6) && inD (.str "name") (ds.map item1) && decide ((ds.map item1).countP (fun z => eqB z (.str "tick")) ≤ 2) then .non else .int (ds.length : Nat)
def wColD : Dt → Dt
  | .lst ds => wCol ds
  | .tup ds => wCol ds
  | _ => .int 0
def fWCol : FD := fun xs os Q _ => match xs with
  | [.d d] => pln d = true ∧ Q (.d (wColD d)) os
  | _ => False
theorem colOf_get {ks : List Dt} {d : Dt} (h : colOf ks d = true) : ∃ n k, d = .tup [n, k] ∧ nmD n = true := by
  unfold colOf at h
  split at h
  · rename_i n k
    exact ⟨n, k, rfl, (Bool.and_eq_true_iff.mp (Bool.and_eq_true_iff.mp h).1).1⟩
  · cases h
theorem nm_pln {d : Dt} (h : nmD d = true) : pln d = true ∧ dep d = 1 := by
  rw [nm_txt h]
  sizeOf_list_dec
theorem plns_map {α : Type} {f : α → Dt} : ∀ {xs : List α}, (∀ x ∈ xs, pln (f x) = true) → plns (xs.map f) = true
  | [], _ => by sizeOf_list_dec
  | x :: xs, h => by
    rw [List.map_cons, plns_cons, h x List.mem_cons_self, plns_map fun y hy => h y (List.mem_cons_of_mem _ hy)]
    rfl
theorem deps_map {α : Type} {f : α → Dt} {n : Nat} : ∀ {xs : List α}, (∀ x ∈ xs, dep (f x) ≤ n) → deps (xs.map f) ≤ n
  | [], _ => by rw [List.map_nil, deps_nil]; exact Nat.zero_le _
  | x :: xs, h => by
    rw [List.map_cons, deps_cons]
    exact Nat.max_le.mpr ⟨h x List.mem_cons_self, deps_map fun y hy => h y (List.mem_cons_of_mem _ hy)⟩
theorem ok_wrong_column (T : Top K w mg) : FnOk P w K mg base CX0 4 T.a_wrong_column T.d_wrong_column ["main"] (spD K (zT T) 1 fWCol) := by
  refine fn_t (fn_d T.F_wrong_column sc_wrong_column (fun cdv A outer s H E hr => (pss_consD (psd_if (ptd_not (ptd_tst (pd_isiT (c := .list) (c' := .tuple) (pe_callB call_isiT (by rfl) T.z_isinstance (by decide +kernel) (pa_cons (pd_var (pv 0)) (pa_cons (pe_tup (pa_cons (pe_bltn (v := .ty "list") (by rfl) T.z_list (by decide +kernel) rfl) (pa_cons (pe_bltn (v := .ty "tuple") (by rfl) T.z_tuple (by decide +kernel) rfl) pa_nil))) pa_nil)))))) (pss_oneD (psd_ret pd_int)) pss_nilD)
    (pss_consD (psd_asg (ps_asg (pd_lstO pad_nil) (pgd_name (pg_name (i := 1) sc_wrong_column.nd rfl (Or.inl rfl)))))
    (pss_consD (psd_for PassesOwn.never rfl (pid_enumA (pi_enumA (by rfl) T.z_enumerate (pad_cons (pd_var (pv 0)) pad_nil))) (pgd_tup (n := 2) (pg_tup rfl (pgsd_cons (pgs_cons (pgd_name (pg_name (i := 2) sc_wrong_column.nd rfl (Or.inl rfl))) (pgsd_cons (pgs_cons (pgd_name (pg_name (i := 3) sc_wrong_column.nd rfl (Or.inl rfl))) pgsd_nil))))))
    (pss_consD (psd_if (ptd_w (pwd_or (ptd_not (ptd_tst (pd_call0 (pe_call (ok_is_column_of T) (hr.mono (by decide)) rfl T.m_is_column_of T.F_is_column_of.kp T.b_is_column_of .nil pass0 (pad_cons (pd_var (pv 3)) (pad_cons (pd_c (pe_glob rfl T.c_KINDS T.r_KINDS) (fun G => .tup (T.q_KINDS G) (.cons (.str _ (by decide +kernel)) (.cons (.str _ (by decide +kernel)) (.cons (.str _ (by decide +kernel)) .nil))) (by show 3 ≤ sizeLine; decide))) pad_nil)))))) (pwd_or1 (ptd_cmp (od_in (hu65 hr)) (pd_ix (od_ix (hu_of hr)) (pd_var (pv 3)) pd_int) (pd_var (pv 1)) rfl)))) (pss_oneD (psd_ret (pd_var (pv 2)))) pss_nilD)
    (pss_oneD (psd_expr (pd_append (pe_bm PySem.F.plainAttrs_list PySem.F.slot_list_append PySem.F.type_list_append mt_append (pv 1) (pad_cons (pd_ix (od_ix (hu_of hr)) (pd_var (pv 3)) pd_int) pad_nil)))))))
    (pss_consD (psd_setLc (i := 4) rfl rfl (sw_true rfl rfl rfl (by decide +kernel)) (own := [("name", 5), ("kind", 6)]) (E' := E0) rfl sc_wrong_column.nd (pid_seq (pd_var (pv 0))) (blkOk_by (own := [("name", 5), ("kind", 6)]) (N := n_wrong_column) (sc := defScope s_wrong_column) (by decide +kernel)) (fun _ _ _ _ _ => (pgd_tup (n := 2) (pg_tup rfl (pgsd_cons (pgs_cons (pgd_name (pg_name (i := 5) sc_wrong_column.nd rfl (Or.inl rfl))) (pgsd_cons (pgs_cons (pgd_name (pg_name (i := 6) sc_wrong_column.nd rfl (Or.inl rfl))) pgsd_nil))))))) (fun _ _ _ _ _ => ptsd_nil) (fun _ _ _ _ _ => (pd_var (pv 6))) (by decide))
    (pss_consD (psd_if (ptd_w (pwd_or (ptd_not (ptd_chain od_le od_le pd_int (pd_callB cd_len (by rfl) T.z_len (by decide +kernel) (pad_cons (pd_var (pv 0)) pad_nil)) (pd_c (pe_glob rfl T.c_MOST_COLUMNS T.r_MOST_COLUMNS) (fun _ => (.int _))))) (pwd_or (ptd_cmp (od_notIn (hu65 hr)) pd_str (pd_var (pv 4)) rfl) (pwd_or1 (ptd_cmp od_gt (pd_count (pe_bm PySem.F.plainAttrs_list PySem.F.slot_list_count PySem.F.type_list_count (mt_countD (hu65 hr)) (pd_var (pv 4)) (pad_cons pd_str pad_nil))) (pd_c (pe_glob rfl T.c_MOST_TICKS T.r_MOST_TICKS) (fun _ => (.int _))) (nomark _)))))) (pss_oneD (psd_ret (pd_callB cd_len (by rfl) T.z_len (by decide +kernel) (pad_cons (pd_var (pv 0)) pad_nil)))) pss_nilD)
    (pss_oneD (psd_ret pd_non)))))))) (fun xs os Q Ex hn h => h)) (fun xs os Q Ex hn h => ?_)
  obtain ⟨d, rfl, hp, q⟩ := one_get h
  sizeOf_list_dec
  refine ⟨pln_data hp, ?_⟩
  cases d
  case lst | tup =>
    rename_i ds
    have hp : plns ds = true := by first | rwa [pln_lst] at hp | rwa [pln_tup] at hp
    have q : Q (.d (wCol ds)) os := q
    have good : ∀ j d, ds[j]? = some d → badCol ds j = false → ∃ n k, d = .tup [n, k] ∧ nmD n = true ∧ pln k = true := by
      intro j d hj hb
      unfold badCol at hb
      rw [hj] at hb
      simp only [Bool.or_eq_false_iff, Bool.not_eq_false'] at hb
      obtain ⟨n, k, rfl, hn⟩ := colOf_get hb.1
      have := plns_mem hp _ (List.mem_of_getElem? hj)
      rw [pln_tup, plns_cons, plns_cons, Bool.and_eq_true, Bool.and_eq_true] at this
      exact ⟨n, k, rfl, hn, this.2.1⟩
    sizeOf_list_dec
    intro hsz
    refine for_inv (fun i sl os' => ∃ a b, sl = [_, some (.o os.length), a, b, none, none, none] ∧ os' = os ++ [.lst (((ds.take i).map item0).map .d)] ∧ ∀ j, j < i → badCol ds j = false) ⟨_, _, rfl, rfl, fun j hj => absurd hj (Nat.not_lt_zero _)⟩ ?_ ?_
    · rintro i x _ _ N hx ⟨a, b, rfl, rfl, hb⟩ hN
      rw [enumL_at] at hx
      cases hd : ds[i]? with
      | none => rw [hd] at hx; cases hx
      | some d =>
        rw [hd] at hx
        obtain rfl := (Option.some.inj hx).symm
        have hi : i < ds.length := (List.getElem?_eq_some_iff.mp hd).1
        have pd := plns_mem hp _ (List.mem_of_getElem? hd)
        sizeOf_list_dec
        simp only [isCol_eq]
        sizeOf_list_dec
        have hbi : badCol ds i = (!colOf kinds3 d || inD (item0 d) ((ds.take i).map item0)) := by
          unfold badCol
          rw [hd]
        have told : badCol ds i = true → dropQ os Q (.d (.int (i : Nat))) (os ++ [.lst (((ds.take i).map item0).map .d)]) := fun hb1 => by
          refine dropQ_same _ ?_
          unfold wCol at q
          rw [firstAt_some hi hb1 hb] at q
          exact q
        refine ⟨⟨pd, by decide⟩, ?_⟩
        split
        · rename_i h1
          exact told (by rw [hbi, h1]; rfl)
        · rename_i h1
          have h1 := Bool.of_not_eq_false h1
          obtain ⟨n, k, rfl, hn2⟩ := colOf_get h1
          obtain ⟨pn, dn⟩ := nm_pln hn2
          have names : ∀ x ∈ (ds.take i).map item0, nmD x = true := fun x hx2 => by
            obtain ⟨y, hy, rfl⟩ := List.mem_map.mp hx2
            obtain ⟨j, hj, e⟩ := List.getElem_of_mem hy
            rw [List.length_take] at hj
            rw [List.getElem_take] at e
            obtain ⟨n', k', rfl, hn', _⟩ := good j y (by rw [← e]; exact List.getElem?_eq_getElem (by omega)) (hb j (by omega))
            exact hn'
          have pl : plns ((ds.take i).map item0) = true := plns_map fun x hx2 => (nm_pln (names _ (List.mem_map_of_mem hx2))).1
          sizeOf_list_dec
          refine ⟨⟨pn, pl, by omega⟩, ?_⟩
          split
          · rename_i h2
            exact told (by rw [hbi, h1]; exact h2)
          · rename_i h2
            rw [enumL_len] at hsz
            refine ⟨by rw [List.length_map, List.length_map, List.length_take]; omega, hN _ _ ⟨_, _, rfl, ?_, fun j hj => ?_⟩⟩
            · rw [List.take_add_one, hd, List.map_append, List.map_append]
              rfl
            · rcases Nat.lt_succ_iff_lt_or_eq.mp hj with h | rfl
              · exact hb j h
              · rw [hbi, h1]
                exact Bool.eq_false_iff.mpr h2
    · rintro _ _ ⟨a, b, rfl, rfl, hb⟩
      rw [enumL_len] at hb ⊢
      rw [List.take_of_length_le (Nat.le_refl _)]
      have cols : ∀ d ∈ ds, ∃ n k, d = .tup [n, k] ∧ nmD n = true ∧ pln k = true := fun d hd => by
        obtain ⟨j, hj, e⟩ := List.getElem_of_mem hd
        exact good j d (by rw [← e]; exact List.getElem?_eq_getElem hj) (hb j hj)
      sizeOf_list_dec
      refine lc_map item1 (fun d hd k s hk => ?_) ?_
      · obtain ⟨n, k', rfl, _, _⟩ := cols d hd
        sizeOf_list_dec
        exact hk
      have pk : plns (ds.map item1) = true := plns_map fun d hd => by
        obtain ⟨n, k, rfl, _, h⟩ := cols d hd
        exact h
      have tl : ∀ r, Q (.d r) os → dropQ os Q (.d r) (os ++ [.lst ((ds.map item0).map .d)]) := fun r h => dropQ_same _ h
      sizeOf_list_dec
      unfold wCol at q
      rw [firstAt_none hb] at q
      have q : Q (.d (if decide (1 ≤ ds.length) && decide (ds.length ≤ 6) && inD (.str "name") (ds.map item1) && decide ((ds.map item1).countP (fun z => eqB z (.str "tick")) ≤ 2) then .non else .int (ds.length : Nat))) os := q
      rw [show decide ((1 : Int) ≤ ds.length) = decide (1 ≤ ds.length) from decide_eq_decide.mpr (by omega), show decide ((ds.length : Int) ≤ 6) = decide (ds.length ≤ 6) from decide_eq_decide.mpr (by omega)]
      split
      · rename_i h1
        rw [h1, Bool.true_and] at q
        split
        · rename_i h2
          rw [h2] at q
          exact tl _ q
        · rename_i h2
          rw [Bool.of_not_eq_false h2, Bool.true_and] at q
          refine ⟨(fun z e => nomatch e), ⟨pk, by omega⟩, ?_⟩
          split
          · rename_i h3
            rw [h3] at q
            exact tl _ q
          · rename_i h3
            rw [Bool.of_not_eq_false h3, Bool.true_and] at q
            refine ⟨⟨pk, by omega⟩, ?_⟩
            split
            · rename_i h4
              have h4 := of_decide_eq_true h4
              rw [decide_eq_false (by omega)] at q
              exact tl _ q
            · rename_i h4
              have h4 := of_decide_eq_false (Bool.eq_false_iff.mpr h4)
              rw [decide_eq_true (by omega)] at q
              exact tl _ q
      · rename_i h1
        rw [Bool.eq_false_iff.mpr h1, Bool.false_and] at q
        exact tl _ q
  all_goals
    sizeOf_list_dec
    exact dropQ_at q
end
end Bl
namespace Bl
open PySem L2 De
local macro_rules | `(tactic| sizeOf_list_dec) => `(tactic| simp only [dDef, startS, dSeqS, dNext, dBrk, dCnt, dAsg, dDrop, dRet, dRetN, dIfS, dFor, dVar, dC, dNil, dCons, dOp, dFn, dTst, dAndT, dOrT, dNotT, dAnd, dOr, dNot, dIfE, dChain, dTup, dLst, dLstO, dIsi, dStar, dPart, dNoPart, dSl, dAppend, dAppV, dRng1, dRng2, dEnum, dEnumA, dZip, dCount, dCount.isSeqL, dCount.itemsL, end_at, end_set, rdd_end, dgName, dgNil, dgCons, dgTup, dSeq, dLc, dLcO, dYes, dCall, dCall0,
  rdd_d, rdds_nil, rdds_cons, asB_bl, asL_some, seq_lst, seq_tup, seq_str, ex_sl, dts, opIsN, opNotN, opEq, opNe, has_str_non, has_int_non, has_bool_non, has_list_non, has_tuple_non, has_dict_non, isN_non, notRaw_non, data_non, has_str_bl, has_int_bl, has_bool_bl, has_list_bl, has_tuple_bl, has_dict_bl, isN_bl, notRaw_bl, data_bl, has_str_int, has_int_int, has_bool_int, has_list_int, has_tuple_int, has_dict_int, isN_int, notRaw_int, data_int, has_str_str, has_int_str, has_bool_str, has_list_str, has_tuple_str, has_dict_str, isN_str, notRaw_str, data_str, has_str_lst, has_int_lst, has_bool_lst, has_list_lst, has_tuple_lst, has_dict_lst, isN_lst, notRaw_lst, data_lst, has_str_tup, has_int_tup, has_bool_tup, has_list_tup, has_tuple_tup, has_dict_tup, isN_tup, notRaw_tup, data_tup, has_str_dct, has_int_dct, has_bool_dct, has_list_dct, has_tuple_dct, has_dict_dct, isN_dct, notRaw_dct, data_dct, has_str_ins, has_int_ins, has_bool_ins, has_list_ins, has_tuple_ins, has_dict_ins, isN_ins, notRaw_ins, data_ins, has_str_raw, has_int_raw, has_bool_raw, has_list_raw, has_tuple_raw, has_dict_raw, isN_raw, notRaw_raw, data_raw, has_str_lam, has_int_lam, has_bool_lam, has_list_lam, has_tuple_lam, has_dict_lam, isN_lam, notRaw_lam, data_lam, dLam, dAllGot, keyD_int, keyD_str, add_int, add_str, add_lst, add_tup, i0_int, oi_int, in_lst, in_tup, in_dct_str, in_sign, optP_some, De.ix_lst, De.ix_tup, ix_dct_str, all_lst, atI_0, atI_1, atI_2, len_lst, len_tup, len_str, tuple_lst, tuple_tup, list_lst, list_tup, pln_non, dep_non, pln_bl, dep_bl, pln_int, dep_int, pln_str, dep_str, pln_lst, pln_tup, dep_lst, dep_tup, plns_nil, plns_cons, deps_nil, deps_cons, eqB_int, eqB_str, eqB_non_str, eqB_str_non, eqB_bl_str, eqB_str_bl, eqB_int_str, eqB_str_int, eqB_lst_str, eqB_str_lst, eqB_tup_str, eqB_str_tup, sz_0, sz_1, sz_2, sz_3, sz_4, sz_5, sz_6, sz_7, sz_8, sz_9, sz_10, sz_11, sz_12, sz_13, sz_14, lcStep, wipeS, dLenSet, isSeq, itemsD, dDc, dcStep, dFld, dFldS, dFldA, insD, InsF.look, InsF.lack, dMeth, dMethN, dProp, dMake, dMakeK, dRaise, dCallL, opTab, opInTab, dAppE, dInsE, lstAt, dIndexL, dLcK, fxVar, fxFld, putG, dFrz, dGot, dPar, int_int, int_bl, abs_int, min_int, max_int, mul_int, mul_lst, dgSub, List.lookup_cons, List.lookup_nil, Int.reduceNeg, List.map_cons, List.map_nil, List.length_cons, List.length_nil, List.replicate_succ, List.replicate_zero, List.append_nil, List.nil_append, List.cons_append, List.set_cons_zero, List.set_cons_succ,
  Option.map_some, Option.map_none, Nat.zero_add, Nat.add_zero, Nat.reduceAdd, Nat.reduceLeDiff, Nat.min_self, Nat.reduceSub, Nat.sub_self, Nat.add_one_sub_one, List.getElem?_cons_zero, List.getElem?_cons_succ, if_true, if_false, true_and, and_true, Bool.not_true, Bool.not_false, Bool.true_or, Bool.false_or, Bool.or_true, Bool.or_false, Bool.true_and, Bool.false_and, Bool.and_true, Bool.and_false, Bool.false_eq_true, reduceIte, reduceCtorEq, Bool.not_eq_true', not_true_eq_false, not_false_eq_true, exists_eq_left', exists_eq_left, exists_and_left, Option.some.injEq, Ov.o.injEq, OO.lst.injEq, Ov.d.injEq, and_self])
abbrev n_is_side : List Str := ["value", "name", "how", "columns", "column"]
theorem sc_is_side : FnScope n_is_side ["value"] (defScope s_is_side) := ⟨rfl, rfl, rfl, by decide +kernel, rfl, by decide +kernel, by decide +kernel⟩
abbrev n_wrong_side : List Str := ["sides", "main", "names", "at", "side", "name", "kind"]
theorem sc_wrong_side : FnScope n_wrong_side ["sides", "main"] (defScope s_wrong_side) := ⟨rfl, rfl, rfl, by decide +kernel, rfl, by decide +kernel, by decide +kernel⟩
abbrev n_is_key : List Str := ["value", "main", "kinds", "name", "kind", "column"]
theorem sc_is_key : FnScope n_is_key ["value", "main"] (defScope s_is_key) := ⟨rfl, rfl, rfl, by decide +kernel, rfl, by decide +kernel, by decide +kernel⟩
section
variable {P : Program} {w : World} {K : PySem.W.Frag} {mg : Str → Option Value} {base : Heap}
abbrev hows : List Dt := [.str "one", .str "many"]
abbrev kName : List Dt := [.str "name"]
def sideCols (c : Dt) : Bool := isSeq c && (decide (1 ≤ (itemsD c).length) && (decide ((itemsD c).length ≤ 3) && ((itemsD c).all (colOf kName) && decide (((itemsD c).map item0).map txt).Nodup)))
def sideOf : Dt → Bool
  | .tup [n, h, c] => nmD n && (inD h hows && sideCols c)
  | _ => false
def fOne (f : Dt → Bool) : FD := fun xs os Q _ => match xs with
  | [.d d] => pln d = true ∧ Q (.d (.bl (f d))) os
  | _ => False
theorem fOne_eq {f : Dt → Bool} {d : Dt} {os : List OO} {Q : Ov → List OO → Prop} {Ex : Exn → List OO → Prop} : fOne f [.d d] os Q Ex = (pln d = true ∧ Q (.d (.bl (f d))) os) := rfl
abbrev anchorK : List Dt := [.str "name", .str "tick"]
def isAnchor (d : Dt) : Bool := inD d anchorK
theorem ok_is_anchor (T : Top K w mg) : FnOk P w K mg base CX0 1 T.a_is_anchor T.d_is_anchor ["kind"] (spD K (zT T) 1 (fOne isAnchor)) := by
  refine fn_d T.F_is_anchor sc_is_anchor (fun cdv A outer s H E hr => (pss_oneD (psd_ret (pd_cmp (od_in (hu65 hr)) (pd_var (pv 0)) (pd_tup (pad_cons pd_str (pad_cons pd_str pad_nil))) rfl)))) (fun xs os Q Ex hn h => ?_)
  obtain ⟨d, rfl, hp, q⟩ := one_get h
  sizeOf_list_dec
  exact ⟨⟨hp, by omega⟩, q⟩
theorem ok_is_side (T : Top K w mg) : FnOk P w K mg base CX0 4 T.a_is_side T.d_is_side ["value"] (spD K (zT T) 1 (fOne sideOf)) := by
  refine fn_d T.F_is_side sc_is_side (fun cdv A outer s H E hr => (pss_consD (psd_if (ptd_w (pwd_or (ptd_not (ptd_tst (pd_isi (c := .tuple) (pe_callB call_isi (by rfl) T.z_isinstance (by decide +kernel) (pa_cons (pd_var (pv 0)) (pa_cons (pe_bltn (v := .ty "tuple") (by rfl) T.z_tuple (by decide +kernel) rfl) pa_nil)))))) (pwd_or1 (ptd_cmp (od_ne hr.units) (pd_callB cd_len (by rfl) T.z_len (by decide +kernel) (pad_cons (pd_var (pv 0)) pad_nil)) pd_int (nomark _))))) (pss_oneD (psd_ret pd_bl)) pss_nilD)
    (pss_consD (psd_asg (ps_asg (pd_var (pv 0)) (pgd_tup (n := 3) (pg_tup rfl (pgsd_cons (pgs_cons (pgd_name (pg_name (i := 1) sc_is_side.nd rfl (Or.inl rfl))) (pgsd_cons (pgs_cons (pgd_name (pg_name (i := 2) sc_is_side.nd rfl (Or.inl rfl))) (pgsd_cons (pgs_cons (pgd_name (pg_name (i := 3) sc_is_side.nd rfl (Or.inl rfl))) pgsd_nil))))))))))
    (pss_consD (psd_if (ptd_w (pwd_or (ptd_not (ptd_tst (pd_call0 (pe_call (ok_is_name T) (hr.mono (by decide)) rfl T.m_is_name T.F_is_name.kp T.b_is_name .nil pass0 (pad_cons (pd_var (pv 1)) pad_nil))))) (pwd_or (ptd_cmp (od_notIn (hu65 hr)) (pd_var (pv 2)) (pd_tup (pad_cons pd_str (pad_cons pd_str pad_nil))) rfl) (pwd_or1 (ptd_not (ptd_tst (pd_isiT (c := .list) (c' := .tuple) (pe_callB call_isiT (by rfl) T.z_isinstance (by decide +kernel) (pa_cons (pd_var (pv 3)) (pa_cons (pe_tup (pa_cons (pe_bltn (v := .ty "list") (by rfl) T.z_list (by decide +kernel) rfl) (pa_cons (pe_bltn (v := .ty "tuple") (by rfl) T.z_tuple (by decide +kernel) rfl) pa_nil))) pa_nil)))))))))) (pss_oneD (psd_ret pd_bl)) pss_nilD)
    (pss_consD (psd_if (ptd_w (pwd_or (ptd_not (ptd_chain od_le od_le pd_int (pd_callB cd_len (by rfl) T.z_len (by decide +kernel) (pad_cons (pd_var (pv 3)) pad_nil)) (pd_c (pe_glob rfl T.c_MOST_OF_SIDE T.r_MOST_OF_SIDE) (fun _ => (.int _))))) (pwd_or1 (ptd_not (ptd_tst (pd_callB (cd_all rfl) (by rfl) T.z_all (by decide +kernel) (pad_cons (pd_lc (own := [("column", 4)]) (E' := E0) rfl sc_is_side.nd (pid_seq (pd_var (pv 3))) (blkOk_by (own := [("column", 4)]) (N := n_is_side) (sc := defScope s_is_side) (by decide +kernel)) (fun _ _ _ _ _ => (pgd_name (pg_name (i := 4) sc_is_side.nd rfl (Or.inl rfl)))) (fun _ _ _ _ _ => ptsd_nil) (fun _ _ _ _ _ => (pd_call0 (pe_call (ok_is_column_of T) (hr.mono (by decide)) rfl T.m_is_column_of T.F_is_column_of.kp T.b_is_column_of .nil pass0 (pad_cons (pd_var (pv 4)) (pad_cons (pd_tup (pad_cons pd_str pad_nil)) pad_nil))))) (by decide)) pad_nil))))))) (pss_oneD (psd_ret pd_bl)) pss_nilD)
    (pss_oneD (psd_ret (pd_cmp (od_eq hr.units) (pd_lenSet (pe_lenSetM rfl (by rfl) T.z_len (by rfl) T.z_set (pd_lc (own := [("column", 4)]) (E' := E0) rfl sc_is_side.nd (pid_seq (pd_var (pv 3))) (blkOk_by (own := [("column", 4)]) (N := n_is_side) (sc := defScope s_is_side) (by decide +kernel)) (fun _ _ _ _ _ => (pgd_name (pg_name (i := 4) sc_is_side.nd rfl (Or.inl rfl)))) (fun _ _ _ _ _ => ptsd_nil) (fun _ _ _ _ _ => (pd_ix (od_ix (hu_of hr)) (pd_var (pv 4)) pd_int)) (by decide)))) (pd_callB cd_len (by rfl) T.z_len (by decide +kernel) (pad_cons (pd_var (pv 3)) pad_nil)) (nomark _))))))))) (fun xs os Q Ex hn h => ?_)
  obtain ⟨d, rfl, hp, q⟩ := one_get h
  clear h
  sizeOf_list_dec
  refine ⟨pln_data hp, ?_⟩
  cases d with
  | tup ds =>
    rw [pln_tup] at hp
    sizeOf_list_dec
    match ds, hp, q with
    | [], _, q => sizeOf_list_dec; exact q
    | [_], _, q => sizeOf_list_dec; exact q
    | [_, _], _, q => sizeOf_list_dec; exact q
    | _ :: _ :: _ :: _ :: _, _, q =>
      sizeOf_list_dec
      rw [if_pos (by simp; omega)]
      exact q
    | [n, h, c], hp, q =>
      rw [plns_cons, plns_cons, plns_cons, Bool.and_eq_true, Bool.and_eq_true, Bool.and_eq_true] at hp
      obtain ⟨pn, ph, pc, _⟩ := hp
      have e : sideOf (.tup [n, h, c]) = (nmD n && (inD h hows && sideCols c)) := rfl
      rw [e] at q
      sizeOf_list_dec
      simp only [isName_eq]
      sizeOf_list_dec
      refine ⟨pln_data pn, ?_⟩
      split
      · rename_i h1
        rw [h1] at q
        exact q
      · rename_i h1
        rw [Bool.of_not_eq_false h1, Bool.true_and] at q
        refine ⟨(fun z e => nomatch e), ⟨ph, by omega⟩, ?_⟩
        split
        · rename_i h2
          rw [h2] at q
          exact q
        · rename_i h2
          rw [Bool.of_not_eq_false h2, Bool.true_and] at q
          refine ⟨pln_data pc, ?_⟩
          cases c
          case lst | tup =>
            rename_i es
            have pe : plns es = true := by simpa [pln_lst, pln_tup] using pc
            have e2 : ∀ c : Dt, itemsD c = es → isSeq c = true → sideCols c = (decide ((1 : Int) ≤ es.length) && (decide ((es.length : Int) ≤ 3) && (es.all (colOf kName) && decide ((es.map item0).map txt).Nodup))) := fun c h1 h2 => by
              unfold sideCols
              rw [h1, h2, Bool.true_and, show decide ((1 : Int) ≤ es.length) = decide (1 ≤ es.length) from decide_eq_decide.mpr (by omega), show decide ((es.length : Int) ≤ 3) = decide (es.length ≤ 3) from decide_eq_decide.mpr (by omega)]
            rw [e2 _ rfl rfl] at q
            sizeOf_list_dec
            split
            · rename_i h3
              rw [h3, Bool.true_and] at q
              split
              · rename_i h4
                rw [h4] at q
                exact q
              · rename_i h4
                rw [Bool.of_not_eq_false h4, Bool.true_and] at q
                refine lc_map (fun d => .bl (colOf kName d)) (fun d hd k s hk => ?_) ?_
                · sizeOf_list_dec
                  simp only [isCol_eq]
                  sizeOf_list_dec
                  exact ⟨⟨plns_mem pe d hd, by omega⟩, hk⟩
                sizeOf_list_dec
                rw [bls_map, optP_some, List.all_map, show es.all (id ∘ fun d => colOf kName d) = es.all (colOf kName) from rfl]
                split
                · rename_i h5
                  rw [h5] at q
                  exact q
                · rename_i h5
                  have h5 := Bool.of_not_eq_false h5
                  rw [h5, Bool.true_and] at q
                  have cs : ∀ d ∈ es, ∃ n k, d = .tup [n, k] ∧ nmD n = true := fun d hd => colOf_get (List.all_eq_true.mp h5 d hd)
                  refine lc_map item0 (fun d hd k s hk => ?_) ?_
                  · obtain ⟨n, k', rfl, _⟩ := cs d hd
                    sizeOf_list_dec
                    exact hk
                  sizeOf_list_dec
                  rw [txts_nm (List.all_eq_true.mpr fun x hx => by
                    obtain ⟨d, hd, rfl⟩ := List.mem_map.mp hx
                    obtain ⟨n, k', rfl, hn⟩ := cs d hd
                    exact hn), optP_some]
                  have h4 := of_decide_eq_true (Bool.of_not_eq_false h4)
                  refine ⟨by rw [List.length_map, List.length_map]; omega, ?_⟩
                  have e6 : decide ((nDiff ((es.map item0).map txt) ((es.map item0).map txt).length : Int) = es.length) = decide ((es.map item0).map txt).Nodup := by
                    rw [← nDiff_eq, List.length_map, List.length_map]
                    exact decide_eq_decide.mpr (by omega)
                  rw [e6]
                  exact q
            · rename_i h3
              rw [Bool.eq_false_iff.mpr h3] at q
              exact q
          all_goals
            sizeOf_list_dec
            exact q
  | _ =>
    sizeOf_list_dec
    exact q
/-- a right main table's columns: pairs of a name and a kind -/
def pairsB (ms : List Dt) : Bool := ms.all fun d => match d with
  | .tup [n, k] => nmD n && pln k
  | _ => false
theorem pairs_get {ms : List Dt} (h : pairsB ms = true) : ∀ d ∈ ms, ∃ n k, d = .tup [n, k] ∧ nmD n = true ∧ pln k = true := fun d hd => by
  have := List.all_eq_true.mp h d hd
  split at this
  · rename_i n k
    obtain ⟨a, b⟩ := Bool.and_eq_true_iff.mp this
    exact ⟨n, k, rfl, a, b⟩
  · cases this
theorem sideOf_get {d : Dt} (h : sideOf d = true) : ∃ n k c, d = .tup [n, k, c] ∧ nmD n = true ∧ inD k hows = true ∧ sideCols c = true := by
  unfold sideOf at h
  split at h
  · rename_i n k c
    obtain ⟨a, b⟩ := Bool.and_eq_true_iff.mp h
    obtain ⟨b, c'⟩ := Bool.and_eq_true_iff.mp b
    exact ⟨n, k, c, rfl, a, b, c'⟩
  · cases h
def badSide (ns ds : List Dt) (i : Nat) : Bool := match ds[i]? with
  | some d => !sideOf d || inD (item0 d) (ns ++ (ds.take i).map item0)
  | none => false
def wSide (ns ds : List Dt) : Dt := match firstAt ds.length (badSide ns ds) with
  | some i => .int (i : Nat)
  | none => if 3 < ds.length then .int (ds.length : Nat) else .non
def wSideD (ns : List Dt) : Dt → Dt
  | .lst ds => wSide ns ds
  | .tup ds => wSide ns ds
  | _ => .int 0
def fWSide : FD := fun xs os Q _ => match xs with
  | [.d d, .d m] => (pln d = true ∧ isSeq m = true ∧ pairsB (itemsD m) = true ∧ pln m = true ∧ (itemsD m).length + (itemsD d).length ≤ sizeLine) ∧ Q (.d (wSideD ((itemsD m).map item0) d)) os
  | _ => False
theorem two_get {xs : List Ov} {k : Dt → Dt → Prop} (h : match xs with | [.d d, .d e] => k d e | _ => False) : ∃ d e, xs = [.d d, .d e] ∧ k d e := by
  split at h
  · exact ⟨_, _, rfl, h⟩
  · exact h.elim
theorem ok_wrong_side (T : Top K w mg) : FnOk P w K mg base CX0 5 T.a_wrong_side T.d_wrong_side ["sides", "main"] (spD K (zT T) 2 fWSide) := by
  refine fn_t (fn_d T.F_wrong_side sc_wrong_side (fun cdv A outer s H E hr => (pss_consD (psd_if (ptd_not (ptd_tst (pd_isiT (c := .list) (c' := .tuple) (pe_callB call_isiT (by rfl) T.z_isinstance (by decide +kernel) (pa_cons (pd_var (pv 0)) (pa_cons (pe_tup (pa_cons (pe_bltn (v := .ty "list") (by rfl) T.z_list (by decide +kernel) rfl) (pa_cons (pe_bltn (v := .ty "tuple") (by rfl) T.z_tuple (by decide +kernel) rfl) pa_nil))) pa_nil)))))) (pss_oneD (psd_ret pd_int)) pss_nilD)
    (pss_consD (psd_setLcO (i := 2) rfl rfl (sw_true rfl rfl rfl (by decide +kernel)) (own := [("name", 5), ("kind", 6)]) (E' := E0) rfl sc_wrong_side.nd (pid_seq (pd_var (pv 1))) (blkOk_by (own := [("name", 5), ("kind", 6)]) (N := n_wrong_side) (sc := defScope s_wrong_side) (by decide +kernel)) (fun _ _ _ _ _ => (pgd_tup (n := 2) (pg_tup rfl (pgsd_cons (pgs_cons (pgd_name (pg_name (i := 5) sc_wrong_side.nd rfl (Or.inl rfl))) (pgsd_cons (pgs_cons (pgd_name (pg_name (i := 6) sc_wrong_side.nd rfl (Or.inl rfl))) pgsd_nil))))))) (fun _ _ _ _ _ => ptsd_nil) (fun _ _ _ _ _ => (pd_var (pv 5))) (by decide))
    (pss_consD (psd_for PassesOwn.never rfl (pid_enumA (pi_enumA (by rfl) T.z_enumerate (pad_cons (pd_var (pv 0)) pad_nil))) (pgd_tup (n := 2) (pg_tup rfl (pgsd_cons (pgs_cons (pgd_name (pg_name (i := 3) sc_wrong_side.nd rfl (Or.inl rfl))) (pgsd_cons (pgs_cons (pgd_name (pg_name (i := 4) sc_wrong_side.nd rfl (Or.inl rfl))) pgsd_nil))))))
    (pss_consD (psd_if (ptd_w (pwd_or (ptd_not (ptd_tst (pd_call0 (pe_call (ok_is_side T) (hr.mono (by decide)) rfl T.m_is_side T.F_is_side.kp T.b_is_side .nil pass0 (pad_cons (pd_var (pv 4)) pad_nil))))) (pwd_or1 (ptd_cmp (od_in (hu65 hr)) (pd_ix (od_ix (hu_of hr)) (pd_var (pv 4)) pd_int) (pd_var (pv 2)) rfl)))) (pss_oneD (psd_ret (pd_var (pv 3)))) pss_nilD)
    (pss_oneD (psd_expr (pd_append (pe_bm PySem.F.plainAttrs_list PySem.F.slot_list_append PySem.F.type_list_append mt_append (pv 2) (pad_cons (pd_ix (od_ix (hu_of hr)) (pd_var (pv 4)) pd_int) pad_nil)))))))
    (pss_oneD (psd_ret (pd_ifE (ptd_cmp od_gt (pd_callB cd_len (by rfl) T.z_len (by decide +kernel) (pad_cons (pd_var (pv 0)) pad_nil)) (pd_c (pe_glob rfl T.c_MOST_SIDES T.r_MOST_SIDES) (fun _ => (.int _))) (nomark _)) (pd_callB cd_len (by rfl) T.z_len (by decide +kernel) (pad_cons (pd_var (pv 0)) pad_nil)) pd_non))))))) (fun xs os Q Ex hn h => h)) (fun xs os Q Ex hn h => ?_)
  obtain ⟨d, m, rfl, ⟨hp, hm, hpm, pm, hz⟩, q⟩ := two_get h
  clear h
  sizeOf_list_dec
  refine ⟨pln_data hp, ?_⟩
  cases d
  case lst | tup =>
    rename_i ds
    have hp : plns ds = true := by first | rwa [pln_lst] at hp | rwa [pln_tup] at hp
    sizeOf_list_dec
    cases m
    case lst | tup =>
      rename_i ms
      have hpm : pairsB ms = true := hpm
      have q : Q (.d (wSide (ms.map item0) ds)) os := q
      have pr := pairs_get hpm
      sizeOf_list_dec
      refine lc_map item0 (fun d hd k s hk => ?_) ?_
      · obtain ⟨n, k', rfl, _⟩ := pr d hd
        sizeOf_list_dec
        exact hk
      sizeOf_list_dec
      intro hsz
      rw [enumL_len] at hsz
      refine for_inv (fun i sl os' => ∃ a b, sl = [_, _, some (.o os.length), a, b, none, none] ∧ os' = os ++ [.lst ((ms.map item0 ++ (ds.take i).map item0).map .d)] ∧ ∀ j, j < i → badSide (ms.map item0) ds j = false) ⟨_, _, rfl, by simp, fun j hj => absurd hj (Nat.not_lt_zero _)⟩ ?_ ?_
      · rintro i x _ _ N hx ⟨a, b, rfl, rfl, hb⟩ hN
        rw [enumL_at] at hx
        cases hd : ds[i]? with
        | none => rw [hd] at hx; cases hx
        | some d =>
          rw [hd] at hx
          obtain rfl := (Option.some.inj hx).symm
          have hi : i < ds.length := (List.getElem?_eq_some_iff.mp hd).1
          have pd := plns_mem hp _ (List.mem_of_getElem? hd)
          sizeOf_list_dec
          have hbi : badSide (ms.map item0) ds i = (!sideOf d || inD (item0 d) (ms.map item0 ++ (ds.take i).map item0)) := by
            unfold badSide
            rw [hd]
          have told : badSide (ms.map item0) ds i = true → dropQ os Q (.d (.int (i : Nat))) (os ++ [.lst ((ms.map item0 ++ (ds.take i).map item0).map .d)]) := fun hb1 => by
            refine dropQ_same _ ?_
            unfold wSide at q
            rw [firstAt_some hi hb1 hb] at q
            exact q
          simp only [fOne_eq]
          sizeOf_list_dec
          refine ⟨pd, ?_⟩
          split
          · rename_i h1
            exact told (by rw [hbi, h1]; rfl)
          · rename_i h1
            have h1 := Bool.of_not_eq_false h1
            obtain ⟨n, k, c, rfl, hn2, _⟩ := sideOf_get h1
            obtain ⟨pn, dn⟩ := nm_pln hn2
            have names : ∀ x ∈ ms.map item0 ++ (ds.take i).map item0, nmD x = true := fun x hx2 => by
              rcases List.mem_append.mp hx2 with hx2 | hx2
              · obtain ⟨y, hy, rfl⟩ := List.mem_map.mp hx2
                obtain ⟨n', k', rfl, hn', _⟩ := pr y hy
                exact hn'
              · obtain ⟨y, hy, rfl⟩ := List.mem_map.mp hx2
                obtain ⟨j, hj, e⟩ := List.getElem_of_mem hy
                rw [List.length_take] at hj
                rw [List.getElem_take] at e
                have hbj := hb j (by omega)
                unfold badSide at hbj
                rw [List.getElem?_eq_getElem (by omega), e] at hbj
                simp only [Bool.or_eq_false_iff, Bool.not_eq_false'] at hbj
                obtain ⟨n', k', c', rfl, hn', _⟩ := sideOf_get hbj.1
                exact hn'
            have pl : plns (ms.map item0 ++ (ds.take i).map item0) = true := by
              have := plns_map (f := id) (xs := ms.map item0 ++ (ds.take i).map item0) fun x hx2 => (nm_pln (names x hx2)).1
              rwa [List.map_id] at this
            sizeOf_list_dec
            refine ⟨⟨pn, pl, by omega⟩, ?_⟩
            split
            · rename_i h2
              exact told (by rw [hbi, h1]; exact h2)
            · rename_i h2
              refine ⟨?_, hN _ _ ⟨_, _, rfl, ?_, fun j hj => ?_⟩⟩
              · have hz : ms.length + ds.length ≤ sizeLine := hz
                rw [List.length_map, List.length_append, List.length_map, List.length_map, List.length_take]
                omega
              · rw [List.take_add_one, hd, List.map_append, List.map_append, List.map_append, List.map_append, List.append_assoc]
                rfl
              · rcases Nat.lt_succ_iff_lt_or_eq.mp hj with h | rfl
                · exact hb j h
                · rw [hbi, h1]
                  exact Bool.eq_false_iff.mpr h2
      · rintro _ _ ⟨a, b, rfl, rfl, hb⟩
        rw [enumL_len] at hb ⊢
        rw [List.take_of_length_le (Nat.le_refl _)]
        sizeOf_list_dec
        unfold wSide at q
        rw [firstAt_none hb] at q
        have q : Q (.d (if 3 < ds.length then .int (ds.length : Nat) else .non)) os := q
        split
        · rename_i h1
          have h1 := of_decide_eq_true h1
          rw [if_pos (by omega)] at q
          exact dropQ_same _ q
        · rename_i h1
          have h1 := of_decide_eq_false (Bool.eq_false_iff.mpr h1)
          rw [if_neg (by omega)] at q
          exact dropQ_same _ q
    all_goals cases hm
  all_goals
    sizeOf_list_dec
    exact dropQ_at q
/-- the columns of a main table but the worths, as a dict: names and kinds -/
def kindsOf (ms : List Dt) : List (Key × Dt) := (ms.filter fun d => !eqB (item1 d) (.str "worth")).foldl (fun a d => putD a (.inr (txt (item0 d))) (item1 d)) []
def inKinds (ks : List (Key × Dt)) : Dt → Bool
  | .str z => (valD ks (.inr z)).isSome
  | _ => false
def keyOf (ks : List (Key × Dt)) : Dt → Bool
  | .tup vs => vs.isEmpty || (vs.all (inKinds ks) && (decide (vs.map txt).Nodup && vs.any fun v => isAnchor ((valD ks (.inr (txt v))).getD .non)))
  | _ => false
theorem valD_mem {ks : List (Key × Dt)} {k : Key} {v : Dt} (h : valD ks k = some v) : ∃ p ∈ ks, p.1 = k ∧ p.2 = v := by
  unfold valD at h
  cases e : ks.find? fun kv => decide (kv.1 = k) with
  | none => rw [e] at h; cases h
  | some p =>
    rw [e] at h
    have e2 := List.find?_some e
    exact ⟨p, List.mem_of_find?_eq_some e, by simpa using e2, Option.some.inj h⟩
theorem putD_all {P : Key × Dt → Prop} {ks : List (Key × Dt)} {k : Key} {v : Dt} (h : ∀ p ∈ ks, P p) (hv : P (k, v)) : ∀ p ∈ putD ks k v, P p := by
  unfold putD
  intro p hp
  split at hp
  · obtain ⟨q, hq, rfl⟩ := List.mem_map.mp hp
    by_cases e : q.1 = k
    · rw [if_pos e, e]
      exact hv
    · rw [if_neg e]
      exact h q hq
  · rcases List.mem_append.mp hp with hp | hp
    · exact h p hp
    · rw [List.mem_singleton.mp hp]
      exact hv
theorem foldD_all {P : Key × Dt → Prop} {f : Dt → Key × Dt} : ∀ {ds : List Dt} {acc : List (Key × Dt)}, (∀ p ∈ acc, P p) → (∀ d ∈ ds, P (f d)) → ∀ p ∈ ds.foldl (fun a d => putD a (f d).1 (f d).2) acc, P p
  | [], _, h, _ => h
  | d :: ds, _, h, k => foldD_all (ds := ds) (putD_all h (k d List.mem_cons_self)) fun e he => k e (List.mem_cons_of_mem _ he)
theorem kinds_pln {ms : List Dt} (pr : ∀ d ∈ ms, ∃ n k, d = .tup [n, k] ∧ nmD n = true ∧ pln k = true) {k : Key} {v : Dt} (h : valD (kindsOf ms) k = some v) : pln v = true := by
  obtain ⟨p, hp, _, rfl⟩ := valD_mem h
  refine foldD_all (P := fun p => pln p.2 = true) (f := fun d => (.inr (txt (item0 d)), item1 d)) (acc := []) (fun _ h => absurd h List.not_mem_nil) (fun d hd => ?_) p hp
  obtain ⟨n, k, rfl, _, hk⟩ := pr d (List.mem_filter.mp hd).1
  exact hk
def fIsKey : FD := fun xs os Q _ => match xs with
  | [.d d, .d m] => (pln d = true ∧ isSeq m = true ∧ pairsB (itemsD m) = true ∧ pln m = true ∧ (itemsD d).length ≤ 300) ∧ Q (.d (.bl (keyOf (kindsOf (itemsD m)) d))) os
  | _ => False
theorem ok_is_key (T : Top K w mg) : FnOk P w K mg base CX0 5 T.a_is_key T.d_is_key ["value", "main"] (spD K (zT T) 2 fIsKey) := by
  refine fn_d T.F_is_key sc_is_key (fun cdv A outer s H E hr => (pss_consD (psd_if (ptd_not (ptd_tst (pd_isi (c := .tuple) (pe_callB call_isi (by rfl) T.z_isinstance (by decide +kernel) (pa_cons (pd_var (pv 0)) (pa_cons (pe_bltn (v := .ty "tuple") (by rfl) T.z_tuple (by decide +kernel) rfl) pa_nil)))))) (pss_oneD (psd_ret pd_bl)) pss_nilD)
    (pss_consD (psd_if (ptd_cmp (od_eq hr.units) (pd_callB cd_len (by rfl) T.z_len (by decide +kernel) (pad_cons (pd_var (pv 0)) pad_nil)) pd_int (nomark _)) (pss_oneD (psd_ret pd_bl)) pss_nilD)
    (pss_consD (psd_asg (ps_asg (pd_dc (own := [("name", 3), ("kind", 4)]) (E' := E0) rfl sc_is_key.nd (pid_seq (pd_var (pv 1))) (blkOk_by (own := [("name", 3), ("kind", 4)]) (N := n_is_key) (sc := defScope s_is_key) (by decide +kernel)) (fun _ _ _ _ _ => (pgd_tup (n := 2) (pg_tup rfl (pgsd_cons (pgs_cons (pgd_name (pg_name (i := 3) sc_is_key.nd rfl (Or.inl rfl))) (pgsd_cons (pgs_cons (pgd_name (pg_name (i := 4) sc_is_key.nd rfl (Or.inl rfl))) pgsd_nil))))))) (fun _ _ _ _ _ => (ptsd_one (ptd_cmp (od_ne hr.units) (pd_var (pv 4)) pd_str (nomark _)))) (fun _ _ _ _ _ => (pd_var (pv 3))) (fun _ _ _ _ _ => (pd_var (pv 4))) (by decide)) (pgd_name (pg_name (i := 2) sc_is_key.nd rfl (Or.inr rfl)))))
    (pss_consD (psd_if (ptd_not (ptd_tst (pd_callB (cd_all rfl) (by rfl) T.z_all (by decide +kernel) (pad_cons (pd_lc (own := [("column", 5)]) (E' := E0) rfl sc_is_key.nd (pid_seq (pd_var (pv 0))) (blkOk_by (own := [("column", 5)]) (N := n_is_key) (sc := defScope s_is_key) (by decide +kernel)) (fun _ _ _ _ _ => (pgd_name (pg_name (i := 5) sc_is_key.nd rfl (Or.inl rfl)))) (fun _ _ _ _ _ => ptsd_nil) (fun _ _ _ _ _ => (pd_and (pd_isi (c := .str) (pe_callB call_isi (by rfl) T.z_isinstance (by decide +kernel) (pa_cons (pd_var (pv 5)) (pa_cons (pe_bltn (v := .ty "str") (by rfl) T.z_str (by decide +kernel) rfl) pa_nil)))) (pd_one (pd_cmp (od_in (hu65 hr)) (pd_var (pv 5)) (pd_var (pv 2)) rfl)))) (by decide)) pad_nil)))) (pss_oneD (psd_ret pd_bl)) pss_nilD)
    (pss_oneD (psd_ret (pd_and (pd_cmp (od_eq hr.units) (pd_lenSet (pe_lenSetM rfl (by rfl) T.z_len (by rfl) T.z_set (pd_var (pv 0)))) (pd_callB cd_len (by rfl) T.z_len (by decide +kernel) (pad_cons (pd_var (pv 0)) pad_nil)) (nomark _)) (pd_one (pd_callB (cd_any rfl) (by rfl) T.z_any (by decide +kernel) (pad_cons (pd_lc (own := [("column", 5)]) (E' := E0) rfl sc_is_key.nd (pid_seq (pd_var (pv 0))) (blkOk_by (own := [("column", 5)]) (N := n_is_key) (sc := defScope s_is_key) (by decide +kernel)) (fun _ _ _ _ _ => (pgd_name (pg_name (i := 5) sc_is_key.nd rfl (Or.inl rfl)))) (fun _ _ _ _ _ => ptsd_nil) (fun _ _ _ _ _ => (pd_call0 (pe_call (ok_is_anchor T) (hr.mono (by decide)) rfl T.m_is_anchor T.F_is_anchor.kp T.b_is_anchor .nil pass0 (pad_cons (pd_ix (od_ix (hu_of hr)) (pd_var (pv 2)) (pd_var (pv 5))) pad_nil)))) (by decide)) pad_nil))))))))))) (fun xs os Q Ex hn h => ?_)
  obtain ⟨d, m, rfl, ⟨hp, hm, hpm, pm, hz⟩, q⟩ := two_get h
  clear h
  sizeOf_list_dec
  refine ⟨pln_data hp, ?_⟩
  cases d with
  | tup vs =>
    rw [pln_tup] at hp
    sizeOf_list_dec
    cases m
    case lst | tup =>
      rename_i ms
      have hpm : pairsB ms = true := hpm
      have q : Q (.d (.bl (keyOf (kindsOf ms) (.tup vs)))) os := q
      have pr := pairs_get hpm
      sizeOf_list_dec
      have e : keyOf (kindsOf ms) (.tup vs) = (vs.isEmpty || (vs.all (inKinds (kindsOf ms)) && (decide (vs.map txt).Nodup && vs.any fun v => isAnchor ((valD (kindsOf ms) (.inr (txt v))).getD .non)))) := rfl
      rw [e] at q
      have hz : vs.length ≤ 300 := hz
      split
      · rename_i h1
        have h1 := of_decide_eq_true h1
        rw [List.isEmpty_iff.mpr (List.eq_nil_of_length_eq_zero (by omega))] at q
        exact q
      · rename_i h1
        have h1 := of_decide_eq_false (Bool.eq_false_iff.mpr h1)
        have ne : vs.isEmpty = false := by
          cases vs with
          | nil => exact absurd rfl h1
          | cons _ _ => rfl
        rw [ne, Bool.false_or] at q
        refine dc_fm (fun d => !eqB (item1 d) (.str "worth")) (fun d => (.inr (txt (item0 d)), item1 d)) (fun d hd k s hk => ?_) ?_
        · obtain ⟨n, k', rfl, hn', hk'⟩ := pr d hd
          have en := nm_txt hn'
          rw [en] at hk ⊢
          sizeOf_list_dec
          exact ⟨⟨hk', by omega⟩, by simpa [keyD, item0, item1, txt] using hk⟩
        have ek : (ms.filter fun d => !eqB (item1 d) (.str "worth")).foldl (fun a d => putD a (.inr (txt (item0 d))) (item1 d)) [] = kindsOf ms := rfl
        rw [ek]
        refine lc_map (fun d => .bl (inKinds (kindsOf ms) d)) (fun d hd k s hk => ?_) ?_
        · sizeOf_list_dec
          have pd := plns_mem hp d hd
          refine ⟨pln_data pd, ?_⟩
          cases d with
          | str z =>
            sizeOf_list_dec
            exact hk
          | _ =>
            sizeOf_list_dec
            exact hk
        sizeOf_list_dec
        rw [bls_map, optP_some, List.all_map, show vs.all (id ∘ inKinds (kindsOf ms)) = vs.all (inKinds (kindsOf ms)) from rfl]
        split
        · rename_i h2
          rw [h2] at q
          exact q
        · rename_i h2
          have h2 := Bool.of_not_eq_false h2
          rw [h2, Bool.true_and] at q
          have hs : ∀ v ∈ vs, v = .str (txt v) ∧ (valD (kindsOf ms) (.inr (txt v))).isSome = true := fun v hv => by
            have := List.all_eq_true.mp h2 v hv
            cases v with
            | str z => exact ⟨rfl, this⟩
            | _ => cases this
          have ht : txts vs = some (vs.map txt) := by
            have := txts_map txt vs
            rw [← this]
            congr 1
            conv => lhs; rw [← List.map_id vs]
            exact List.map_congr_left fun v hv => (hs v hv).1
          rw [ht, optP_some]
          refine ⟨by rw [List.length_map]; omega, ?_⟩
          have e6 : decide ((nDiff (vs.map txt) (vs.map txt).length : Int) = vs.length) = decide (vs.map txt).Nodup := by
            rw [← nDiff_eq, List.length_map]
            exact decide_eq_decide.mpr (by omega)
          rw [e6]
          split
          · rename_i h3
            rw [h3, Bool.true_and] at q
            refine lc_map (fun v => .bl (isAnchor ((valD (kindsOf ms) (.inr (txt v))).getD .non))) (fun v hv k s hk => ?_) ?_
            · obtain ⟨ev, hv2⟩ := hs v hv
              obtain ⟨x, hx⟩ := Option.isSome_iff_exists.mp hv2
              rw [ev]
              sizeOf_list_dec
              rw [hx] at hk ⊢
              sizeOf_list_dec
              simp only [fOne_eq]
              sizeOf_list_dec
              exact ⟨kinds_pln pr hx, hk⟩
            sizeOf_list_dec
            rw [bls_map, optP_some, List.any_map]
            exact q
          · rename_i h3
            rw [Bool.eq_false_iff.mpr h3] at q
            exact q
    all_goals cases hm
  | _ =>
    sizeOf_list_dec
    exact q
end
end Bl
namespace Bl
open PySem L2 De
local macro_rules | `(tactic| sizeOf_list_dec) => `(tactic| simp only [dDef, startS, dSeqS, dNext, dBrk, dCnt, dAsg, dDrop, dRet, dRetN, dIfS, dFor, dVar, dC, dNil, dCons, dOp, dFn, dTst, dAndT, dOrT, dNotT, dAnd, dOr, dNot, dIfE, dChain, dTup, dLst, dLstO, dIsi, dStar, dPart, dNoPart, dSl, dAppend, dAppV, dRng1, dRng2, dEnum, dEnumA, dZip, dCount, dCount.isSeqL, dCount.itemsL, end_at, end_set, rdd_end, dgName, dgNil, dgCons, dgTup, dSeq, dLc, dLcO, dYes, dCall, dCall0,
  rdd_d, rdds_nil, rdds_cons, asB_bl, asL_some, seq_lst, seq_tup, seq_str, ex_sl, dts, opIsN, opNotN, opEq, opNe, has_str_non, has_int_non, has_bool_non, has_list_non, has_tuple_non, has_dict_non, isN_non, notRaw_non, data_non, has_str_bl, has_int_bl, has_bool_bl, has_list_bl, has_tuple_bl, has_dict_bl, isN_bl, notRaw_bl, data_bl, has_str_int, has_int_int, has_bool_int, has_list_int, has_tuple_int, has_dict_int, isN_int, notRaw_int, data_int, has_str_str, has_int_str, has_bool_str, has_list_str, has_tuple_str, has_dict_str, isN_str, notRaw_str, data_str, has_str_lst, has_int_lst, has_bool_lst, has_list_lst, has_tuple_lst, has_dict_lst, isN_lst, notRaw_lst, data_lst, has_str_tup, has_int_tup, has_bool_tup, has_list_tup, has_tuple_tup, has_dict_tup, isN_tup, notRaw_tup, data_tup, has_str_dct, has_int_dct, has_bool_dct, has_list_dct, has_tuple_dct, has_dict_dct, isN_dct, notRaw_dct, data_dct, has_str_ins, has_int_ins, has_bool_ins, has_list_ins, has_tuple_ins, has_dict_ins, isN_ins, notRaw_ins, data_ins, has_str_raw, has_int_raw, has_bool_raw, has_list_raw, has_tuple_raw, has_dict_raw, isN_raw, notRaw_raw, data_raw, has_str_lam, has_int_lam, has_bool_lam, has_list_lam, has_tuple_lam, has_dict_lam, isN_lam, notRaw_lam, data_lam, dLam, dAllGot, keyD_int, keyD_str, add_int, add_str, add_lst, add_tup, i0_int, oi_int, in_lst, in_tup, in_dct_str, in_sign, optP_some, De.ix_lst, De.ix_tup, ix_dct_str, all_lst, atI_0, atI_1, atI_2, len_lst, len_tup, len_str, tuple_lst, tuple_tup, list_lst, list_tup, pln_non, dep_non, pln_bl, dep_bl, pln_int, dep_int, pln_str, dep_str, pln_lst, pln_tup, dep_lst, dep_tup, plns_nil, plns_cons, deps_nil, deps_cons, eqB_int, eqB_str, eqB_non_str, eqB_str_non, eqB_bl_str, eqB_str_bl, eqB_int_str, eqB_str_int, eqB_lst_str, eqB_str_lst, eqB_tup_str, eqB_str_tup, sz_0, sz_1, sz_2, sz_3, sz_4, sz_5, sz_6, sz_7, sz_8, sz_9, sz_10, sz_11, sz_12, sz_13, sz_14, lcStep, wipeS, dLenSet, isSeq, itemsD, dDc, dcStep, dFld, dFldS, dFldA, insD, InsF.look, InsF.lack, dMeth, dMethN, dProp, dMake, dMakeK, dRaise, dCallL, opTab, opInTab, dAppE, dInsE, lstAt, dIndexL, dLcK, fxVar, fxFld, putG, dFrz, dGot, dPar, int_int, int_bl, abs_int, min_int, max_int, mul_int, mul_lst, dgSub, List.lookup_cons, List.lookup_nil, Int.reduceNeg, List.map_cons, List.map_nil, List.length_cons, List.length_nil, List.replicate_succ, List.replicate_zero, List.append_nil, List.nil_append, List.cons_append, List.set_cons_zero, List.set_cons_succ,
  Option.map_some, Option.map_none, Nat.zero_add, Nat.add_zero, Nat.reduceAdd, Nat.reduceLeDiff, Nat.min_self, Nat.reduceSub, Nat.sub_self, Nat.add_one_sub_one, List.getElem?_cons_zero, List.getElem?_cons_succ, if_true, if_false, true_and, and_true, Bool.not_true, Bool.not_false, Bool.true_or, Bool.false_or, Bool.or_true, Bool.or_false, Bool.true_and, Bool.false_and, Bool.and_true, Bool.and_false, Bool.false_eq_true, reduceIte, reduceCtorEq, Bool.not_eq_true', not_true_eq_false, not_false_eq_true, exists_eq_left', exists_eq_left, exists_and_left, Option.some.injEq, Ov.o.injEq, OO.lst.injEq, Ov.d.injEq, and_self])
abbrev n_Standing_strays : List Str := ["self", "names", "name"]
theorem sc_Standing_strays : FnScope n_Standing_strays ["self", "names"] (defScope s_Standing_strays) := ⟨rfl, rfl, rfl, by decide +kernel, rfl, by decide +kernel, by decide +kernel⟩
abbrev n_Standing___init__ : List Str := ["self", "main", "sides", "unique", "name", "kind", "side"]
theorem sc_Standing___init__ : FnScope n_Standing___init__ ["self", "main", "sides", "unique"] (defScope s_Standing___init__) := ⟨rfl, rfl, rfl, by decide +kernel, rfl, by decide +kernel, by decide +kernel⟩
abbrev n_Standing_is_behind : List Str := ["self"]
theorem sc_Standing_is_behind : FnScope n_Standing_is_behind ["self"] (defScope s_Standing_is_behind) := ⟨rfl, rfl, rfl, by decide +kernel, rfl, by decide +kernel, by decide +kernel⟩
abbrev n_Standing__stage_behind : List Str := ["self", "word"]
theorem sc_Standing__stage_behind : FnScope n_Standing__stage_behind ["self", "word"] (defScope s_Standing__stage_behind) := ⟨rfl, rfl, rfl, by decide +kernel, rfl, by decide +kernel, by decide +kernel⟩
abbrev n_Standing_take : List Str := ["self", "step", "word", "name", "kind"]
theorem sc_Standing_take : FnScope n_Standing_take ["self", "step"] (defScope s_Standing_take) := ⟨rfl, rfl, rfl, by decide +kernel, rfl, by decide +kernel, by decide +kernel⟩
abbrev n_Standing_takes : List Str := ["self", "step", "stands"]
theorem sc_Standing_takes : FnScope n_Standing_takes ["self", "step"] (defScope s_Standing_takes) := ⟨rfl, rfl, rfl, by decide +kernel, rfl, by decide +kernel, by decide +kernel⟩
abbrev n_cut_stands : List Str := ["standing", "step", "stands"]
theorem sc_cut_stands : FnScope n_cut_stands ["standing", "step"] (defScope s_cut_stands) := ⟨rfl, rfl, rfl, by decide +kernel, rfl, by decide +kernel, by decide +kernel⟩
abbrev n_throw_stands : List Str := ["standing", "given"]
theorem sc_throw_stands : FnScope n_throw_stands ["standing", "given"] (defScope s_throw_stands) := ⟨rfl, rfl, rfl, by decide +kernel, rfl, by decide +kernel, by decide +kernel⟩
section
variable {P : Program} {w : World} {K : PySem.W.Frag} {mg : Str → Option Value} {base : Heap}
abbrev cutThrow : Dt := .tup [.str "cut", .str "throw"]
theorem mk_Standing (T : Top K w mg) : Mk K T.C_Standing T.a_Standing___init__ := ⟨T.mk_Standing, T.M_Standing___init__.at_, T.M_Standing___init__.fn, T.kp_Standing⟩
def fThrow : FD := fun xs os Q _ => match xs with
  | [_, .d (.tup ds)] => Q (.d (.bl (decide (ds.length = 0)))) os
  | _ => False
theorem ok_throw_stands (T : Top K w mg) : FnOk P w K mg base CX0 1 T.a_throw_stands T.d_throw_stands ["standing", "given"] (spD K (zT T) 2 fThrow) := by
  refine fn_d T.F_throw_stands sc_throw_stands (fun cdv A outer s H E hr => (pss_oneD (psd_ret (pd_cmp (od_eq hr.units) (pd_callB cd_len (by rfl) T.z_len (by decide +kernel) (pad_cons (pd_var (pv 1)) pad_nil)) pd_int (nomark _))))) (fun xs os Q Ex hn h => ?_)
  match xs, h with
  | [x, .d (.tup ds)], h =>
    have h : Q (.d (.bl (decide (ds.length = 0)))) os := h
    sizeOf_list_dec
    rw [show decide ((ds.length : Int) = 0) = decide (ds.length = 0) from decide_eq_decide.mpr (by omega)]
    exact h
def fCut : FD := fun xs os Q _ => match xs with
  | [_, .d d] => d = cutThrow ∧ Q (.d (.bl true)) os
  | _ => False
theorem ok_cut_stands (T : Top K w mg) : FnOk P w K mg base CX0 2 T.a_cut_stands T.d_cut_stands ["standing", "step"] (spD K (zT T) 2 fCut) := by
  refine fn_d T.F_cut_stands sc_cut_stands (fun cdv A outer s H E hr => (pss_consD (psd_if (ptd_w (pwd_or (ptd_cmp od_lt (pd_callB cd_len (by rfl) T.z_len (by decide +kernel) (pad_cons (pd_var (pv 1)) pad_nil)) pd_int (nomark _)) (pwd_or (ptd_not (ptd_tst (pd_isi (c := .str) (pe_callB call_isi (by rfl) T.z_isinstance (by decide +kernel) (pa_cons (pd_ix (od_ix (hu_of hr)) (pd_var (pv 1)) pd_int) (pa_cons (pe_bltn (v := .ty "str") (by rfl) T.z_str (by decide +kernel) rfl) pa_nil)))))) (pwd_or1 (ptd_cmp (od_notInTab T.g_CUTS_steps) (pd_ix (od_ix (hu_of hr)) (pd_var (pv 1)) pd_int) (pd_c (pe_glob (v := .ref T.p_CUTS_steps) rfl T.c_CUTS_steps rfl) (fun _ => .raw _)) rfl))))) (pss_oneD (psd_ret pd_bl)) pss_nilD)
    (pss_consD (psd_asg (ps_asg (pd_ix (ix_tab T.g_CUTS_steps) (pd_c (pe_glob (v := .ref T.p_CUTS_steps) rfl T.c_CUTS_steps rfl) (fun _ => .raw _)) (pd_ix (od_ix (hu_of hr)) (pd_var (pv 1)) pd_int)) (pgd_name (pg_name (i := 2) sc_cut_stands.nd rfl (Or.inl rfl)))))
    (pss_oneD (psd_ret (pd_callL (pe_callL (i := 2) (f := T.a_throw_stands) (ok_throw_stands T) (hr.mono (by decide)) rfl (Or.inl rfl) T.F_throw_stands.kp T.b_throw_stands .nil pass0 (pad_cons (pd_var (pv 0)) (pad_cons (pd_sl (pd_var (pv 1)) (pod_some pd_int) pod_none) pad_nil))))))))) (fun xs os Q Ex hn h => ?_)
  match xs, h with
  | [x, .d d], h =>
    obtain ⟨rfl, h⟩ := h
    sizeOf_list_dec
    simp only [show (Str.ofString "throw" == Str.ofString "rounds") = false by decide +kernel, show (Str.ofString "throw" = Str.ofString "rounds") = False from eq_false (by decide +kernel), beq_self_eq_true, optP_some, Option.isSome_some, bne_self_eq_false, if_false, Bool.false_eq_true, true_and, reduceCtorEq]
    refine (if_neg (by decide)).mpr ?_
    show fThrow [x, .d (.tup [])] os Q noX
    exact h
/-- a standing as it begins -/
def anchorsOf (ks : List (Key × Dt)) : List Dt := (ks.map fun p => keyT p.1).filter fun d => isAnchor ((valD ks (.inr (txt d))).getD .non)
def worthsOf (ms : List Dt) : List Dt := (ms.filter fun d => eqB (item1 d) (.str "worth")).map item0
def freeOf (sds : List Dt) : List (Key × Dt) := sds.foldl (fun a d => putD a (.inr (txt (item0 d))) d) []
def mixedOf (ws : List Dt) : List (Key × Dt) := ws.foldl (fun a d => putD a (.inr (txt d)) (.int 0)) []
def straysOf (ks : List (Key × Dt)) (us : List Dt) : Bool := us.any fun d => !inD d (anchorsOf ks)
def standF (st : Str) (ms sds us : List Dt) : List (Str × Ov) := [("kinds", .d (.dct (kindsOf ms))), ("worths", .d (.lst (worthsOf ms))), ("anchors", .d (.lst (anchorsOf (kindsOf ms)))), ("bounded", .d (.bl (straysOf (kindsOf ms) us))), ("free", .d (.dct (freeOf sds))), ("joined", .d (.lst [])),
  ("stage", .d (.str st)), ("onces", .d (.int 0)), ("doublings", .d (.lst [])), ("mixed", .d (.dct (mixedOf (worthsOf ms))))]
def fStrays (C : Addr) : FD := fun xs os Q _ => ∃ j us fs as, xs = [.o j, .d (.tup us)] ∧ os[j]? = some (.ins C fs) ∧ fs.lookup ("anchors" : Str) = some (.d (.lst as)) ∧ ((∀ u ∈ us, pln u = true ∧ dep u ≤ 60) ∧ plns as = true) ∧ Q (.d (.bl (us.any fun d => !inD d as))) os
theorem ok_Standing_strays (T : Top K w mg) : FnOk P w K mg base CX0 1 T.a_Standing_strays T.d_Standing_strays ["self", "names"] (spD K (zT T) 2 (fStrays T.C_Standing)) := by
  refine fn_d T.F_Standing_strays sc_Standing_strays (fun cdv A outer s H E hr => (pss_oneD (psd_ret (pd_callB (cd_any rfl) (by rfl) T.z_any (by decide +kernel) (pad_cons (pd_lc (own := [("name", 2)]) (E' := E0) rfl sc_Standing_strays.nd (pid_seq (pd_var (pv 1))) (blkOk_by (own := [("name", 2)]) (N := n_Standing_strays) (sc := defScope s_Standing_strays) (by decide +kernel)) (fun _ _ _ _ _ => (pgd_name (pg_name (i := 2) sc_Standing_strays.nd rfl (Or.inl rfl)))) (fun _ _ _ _ _ => ptsd_nil) (fun _ _ _ _ _ => (pd_cmp (od_notIn (hu65 hr)) (pd_var (pv 2)) (pd_fld T.cl_Standing T.n_Standing_anchors (pe_fldC (K := K) rfl (pd_var (pv 0)))) rfl)) (by decide)) pad_nil))))) (fun xs os Q Ex hn h => ?_)
  obtain ⟨j, us, fs, as, rfl, hj, ha, ⟨hu, pa⟩, q⟩ := h
  sizeOf_list_dec
  refine lc_map (fun d => .bl (!inD d as)) (fun d hd k s hk => ?_) ?_
  · sizeOf_list_dec
    rw [hj]
    sizeOf_list_dec
    rw [ha]
    sizeOf_list_dec
    obtain ⟨p1, p2⟩ := hu d hd
    exact ⟨nofun, ⟨p1, pa, by omega⟩, hk⟩
  sizeOf_list_dec
  rw [bls_map, optP_some, List.any_map]
  exact q
def fBehind (C : Addr) : FD := fun xs os Q _ => ∃ j fs z, xs = [.o j] ∧ os[j]? = some (.ins C fs) ∧ fs.lookup ("stage" : Str) = some (.d (.str z)) ∧ Q (.d (.bl (inD (.str z) [.str "cut", .str "behind"]))) os
theorem ok_Standing_is_behind (T : Top K w mg) : FnOk P w K mg base CX0 1 T.a_Standing_is_behind T.d_Standing_is_behind ["self"] (spD K (zT T) 1 (fBehind T.C_Standing)) := by
  refine fn_d T.F_Standing_is_behind sc_Standing_is_behind (fun cdv A outer s H E hr => (pss_oneD (psd_ret (pd_cmp (od_in (hu65 hr)) (pd_fld T.cl_Standing T.n_Standing_stage (pe_fld (pd_var (pv 0)) rfl)) (pd_tup (pad_cons pd_str (pad_cons pd_str pad_nil))) rfl)))) (fun xs os Q Ex hn h => ?_)
  obtain ⟨j, fs, z, rfl, hj, ha, q⟩ := h
  sizeOf_list_dec
  rw [hj]
  sizeOf_list_dec
  rw [ha]
  sizeOf_list_dec
  exact ⟨by omega, q⟩
def fStage : FD := fun xs os Q _ => ∃ x, xs = [x, .d (.str "cut")] ∧ Q (.d (.str "cut")) os
theorem ok_Standing__stage_behind (T : Top K w mg) : FnOk P w K mg base CX0 2 T.a_Standing__stage_behind T.d_Standing__stage_behind ["self", "word"] (spD K (zT T) 2 fStage) := by
  refine fn_d T.F_Standing__stage_behind sc_Standing__stage_behind (fun cdv A outer s H E hr => (pss_consD (psd_if (ptd_cmp (od_eq hr.units) (pd_var (pv 1)) pd_str (nomark _)) (pss_oneD (psd_ret pd_str)) pss_nilD)
    (pss_consD (psd_if (ptd_tst (pd_methN0 (pe_meth0 (pd_var (pv 0)) T.cl_Standing T.M_Standing_is_behind (ok_Standing_is_behind T) (hr.mono (by decide)) T.b_Standing_is_behind .nil pass0))) (pss_oneD (psd_ret pd_str)) pss_nilD)
    (pss_oneD (psd_ret (pd_ifE (ptd_cmp (od_in (hu65 hr)) (pd_var (pv 1)) (pd_tup (pad_cons pd_str (pad_cons pd_str pad_nil))) rfl) pd_str (pd_fld T.cl_Standing T.n_Standing_stage (pe_fld (pd_var (pv 0)) rfl)))))))) (fun xs os Q Ex hn h => ?_)
  obtain ⟨x, rfl, q⟩ := h
  sizeOf_list_dec
  exact q
def fTake (C : Addr) : FD := fun xs os Q _ => ∃ j fs, xs = [.o j, .d cutThrow] ∧ os[j]? = some (.ins C fs) ∧ fs.lookup ("_stage_behind" : Str) = none ∧ fs.length < 1000 ∧ Q (.d .non) (os.set j (.ins C (putG "stage" (.d (.str "cut")) fs)))
theorem ok_Standing_take (T : Top K w mg) : FnOk P w K mg base CX0 3 T.a_Standing_take T.d_Standing_take ["self", "step"] (spD K (zT T) 2 (fTake T.C_Standing)) := by
  refine fn_d T.F_Standing_take sc_Standing_take (fun cdv A outer s H E hr => (pss_consD (psd_asg (ps_asg (pd_ix (od_ix (hu_of hr)) (pd_var (pv 1)) pd_int) (pgd_name (pg_name (i := 2) sc_Standing_take.nd rfl (Or.inl rfl)))))
    (pss_consD (psd_if (ptd_cmp (od_eq hr.units) (pd_var (pv 2)) pd_str (nomark _)) (pss_consD psd_never
    (pss_oneD psd_never)) (pss_oneD (psd_if (ptd_cmp (od_in (hu65 hr)) (pd_var (pv 2)) (pd_tup (pad_cons pd_str (pad_cons pd_str pad_nil))) rfl) (pss_oneD psd_never) (pss_oneD (psd_if (ptd_cmp (od_in (hu65 hr)) (pd_var (pv 2)) (pd_tup (pad_cons pd_str (pad_cons pd_str (pad_cons pd_str pad_nil)))) rfl) (pss_consD psd_never
    (pss_oneD psd_never)) pss_nilD)))))
    (pss_consD (psd_if (ptd_cmp (od_in (hu65 hr)) (pd_var (pv 2)) (pd_tup (pad_cons pd_str (pad_cons pd_str pad_nil))) rfl) (pss_oneD psd_never) pss_nilD)
    (pss_oneD (psd_fld T.cl_Standing T.n_Standing_stage (ps_fld (pd_var (pv 0)) (pd_methN (pe_meth (pd_var (pv 0)) T.cl_Standing T.M_Standing__stage_behind (ok_Standing__stage_behind T) (hr.mono (by decide)) T.b_Standing__stage_behind .nil pass0 (pad_cons (pd_var (pv 2)) pad_nil))) rfl))))))) (fun xs os Q Ex hn h => ?_)
  obtain ⟨j, fs, rfl, hj, ha, hl, q⟩ := h
  sizeOf_list_dec
  refine (if_neg (by decide +kernel)).mpr ⟨by decide, (if_neg (by decide +kernel)).mpr ⟨by decide, (if_neg (by decide +kernel)).mpr ⟨by decide, (if_neg (by decide +kernel)).mpr ?_⟩⟩⟩
  rw [hj]
  sizeOf_list_dec
  rw [ha]
  refine ⟨rfl, _, rfl, ?_⟩
  dsimp only
  rw [hj]
  exact ⟨rfl, hl, q⟩
def fTakes (C : Addr) : FD := fun xs os Q _ => ∃ j fs, xs = [.o j, .d cutThrow] ∧ os[j]? = some (.ins C fs) ∧ fs.lookup ("stage" : Str) = some (.d (.str "first")) ∧ Q (.d (.bl true)) os
theorem ok_Standing_takes (T : Top K w mg) : FnOk P w K mg base CX0 3 T.a_Standing_takes T.d_Standing_takes ["self", "step"] (spD K (zT T) 2 (fTakes T.C_Standing)) := by
  refine fn_d T.F_Standing_takes sc_Standing_takes (fun cdv A outer s H E hr => (pss_consD (psd_if (ptd_w (pwd_or (ptd_not (ptd_tst (pd_isi (c := .tuple) (pe_callB call_isi (by rfl) T.z_isinstance (by decide +kernel) (pa_cons (pd_var (pv 1)) (pa_cons (pe_bltn (v := .ty "tuple") (by rfl) T.z_tuple (by decide +kernel) rfl) pa_nil)))))) (pwd_or (ptd_cmp (od_eq hr.units) (pd_callB cd_len (by rfl) T.z_len (by decide +kernel) (pad_cons (pd_var (pv 1)) pad_nil)) pd_int (nomark _)) (pwd_or1 (ptd_not (ptd_tst (pd_isi (c := .str) (pe_callB call_isi (by rfl) T.z_isinstance (by decide +kernel) (pa_cons (pd_ix (od_ix (hu_of hr)) (pd_var (pv 1)) pd_int) (pa_cons (pe_bltn (v := .ty "str") (by rfl) T.z_str (by decide +kernel) rfl) pa_nil)))))))))) (pss_oneD (psd_ret pd_bl)) pss_nilD)
    (pss_consD (psd_if (ptd_cmp (od_notIn (hu65 hr)) (pd_ix (od_ix (hu_of hr)) (pd_var (pv 1)) pd_int) (pd_ix (ix_tab T.g_STAGES) (pd_c (pe_glob (v := .ref T.p_STAGES) rfl T.c_STAGES rfl) (fun _ => .raw _)) (pd_fld T.cl_Standing T.n_Standing_stage (pe_fld (pd_var (pv 0)) rfl))) rfl) (pss_oneD (psd_ret pd_bl)) pss_nilD)
    (pss_consD (psd_asg (ps_asg (pd_ix (ix_tab T.g_STANDS) (pd_c (pe_glob (v := .ref T.p_STANDS) rfl T.c_STANDS rfl) (fun _ => .raw _)) (pd_ix (od_ix (hu_of hr)) (pd_var (pv 1)) pd_int)) (pgd_name (pg_name (i := 2) sc_Standing_takes.nd rfl (Or.inl rfl)))))
    (pss_oneD (psd_ret (pd_callL (pe_callL (i := 2) (f := T.a_cut_stands) (ok_cut_stands T) (hr.mono (by decide)) rfl (Or.inl rfl) T.F_cut_stands.kp T.b_cut_stands .nil pass0 (pad_cons (pd_var (pv 0)) (pad_cons (pd_var (pv 1)) pad_nil)))))))))) (fun xs os Q Ex hn h => ?_)
  obtain ⟨j, fs, rfl, hj, ha, q⟩ := h
  sizeOf_list_dec
  rw [hj]
  sizeOf_list_dec
  rw [ha]
  sizeOf_list_dec
  refine (if_neg (by decide)).mpr ?_
  simp only [show (Str.ofString "first" == Str.ofString "second") = false by decide +kernel, show (Str.ofString "first" = Str.ofString "second") = False from eq_false (by decide +kernel), beq_self_eq_true, optP_some]
  refine ⟨nofun, ?_⟩
  sizeOf_list_dec
  refine ⟨by decide, ?_⟩
  refine (if_neg (by decide +kernel)).mpr ?_
  simp only [show (Str.ofString "cut" == Str.ofString "keep") = false by decide +kernel, show (Str.ofString "cut" = Str.ofString "keep") = False from eq_false (by decide +kernel), show (Str.ofString "cut" == Str.ofString "join") = false by decide +kernel, show (Str.ofString "cut" = Str.ofString "join") = False from eq_false (by decide +kernel), show (Str.ofString "cut" == Str.ofString "left") = false by decide +kernel, show (Str.ofString "cut" = Str.ofString "left") = False from eq_false (by decide +kernel), show (Str.ofString "cut" == Str.ofString "sort") = false by decide +kernel, show (Str.ofString "cut" = Str.ofString "sort") = False from eq_false (by decide +kernel), show (Str.ofString "cut" == Str.ofString "once") = false by decide +kernel, show (Str.ofString "cut" = Str.ofString "once") = False from eq_false (by decide +kernel), show (Str.ofString "cut" == Str.ofString "near") = false by decide +kernel, show (Str.ofString "cut" = Str.ofString "near") = False from eq_false (by decide +kernel), show (Str.ofString "cut" == Str.ofString "all") = false by decide +kernel, show (Str.ofString "cut" = Str.ofString "all") = False from eq_false (by decide +kernel), show (Str.ofString "cut" == Str.ofString "twice") = false by decide +kernel, show (Str.ofString "cut" = Str.ofString "twice") = False from eq_false (by decide +kernel), show (Str.ofString "cut" == Str.ofString "fan") = false by decide +kernel, show (Str.ofString "cut" = Str.ofString "fan") = False from eq_false (by decide +kernel), beq_self_eq_true, optP_some]
  exact ⟨trivial, rfl, q⟩
theorem litS : ¬ Str.ofString "kinds" = Str.ofString "worths" ∧ (Str.ofString "kinds" == Str.ofString "worths") = false ∧ ¬ Str.ofString "kinds" = Str.ofString "anchors" ∧ (Str.ofString "kinds" == Str.ofString "anchors") = false ∧ ¬ Str.ofString "kinds" = Str.ofString "bounded" ∧ (Str.ofString "kinds" == Str.ofString "bounded") = false ∧ ¬ Str.ofString "kinds" = Str.ofString "free" ∧ (Str.ofString "kinds" == Str.ofString "free") = false ∧ ¬ Str.ofString "kinds" = Str.ofString "joined" ∧ (Str.ofString "kinds" == Str.ofString "joined") = false ∧ ¬ Str.ofString "kinds" = Str.ofString "stage" ∧ (Str.ofString "kinds" == Str.ofString "stage") = false ∧ ¬ Str.ofString "kinds" = Str.ofString "onces" ∧ (Str.ofString "kinds" == Str.ofString "onces") = false ∧ ¬ Str.ofString "kinds" = Str.ofString "doublings" ∧ (Str.ofString "kinds" == Str.ofString "doublings") = false ∧ ¬ Str.ofString "kinds" = Str.ofString "mixed" ∧ (Str.ofString "kinds" == Str.ofString "mixed") = false ∧ ¬ Str.ofString "kinds" = Str.ofString "strays" ∧ (Str.ofString "kinds" == Str.ofString "strays") = false ∧ ¬ Str.ofString "kinds" = Str.ofString "takes" ∧ (Str.ofString "kinds" == Str.ofString "takes") = false ∧ ¬ Str.ofString "kinds" = Str.ofString "take" ∧ (Str.ofString "kinds" == Str.ofString "take") = false ∧ ¬ Str.ofString "kinds" = Str.ofString "is_behind" ∧ (Str.ofString "kinds" == Str.ofString "is_behind") = false ∧ ¬ Str.ofString "kinds" = Str.ofString "_stage_behind" ∧ (Str.ofString "kinds" == Str.ofString "_stage_behind") = false ∧ ¬ Str.ofString "worths" = Str.ofString "kinds" ∧ (Str.ofString "worths" == Str.ofString "kinds") = false ∧ ¬ Str.ofString "worths" = Str.ofString "anchors" ∧ (Str.ofString "worths" == Str.ofString "anchors") = false ∧ ¬ Str.ofString "worths" = Str.ofString "bounded" ∧ (Str.ofString "worths" == Str.ofString "bounded") = false ∧ ¬ Str.ofString "worths" = Str.ofString "free" ∧ (Str.ofString "worths" == Str.ofString "free") = false ∧ ¬ Str.ofString "worths" = Str.ofString "joined" ∧ (Str.ofString "worths" == Str.ofString "joined") = false ∧ ¬ Str.ofString "worths" = Str.ofString "stage" ∧ (Str.ofString "worths" == Str.ofString "stage") = false ∧ ¬ Str.ofString "worths" = Str.ofString "onces" ∧ (Str.ofString "worths" == Str.ofString "onces") = false ∧ ¬ Str.ofString "worths" = Str.ofString "doublings" ∧ (Str.ofString "worths" == Str.ofString "doublings") = false ∧ ¬ Str.ofString "worths" = Str.ofString "mixed" ∧ (Str.ofString "worths" == Str.ofString "mixed") = false ∧ ¬ Str.ofString "worths" = Str.ofString "strays" ∧ (Str.ofString "worths" == Str.ofString "strays") = false ∧ ¬ Str.ofString "worths" = Str.ofString "takes" ∧ (Str.ofString "worths" == Str.ofString "takes") = false ∧ ¬ Str.ofString "worths" = Str.ofString "take" ∧ (Str.ofString "worths" == Str.ofString "take") = false ∧ ¬ Str.ofString "worths" = Str.ofString "is_behind" ∧ (Str.ofString "worths" == Str.ofString "is_behind") = false ∧ ¬ Str.ofString "worths" = Str.ofString "_stage_behind" ∧ (Str.ofString "worths" == Str.ofString "_stage_behind") = false ∧ ¬ Str.ofString "anchors" = Str.ofString "kinds" ∧ (Str.ofString "anchors" == Str.ofString "kinds") = false ∧ ¬ Str.ofString "anchors" = Str.ofString "worths" ∧ (Str.ofString "anchors" == Str.ofString "worths") = false ∧ ¬ Str.ofString "anchors" = Str.ofString "bounded" ∧ (Str.ofString "anchors" == Str.ofString "bounded") = false ∧ ¬ Str.ofString "anchors" = Str.ofString "free" ∧ (Str.ofString "anchors" == Str.ofString "free") = false ∧ ¬ Str.ofString "anchors" = Str.ofString "joined" ∧ (Str.ofString "anchors" == Str.ofString "joined") = false ∧ ¬ Str.ofString "anchors" = Str.ofString "stage" ∧ (Str.ofString "anchors" == Str.ofString "stage") = false ∧ ¬ Str.ofString "anchors" = Str.ofString "onces" ∧ (Str.ofString "anchors" == Str.ofString "onces") = false ∧ ¬ Str.ofString "anchors" = Str.ofString "doublings" ∧ (Str.ofString "anchors" == Str.ofString "doublings") = false ∧ ¬ Str.ofString "anchors" = Str.ofString "mixed" ∧ (Str.ofString "anchors" == Str.ofString "mixed") = false ∧ ¬ Str.ofString "anchors" = Str.ofString "strays" ∧ (Str.ofString "anchors" == Str.ofString "strays") = false ∧ ¬ Str.ofString "anchors" = Str.ofString "takes" ∧ (Str.ofString "anchors" == Str.ofString "takes") = false ∧ ¬ Str.ofString "anchors" = Str.ofString "take" ∧ (Str.ofString "anchors" == Str.ofString "take") = false ∧ ¬ Str.ofString "anchors" = Str.ofString "is_behind" ∧ (Str.ofString "anchors" == Str.ofString "is_behind") = false ∧ ¬ Str.ofString "anchors" = Str.ofString "_stage_behind" ∧ (Str.ofString "anchors" == Str.ofString "_stage_behind") = false ∧ ¬ Str.ofString "bounded" = Str.ofString "kinds" ∧ (Str.ofString "bounded" == Str.ofString "kinds") = false ∧ ¬ Str.ofString "bounded" = Str.ofString "worths" ∧ (Str.ofString "bounded" == Str.ofString "worths") = false ∧ ¬ Str.ofString "bounded" = Str.ofString "anchors" ∧ (Str.ofString "bounded" == Str.ofString "anchors") = false ∧ ¬ Str.ofString "bounded" = Str.ofString "free" ∧ (Str.ofString "bounded" == Str.ofString "free") = false ∧ ¬ Str.ofString "bounded" = Str.ofString "joined" ∧ (Str.ofString "bounded" == Str.ofString "joined") = false ∧ ¬ Str.ofString "bounded" = Str.ofString "stage" ∧ (Str.ofString "bounded" == Str.ofString "stage") = false ∧ ¬ Str.ofString "bounded" = Str.ofString "onces" ∧ (Str.ofString "bounded" == Str.ofString "onces") = false ∧ ¬ Str.ofString "bounded" = Str.ofString "doublings" ∧ (Str.ofString "bounded" == Str.ofString "doublings") = false ∧ ¬ Str.ofString "bounded" = Str.ofString "mixed" ∧ (Str.ofString "bounded" == Str.ofString "mixed") = false ∧ ¬ Str.ofString "bounded" = Str.ofString "strays" ∧ (Str.ofString "bounded" == Str.ofString "strays") = false ∧ ¬ Str.ofString "bounded" = Str.ofString "takes" ∧ (Str.ofString "bounded" == Str.ofString "takes") = false ∧ ¬ Str.ofString "bounded" = Str.ofString "take" ∧ (Str.ofString "bounded" == Str.ofString "take") = false ∧ ¬ Str.ofString "bounded" = Str.ofString "is_behind" ∧ (Str.ofString "bounded" == Str.ofString "is_behind") = false ∧ ¬ Str.ofString "bounded" = Str.ofString "_stage_behind" ∧ (Str.ofString "bounded" == Str.ofString "_stage_behind") = false ∧ ¬ Str.ofString "free" = Str.ofString "kinds" ∧ (Str.ofString "free" == Str.ofString "kinds") = false ∧ ¬ Str.ofString "free" = Str.ofString "worths" ∧ (Str.ofString "free" == Str.ofString "worths") = false ∧ ¬ Str.ofString "free" = Str.ofString "anchors" ∧ (Str.ofString "free" == Str.ofString "anchors") = false ∧ ¬ Str.ofString "free" = Str.ofString "bounded" ∧ (Str.ofString "free" == Str.ofString "bounded") = false ∧ ¬ Str.ofString "free" = Str.ofString "joined" ∧ (Str.ofString "free" == Str.ofString "joined") = false ∧ ¬ Str.ofString "free" = Str.ofString "stage" ∧ (Str.ofString "free" == Str.ofString "stage") = false ∧ ¬ Str.ofString "free" = Str.ofString "onces" ∧ (Str.ofString "free" == Str.ofString "onces") = false ∧ ¬ Str.ofString "free" = Str.ofString "doublings" ∧ (Str.ofString "free" == Str.ofString "doublings") = false ∧ ¬ Str.ofString "free" = Str.ofString "mixed" ∧ (Str.ofString "free" == Str.ofString "mixed") = false ∧ ¬ Str.ofString "free" = Str.ofString "strays" ∧ (Str.ofString "free" == Str.ofString "strays") = false ∧ ¬ Str.ofString "free" = Str.ofString "takes" ∧ (Str.ofString "free" == Str.ofString "takes") = false ∧ ¬ Str.ofString "free" = Str.ofString "take" ∧ (Str.ofString "free" == Str.ofString "take") = false ∧ ¬ Str.ofString "free" = Str.ofString "is_behind" ∧ (Str.ofString "free" == Str.ofString "is_behind") = false ∧ ¬ Str.ofString "free" = Str.ofString "_stage_behind" ∧ (Str.ofString "free" == Str.ofString "_stage_behind") = false ∧ ¬ Str.ofString "joined" = Str.ofString "kinds" ∧ (Str.ofString "joined" == Str.ofString "kinds") = false ∧ ¬ Str.ofString "joined" = Str.ofString "worths" ∧ (Str.ofString "joined" == Str.ofString "worths") = false ∧ ¬ Str.ofString "joined" = Str.ofString "anchors" ∧ (Str.ofString "joined" == Str.ofString "anchors") = false ∧ ¬ Str.ofString "joined" = Str.ofString "bounded" ∧ (Str.ofString "joined" == Str.ofString "bounded") = false ∧ ¬ Str.ofString "joined" = Str.ofString "free" ∧ (Str.ofString "joined" == Str.ofString "free") = false ∧ ¬ Str.ofString "joined" = Str.ofString "stage" ∧ (Str.ofString "joined" == Str.ofString "stage") = false ∧ ¬ Str.ofString "joined" = Str.ofString "onces" ∧ (Str.ofString "joined" == Str.ofString "onces") = false ∧ ¬ Str.ofString "joined" = Str.ofString "doublings" ∧ (Str.ofString "joined" == Str.ofString "doublings") = false ∧ ¬ Str.ofString "joined" = Str.ofString "mixed" ∧ (Str.ofString "joined" == Str.ofString "mixed") = false ∧ ¬ Str.ofString "joined" = Str.ofString "strays" ∧ (Str.ofString "joined" == Str.ofString "strays") = false ∧ ¬ Str.ofString "joined" = Str.ofString "takes" ∧ (Str.ofString "joined" == Str.ofString "takes") = false ∧ ¬ Str.ofString "joined" = Str.ofString "take" ∧ (Str.ofString "joined" == Str.ofString "take") = false ∧ ¬ Str.ofString "joined" = Str.ofString "is_behind" ∧ (Str.ofString "joined" == Str.ofString "is_behind") = false ∧ ¬ Str.ofString "joined" = Str.ofString "_stage_behind" ∧ (Str.ofString "joined" == Str.ofString "_stage_behind") = false ∧ ¬ Str.ofString "stage" = Str.ofString "kinds" ∧ (Str.ofString "stage" == Str.ofString "kinds") = false ∧ ¬ Str.ofString "stage" = Str.ofString "worths" ∧ (Str.ofString "stage" == Str.ofString "worths") = false ∧ ¬ Str.ofString "stage" = Str.ofString "anchors" ∧ (Str.ofString "stage" == Str.ofString "anchors") = false ∧ ¬ Str.ofString "stage" = Str.ofString "bounded" ∧ (Str.ofString "stage" == Str.ofString "bounded") = false ∧ ¬ Str.ofString "stage" = Str.ofString "free" ∧ (Str.ofString "stage" == Str.ofString "free") = false ∧ ¬ Str.ofString "stage" = Str.ofString "joined" ∧ (Str.ofString "stage" == Str.ofString "joined") = false ∧ ¬ Str.ofString "stage" = Str.ofString "onces" ∧ (Str.ofString "stage" == Str.ofString "onces") = false ∧ ¬ Str.ofString "stage" = Str.ofString "doublings" ∧ (Str.ofString "stage" == Str.ofString "doublings") = false ∧ ¬ Str.ofString "stage" = Str.ofString "mixed" ∧ (Str.ofString "stage" == Str.ofString "mixed") = false ∧ ¬ Str.ofString "stage" = Str.ofString "strays" ∧ (Str.ofString "stage" == Str.ofString "strays") = false ∧ ¬ Str.ofString "stage" = Str.ofString "takes" ∧ (Str.ofString "stage" == Str.ofString "takes") = false ∧ ¬ Str.ofString "stage" = Str.ofString "take" ∧ (Str.ofString "stage" == Str.ofString "take") = false ∧ ¬ Str.ofString "stage" = Str.ofString "is_behind" ∧ (Str.ofString "stage" == Str.ofString "is_behind") = false ∧ ¬ Str.ofString "stage" = Str.ofString "_stage_behind" ∧ (Str.ofString "stage" == Str.ofString "_stage_behind") = false ∧ ¬ Str.ofString "onces" = Str.ofString "kinds" ∧ (Str.ofString "onces" == Str.ofString "kinds") = false ∧ ¬ Str.ofString "onces" = Str.ofString "worths" ∧ (Str.ofString "onces" == Str.ofString "worths") = false ∧ ¬ Str.ofString "onces" = Str.ofString "anchors" ∧ (Str.ofString "onces" == Str.ofString "anchors") = false ∧ ¬ Str.ofString "onces" = Str.ofString "bounded" ∧ (Str.ofString "onces" == Str.ofString "bounded") = false ∧ ¬ Str.ofString "onces" = Str.ofString "free" ∧ (Str.ofString "onces" == Str.ofString "free") = false ∧ ¬ Str.ofString "onces" = Str.ofString "joined" ∧ (Str.ofString "onces" == Str.ofString "joined") = false ∧ ¬ Str.ofString "onces" = Str.ofString "stage" ∧ (Str.ofString "onces" == Str.ofString "stage") = false ∧ ¬ Str.ofString "onces" = Str.ofString "doublings" ∧ (Str.ofString "onces" == Str.ofString "doublings") = false ∧ ¬ Str.ofString "onces" = Str.ofString "mixed" ∧ (Str.ofString "onces" == Str.ofString "mixed") = false ∧ ¬ Str.ofString "onces" = Str.ofString "strays" ∧ (Str.ofString "onces" == Str.ofString "strays") = false ∧ ¬ Str.ofString "onces" = Str.ofString "takes" ∧ (Str.ofString "onces" == Str.ofString "takes") = false ∧ ¬ Str.ofString "onces" = Str.ofString "take" ∧ (Str.ofString "onces" == Str.ofString "take") = false ∧ ¬ Str.ofString "onces" = Str.ofString "is_behind" ∧ (Str.ofString "onces" == Str.ofString "is_behind") = false ∧ ¬ Str.ofString "onces" = Str.ofString "_stage_behind" ∧ (Str.ofString "onces" == Str.ofString "_stage_behind") = false ∧ ¬ Str.ofString "doublings" = Str.ofString "kinds" ∧ (Str.ofString "doublings" == Str.ofString "kinds") = false ∧ ¬ Str.ofString "doublings" = Str.ofString "worths" ∧ (Str.ofString "doublings" == Str.ofString "worths") = false ∧ ¬ Str.ofString "doublings" = Str.ofString "anchors" ∧ (Str.ofString "doublings" == Str.ofString "anchors") = false ∧ ¬ Str.ofString "doublings" = Str.ofString "bounded" ∧ (Str.ofString "doublings" == Str.ofString "bounded") = false ∧ ¬ Str.ofString "doublings" = Str.ofString "free" ∧ (Str.ofString "doublings" == Str.ofString "free") = false ∧ ¬ Str.ofString "doublings" = Str.ofString "joined" ∧ (Str.ofString "doublings" == Str.ofString "joined") = false ∧ ¬ Str.ofString "doublings" = Str.ofString "stage" ∧ (Str.ofString "doublings" == Str.ofString "stage") = false ∧ ¬ Str.ofString "doublings" = Str.ofString "onces" ∧ (Str.ofString "doublings" == Str.ofString "onces") = false ∧ ¬ Str.ofString "doublings" = Str.ofString "mixed" ∧ (Str.ofString "doublings" == Str.ofString "mixed") = false ∧ ¬ Str.ofString "doublings" = Str.ofString "strays" ∧ (Str.ofString "doublings" == Str.ofString "strays") = false ∧ ¬ Str.ofString "doublings" = Str.ofString "takes" ∧ (Str.ofString "doublings" == Str.ofString "takes") = false ∧ ¬ Str.ofString "doublings" = Str.ofString "take" ∧ (Str.ofString "doublings" == Str.ofString "take") = false ∧ ¬ Str.ofString "doublings" = Str.ofString "is_behind" ∧ (Str.ofString "doublings" == Str.ofString "is_behind") = false ∧ ¬ Str.ofString "doublings" = Str.ofString "_stage_behind" ∧ (Str.ofString "doublings" == Str.ofString "_stage_behind") = false ∧ ¬ Str.ofString "mixed" = Str.ofString "kinds" ∧ (Str.ofString "mixed" == Str.ofString "kinds") = false ∧ ¬ Str.ofString "mixed" = Str.ofString "worths" ∧ (Str.ofString "mixed" == Str.ofString "worths") = false ∧ ¬ Str.ofString "mixed" = Str.ofString "anchors" ∧ (Str.ofString "mixed" == Str.ofString "anchors") = false ∧ ¬ Str.ofString "mixed" = Str.ofString "bounded" ∧ (Str.ofString "mixed" == Str.ofString "bounded") = false ∧ ¬ Str.ofString "mixed" = Str.ofString "free" ∧ (Str.ofString "mixed" == Str.ofString "free") = false ∧ ¬ Str.ofString "mixed" = Str.ofString "joined" ∧ (Str.ofString "mixed" == Str.ofString "joined") = false ∧ ¬ Str.ofString "mixed" = Str.ofString "stage" ∧ (Str.ofString "mixed" == Str.ofString "stage") = false ∧ ¬ Str.ofString "mixed" = Str.ofString "onces" ∧ (Str.ofString "mixed" == Str.ofString "onces") = false ∧ ¬ Str.ofString "mixed" = Str.ofString "doublings" ∧ (Str.ofString "mixed" == Str.ofString "doublings") = false ∧ ¬ Str.ofString "mixed" = Str.ofString "strays" ∧ (Str.ofString "mixed" == Str.ofString "strays") = false ∧ ¬ Str.ofString "mixed" = Str.ofString "takes" ∧ (Str.ofString "mixed" == Str.ofString "takes") = false ∧ ¬ Str.ofString "mixed" = Str.ofString "take" ∧ (Str.ofString "mixed" == Str.ofString "take") = false ∧ ¬ Str.ofString "mixed" = Str.ofString "is_behind" ∧ (Str.ofString "mixed" == Str.ofString "is_behind") = false ∧ ¬ Str.ofString "mixed" = Str.ofString "_stage_behind" ∧ (Str.ofString "mixed" == Str.ofString "_stage_behind") = false ∧ ¬ Str.ofString "strays" = Str.ofString "kinds" ∧ (Str.ofString "strays" == Str.ofString "kinds") = false ∧ ¬ Str.ofString "strays" = Str.ofString "worths" ∧ (Str.ofString "strays" == Str.ofString "worths") = false ∧ ¬ Str.ofString "strays" = Str.ofString "anchors" ∧ (Str.ofString "strays" == Str.ofString "anchors") = false ∧ ¬ Str.ofString "strays" = Str.ofString "bounded" ∧ (Str.ofString "strays" == Str.ofString "bounded") = false ∧ ¬ Str.ofString "strays" = Str.ofString "free" ∧ (Str.ofString "strays" == Str.ofString "free") = false ∧ ¬ Str.ofString "strays" = Str.ofString "joined" ∧ (Str.ofString "strays" == Str.ofString "joined") = false ∧ ¬ Str.ofString "strays" = Str.ofString "stage" ∧ (Str.ofString "strays" == Str.ofString "stage") = false ∧ ¬ Str.ofString "strays" = Str.ofString "onces" ∧ (Str.ofString "strays" == Str.ofString "onces") = false ∧ ¬ Str.ofString "strays" = Str.ofString "doublings" ∧ (Str.ofString "strays" == Str.ofString "doublings") = false ∧ ¬ Str.ofString "strays" = Str.ofString "mixed" ∧ (Str.ofString "strays" == Str.ofString "mixed") = false ∧ ¬ Str.ofString "strays" = Str.ofString "takes" ∧ (Str.ofString "strays" == Str.ofString "takes") = false ∧ ¬ Str.ofString "strays" = Str.ofString "take" ∧ (Str.ofString "strays" == Str.ofString "take") = false ∧ ¬ Str.ofString "strays" = Str.ofString "is_behind" ∧ (Str.ofString "strays" == Str.ofString "is_behind") = false ∧ ¬ Str.ofString "strays" = Str.ofString "_stage_behind" ∧ (Str.ofString "strays" == Str.ofString "_stage_behind") = false ∧ ¬ Str.ofString "takes" = Str.ofString "kinds" ∧ (Str.ofString "takes" == Str.ofString "kinds") = false ∧ ¬ Str.ofString "takes" = Str.ofString "worths" ∧ (Str.ofString "takes" == Str.ofString "worths") = false ∧ ¬ Str.ofString "takes" = Str.ofString "anchors" ∧ (Str.ofString "takes" == Str.ofString "anchors") = false ∧ ¬ Str.ofString "takes" = Str.ofString "bounded" ∧ (Str.ofString "takes" == Str.ofString "bounded") = false ∧ ¬ Str.ofString "takes" = Str.ofString "free" ∧ (Str.ofString "takes" == Str.ofString "free") = false ∧ ¬ Str.ofString "takes" = Str.ofString "joined" ∧ (Str.ofString "takes" == Str.ofString "joined") = false ∧ ¬ Str.ofString "takes" = Str.ofString "stage" ∧ (Str.ofString "takes" == Str.ofString "stage") = false ∧ ¬ Str.ofString "takes" = Str.ofString "onces" ∧ (Str.ofString "takes" == Str.ofString "onces") = false ∧ ¬ Str.ofString "takes" = Str.ofString "doublings" ∧ (Str.ofString "takes" == Str.ofString "doublings") = false ∧ ¬ Str.ofString "takes" = Str.ofString "mixed" ∧ (Str.ofString "takes" == Str.ofString "mixed") = false ∧ ¬ Str.ofString "takes" = Str.ofString "strays" ∧ (Str.ofString "takes" == Str.ofString "strays") = false ∧ ¬ Str.ofString "takes" = Str.ofString "take" ∧ (Str.ofString "takes" == Str.ofString "take") = false ∧ ¬ Str.ofString "takes" = Str.ofString "is_behind" ∧ (Str.ofString "takes" == Str.ofString "is_behind") = false ∧ ¬ Str.ofString "takes" = Str.ofString "_stage_behind" ∧ (Str.ofString "takes" == Str.ofString "_stage_behind") = false ∧ ¬ Str.ofString "take" = Str.ofString "kinds" ∧ (Str.ofString "take" == Str.ofString "kinds") = false ∧ ¬ Str.ofString "take" = Str.ofString "worths" ∧ (Str.ofString "take" == Str.ofString "worths") = false ∧ ¬ Str.ofString "take" = Str.ofString "anchors" ∧ (Str.ofString "take" == Str.ofString "anchors") = false ∧ ¬ Str.ofString "take" = Str.ofString "bounded" ∧ (Str.ofString "take" == Str.ofString "bounded") = false ∧ ¬ Str.ofString "take" = Str.ofString "free" ∧ (Str.ofString "take" == Str.ofString "free") = false ∧ ¬ Str.ofString "take" = Str.ofString "joined" ∧ (Str.ofString "take" == Str.ofString "joined") = false ∧ ¬ Str.ofString "take" = Str.ofString "stage" ∧ (Str.ofString "take" == Str.ofString "stage") = false ∧ ¬ Str.ofString "take" = Str.ofString "onces" ∧ (Str.ofString "take" == Str.ofString "onces") = false ∧ ¬ Str.ofString "take" = Str.ofString "doublings" ∧ (Str.ofString "take" == Str.ofString "doublings") = false ∧ ¬ Str.ofString "take" = Str.ofString "mixed" ∧ (Str.ofString "take" == Str.ofString "mixed") = false ∧ ¬ Str.ofString "take" = Str.ofString "strays" ∧ (Str.ofString "take" == Str.ofString "strays") = false ∧ ¬ Str.ofString "take" = Str.ofString "takes" ∧ (Str.ofString "take" == Str.ofString "takes") = false ∧ ¬ Str.ofString "take" = Str.ofString "is_behind" ∧ (Str.ofString "take" == Str.ofString "is_behind") = false ∧ ¬ Str.ofString "take" = Str.ofString "_stage_behind" ∧ (Str.ofString "take" == Str.ofString "_stage_behind") = false ∧ ¬ Str.ofString "is_behind" = Str.ofString "kinds" ∧ (Str.ofString "is_behind" == Str.ofString "kinds") = false ∧ ¬ Str.ofString "is_behind" = Str.ofString "worths" ∧ (Str.ofString "is_behind" == Str.ofString "worths") = false ∧ ¬ Str.ofString "is_behind" = Str.ofString "anchors" ∧ (Str.ofString "is_behind" == Str.ofString "anchors") = false ∧ ¬ Str.ofString "is_behind" = Str.ofString "bounded" ∧ (Str.ofString "is_behind" == Str.ofString "bounded") = false ∧ ¬ Str.ofString "is_behind" = Str.ofString "free" ∧ (Str.ofString "is_behind" == Str.ofString "free") = false ∧ ¬ Str.ofString "is_behind" = Str.ofString "joined" ∧ (Str.ofString "is_behind" == Str.ofString "joined") = false ∧ ¬ Str.ofString "is_behind" = Str.ofString "stage" ∧ (Str.ofString "is_behind" == Str.ofString "stage") = false ∧ ¬ Str.ofString "is_behind" = Str.ofString "onces" ∧ (Str.ofString "is_behind" == Str.ofString "onces") = false ∧ ¬ Str.ofString "is_behind" = Str.ofString "doublings" ∧ (Str.ofString "is_behind" == Str.ofString "doublings") = false ∧ ¬ Str.ofString "is_behind" = Str.ofString "mixed" ∧ (Str.ofString "is_behind" == Str.ofString "mixed") = false ∧ ¬ Str.ofString "is_behind" = Str.ofString "strays" ∧ (Str.ofString "is_behind" == Str.ofString "strays") = false ∧ ¬ Str.ofString "is_behind" = Str.ofString "takes" ∧ (Str.ofString "is_behind" == Str.ofString "takes") = false ∧ ¬ Str.ofString "is_behind" = Str.ofString "take" ∧ (Str.ofString "is_behind" == Str.ofString "take") = false ∧ ¬ Str.ofString "is_behind" = Str.ofString "_stage_behind" ∧ (Str.ofString "is_behind" == Str.ofString "_stage_behind") = false ∧ ¬ Str.ofString "_stage_behind" = Str.ofString "kinds" ∧ (Str.ofString "_stage_behind" == Str.ofString "kinds") = false ∧ ¬ Str.ofString "_stage_behind" = Str.ofString "worths" ∧ (Str.ofString "_stage_behind" == Str.ofString "worths") = false ∧ ¬ Str.ofString "_stage_behind" = Str.ofString "anchors" ∧ (Str.ofString "_stage_behind" == Str.ofString "anchors") = false ∧ ¬ Str.ofString "_stage_behind" = Str.ofString "bounded" ∧ (Str.ofString "_stage_behind" == Str.ofString "bounded") = false ∧ ¬ Str.ofString "_stage_behind" = Str.ofString "free" ∧ (Str.ofString "_stage_behind" == Str.ofString "free") = false ∧ ¬ Str.ofString "_stage_behind" = Str.ofString "joined" ∧ (Str.ofString "_stage_behind" == Str.ofString "joined") = false ∧ ¬ Str.ofString "_stage_behind" = Str.ofString "stage" ∧ (Str.ofString "_stage_behind" == Str.ofString "stage") = false ∧ ¬ Str.ofString "_stage_behind" = Str.ofString "onces" ∧ (Str.ofString "_stage_behind" == Str.ofString "onces") = false ∧ ¬ Str.ofString "_stage_behind" = Str.ofString "doublings" ∧ (Str.ofString "_stage_behind" == Str.ofString "doublings") = false ∧ ¬ Str.ofString "_stage_behind" = Str.ofString "mixed" ∧ (Str.ofString "_stage_behind" == Str.ofString "mixed") = false ∧ ¬ Str.ofString "_stage_behind" = Str.ofString "strays" ∧ (Str.ofString "_stage_behind" == Str.ofString "strays") = false ∧ ¬ Str.ofString "_stage_behind" = Str.ofString "takes" ∧ (Str.ofString "_stage_behind" == Str.ofString "takes") = false ∧ ¬ Str.ofString "_stage_behind" = Str.ofString "take" ∧ (Str.ofString "_stage_behind" == Str.ofString "take") = false ∧ ¬ Str.ofString "_stage_behind" = Str.ofString "is_behind" ∧ (Str.ofString "_stage_behind" == Str.ofString "is_behind") = false := by
  refine ⟨?_, ?_, ?_, ?_, ?_, ?_, ?_, ?_, ?_, ?_, ?_, ?_, ?_, ?_, ?_, ?_, ?_, ?_, ?_, ?_, ?_, ?_, ?_, ?_, ?_, ?_, ?_, ?_, ?_, ?_, ?_, ?_, ?_, ?_, ?_, ?_, ?_, ?_, ?_, ?_, ?_, ?_, ?_, ?_, ?_, ?_, ?_, ?_, ?_, ?_, ?_, ?_, ?_, ?_, ?_, ?_, ?_, ?_, ?_, ?_, ?_, ?_, ?_, ?_, ?_, ?_, ?_, ?_, ?_, ?_, ?_, ?_, ?_, ?_, ?_, ?_, ?_, ?_, ?_, ?_, ?_, ?_, ?_, ?_, ?_, ?_, ?_, ?_, ?_, ?_, ?_, ?_, ?_, ?_, ?_, ?_, ?_, ?_, ?_, ?_, ?_, ?_, ?_, ?_, ?_, ?_, ?_, ?_, ?_, ?_, ?_, ?_, ?_, ?_, ?_, ?_, ?_, ?_, ?_, ?_, ?_, ?_, ?_, ?_, ?_, ?_, ?_, ?_, ?_, ?_, ?_, ?_, ?_, ?_, ?_, ?_, ?_, ?_, ?_, ?_, ?_, ?_, ?_, ?_, ?_, ?_, ?_, ?_, ?_, ?_, ?_, ?_, ?_, ?_, ?_, ?_, ?_, ?_, ?_, ?_, ?_, ?_, ?_, ?_, ?_, ?_, ?_, ?_, ?_, ?_, ?_, ?_, ?_, ?_, ?_, ?_, ?_, ?_, ?_, ?_, ?_, ?_, ?_, ?_, ?_, ?_, ?_, ?_, ?_, ?_, ?_, ?_, ?_, ?_, ?_, ?_, ?_, ?_, ?_, ?_, ?_, ?_, ?_, ?_, ?_, ?_, ?_, ?_, ?_, ?_, ?_, ?_, ?_, ?_, ?_, ?_, ?_, ?_, ?_, ?_, ?_, ?_, ?_, ?_, ?_, ?_, ?_, ?_, ?_, ?_, ?_, ?_, ?_, ?_, ?_, ?_, ?_, ?_, ?_, ?_, ?_, ?_, ?_, ?_, ?_, ?_, ?_, ?_, ?_, ?_, ?_, ?_, ?_, ?_, ?_, ?_, ?_, ?_, ?_, ?_, ?_, ?_, ?_, ?_, ?_, ?_, ?_, ?_, ?_, ?_, ?_, ?_, ?_, ?_, ?_, ?_, ?_, ?_, ?_, ?_, ?_, ?_, ?_, ?_, ?_, ?_, ?_, ?_, ?_, ?_, ?_, ?_, ?_, ?_, ?_, ?_, ?_, ?_, ?_, ?_, ?_, ?_, ?_, ?_, ?_, ?_, ?_, ?_, ?_, ?_, ?_, ?_, ?_, ?_, ?_, ?_, ?_, ?_, ?_, ?_, ?_, ?_, ?_, ?_, ?_, ?_, ?_, ?_, ?_, ?_, ?_, ?_, ?_, ?_, ?_, ?_, ?_, ?_, ?_, ?_, ?_, ?_, ?_, ?_, ?_, ?_, ?_, ?_, ?_, ?_, ?_, ?_, ?_, ?_, ?_, ?_, ?_, ?_, ?_, ?_, ?_, ?_, ?_, ?_, ?_, ?_, ?_, ?_, ?_, ?_, ?_, ?_, ?_, ?_, ?_, ?_, ?_, ?_, ?_, ?_, ?_, ?_, ?_, ?_, ?_, ?_, ?_, ?_, ?_, ?_, ?_, ?_, ?_, ?_, ?_, ?_, ?_, ?_, ?_, ?_, ?_, ?_, ?_, ?_, ?_, ?_, ?_, ?_, ?_, ?_, ?_, ?_, ?_, ?_, ?_, ?_, ?_, ?_, ?_, ?_⟩ <;> decide +kernel
local macro_rules | `(tactic| sizeOf_list_dec) => `(tactic| simp only [litS, beq_self_eq_true, List.set_set, dDef, startS, dSeqS, dNext, dBrk, dCnt, dAsg, dDrop, dRet, dRetN, dIfS, dFor, dVar, dC, dNil, dCons, dOp, dFn, dTst, dAndT, dOrT, dNotT, dAnd, dOr, dNot, dIfE, dChain, dTup, dLst, dLstO, dIsi, dStar, dPart, dNoPart, dSl, dAppend, dAppV, dRng1, dRng2, dEnum, dEnumA, dZip, dCount, dCount.isSeqL, dCount.itemsL, end_at, end_set, rdd_end, dgName, dgNil, dgCons, dgTup, dSeq, dLc, dLcO, dYes, dCall, dCall0,
  rdd_d, rdds_nil, rdds_cons, asB_bl, asL_some, seq_lst, seq_tup, seq_str, ex_sl, dts, opIsN, opNotN, opEq, opNe, has_str_non, has_int_non, has_bool_non, has_list_non, has_tuple_non, has_dict_non, isN_non, notRaw_non, data_non, has_str_bl, has_int_bl, has_bool_bl, has_list_bl, has_tuple_bl, has_dict_bl, isN_bl, notRaw_bl, data_bl, has_str_int, has_int_int, has_bool_int, has_list_int, has_tuple_int, has_dict_int, isN_int, notRaw_int, data_int, has_str_str, has_int_str, has_bool_str, has_list_str, has_tuple_str, has_dict_str, isN_str, notRaw_str, data_str, has_str_lst, has_int_lst, has_bool_lst, has_list_lst, has_tuple_lst, has_dict_lst, isN_lst, notRaw_lst, data_lst, has_str_tup, has_int_tup, has_bool_tup, has_list_tup, has_tuple_tup, has_dict_tup, isN_tup, notRaw_tup, data_tup, has_str_dct, has_int_dct, has_bool_dct, has_list_dct, has_tuple_dct, has_dict_dct, isN_dct, notRaw_dct, data_dct, has_str_ins, has_int_ins, has_bool_ins, has_list_ins, has_tuple_ins, has_dict_ins, isN_ins, notRaw_ins, data_ins, has_str_raw, has_int_raw, has_bool_raw, has_list_raw, has_tuple_raw, has_dict_raw, isN_raw, notRaw_raw, data_raw, has_str_lam, has_int_lam, has_bool_lam, has_list_lam, has_tuple_lam, has_dict_lam, isN_lam, notRaw_lam, data_lam, dLam, dAllGot, keyD_int, keyD_str, add_int, add_str, add_lst, add_tup, i0_int, oi_int, in_lst, in_tup, in_dct_str, in_sign, optP_some, De.ix_lst, De.ix_tup, ix_dct_str, all_lst, atI_0, atI_1, atI_2, len_lst, len_tup, len_str, tuple_lst, tuple_tup, list_lst, list_tup, pln_non, dep_non, pln_bl, dep_bl, pln_int, dep_int, pln_str, dep_str, pln_lst, pln_tup, dep_lst, dep_tup, plns_nil, plns_cons, deps_nil, deps_cons, eqB_int, eqB_str, eqB_non_str, eqB_str_non, eqB_bl_str, eqB_str_bl, eqB_int_str, eqB_str_int, eqB_lst_str, eqB_str_lst, eqB_tup_str, eqB_str_tup, sz_0, sz_1, sz_2, sz_3, sz_4, sz_5, sz_6, sz_7, sz_8, sz_9, sz_10, sz_11, sz_12, sz_13, sz_14, lcStep, wipeS, dLenSet, isSeq, itemsD, dDc, dcStep, dFld, dFldS, dFldA, insD, InsF.look, InsF.lack, dMeth, dMethN, dProp, dMake, dMakeK, dRaise, dCallL, opTab, opInTab, dAppE, dInsE, lstAt, dIndexL, dLcK, fxVar, fxFld, putG, dFrz, dGot, dPar, int_int, int_bl, abs_int, min_int, max_int, mul_int, mul_lst, dgSub, List.lookup_cons, List.lookup_nil, Int.reduceNeg, List.map_cons, List.map_nil, List.length_cons, List.length_nil, List.replicate_succ, List.replicate_zero, List.append_nil, List.nil_append, List.cons_append, List.set_cons_zero, List.set_cons_succ,
  Option.map_some, Option.map_none, Nat.zero_add, Nat.add_zero, Nat.reduceAdd, Nat.reduceLeDiff, Nat.min_self, Nat.reduceSub, Nat.sub_self, Nat.add_one_sub_one, List.getElem?_cons_zero, List.getElem?_cons_succ, if_true, if_false, true_and, and_true, Bool.not_true, Bool.not_false, Bool.true_or, Bool.false_or, Bool.or_true, Bool.or_false, Bool.true_and, Bool.false_and, Bool.and_true, Bool.and_false, Bool.false_eq_true, reduceIte, reduceCtorEq, Bool.not_eq_true', not_true_eq_false, not_false_eq_true, exists_eq_left', exists_eq_left, exists_and_left, Option.some.injEq, Ov.o.injEq, OO.lst.injEq, Ov.d.injEq, and_self])
theorem okz_nm {d : Dt} (h : nmD d = true) : okz (txt d) := by
  cases d with
  | str z =>
    have h : nameB z = true := h
    unfold nameB at h
    obtain ⟨h1, h2⟩ := Bool.and_eq_true_iff.mp h
    obtain ⟨_, h3⟩ := Bool.and_eq_true_iff.mp h1
    refine ⟨?_, ?_⟩
    · show z.cps.all (· < 0x110000) = true
      rw [← Array.all_toList, List.all_eq_true]
      intro c hc
      have hc2 := of_decide_eq_true (List.all_eq_true.mp h2 c hc)
      have : ∀ c ∈ alpha, c < 0x110000 := by decide
      exact decide_eq_true (this c hc2)
    · have h3 := of_decide_eq_true h3
      exact Nat.le_trans h3 (by decide)
  | _ => cases h
theorem kindsOf_ok {ms : List Dt} (pr : ∀ d ∈ ms, ∃ n k, d = .tup [n, k] ∧ nmD n = true ∧ pln k = true) : ∀ p ∈ kindsOf ms, okK p.1 := by
  refine foldD_all (P := fun p => okK p.1) (f := fun d => (.inr (txt (item0 d)), item1 d)) (acc := []) (fun _ h => absurd h List.not_mem_nil) fun d hd => ?_
  obtain ⟨n, k, rfl, hn, _⟩ := pr d (List.mem_filter.mp hd).1
  exact okz_nm hn
theorem foldD_len {f : Dt → Key × Dt} : ∀ {ds : List Dt} {acc : List (Key × Dt)}, (ds.foldl (fun a d => putD a (f d).1 (f d).2) acc).length ≤ acc.length + ds.length
  | [], _ => Nat.le_refl _
  | d :: ds, acc => by
    have h1 := foldD_len (f := f) (ds := ds) (acc := putD acc (f d).1 (f d).2)
    have h2 := putD_len acc (f d).1 (f d).2
    rw [List.foldl_cons, List.length_cons]
    omega
theorem kinds_len {ms : List Dt} (h : ms.length ≤ 300) : (kindsOf ms).length ≤ sizeLine := by
  have h1 := foldD_len (f := fun d => (.inr (txt (item0 d)), item1 d)) (ds := ms.filter fun d => !eqB (item1 d) (.str "worth")) (acc := [])
  have h2 := List.length_filter_le (fun d => !eqB (item1 d) (.str "worth")) ms
  have h3 : (300 : Nat) ≤ sizeLine := by decide
  exact Nat.le_trans h1 (by simp only [List.length_nil]; omega)
theorem valD_of {ks : List (Key × Dt)} {k : Key} {v : Dt} (h : (k, v) ∈ ks) : ∃ u, valD ks k = some u := by
  unfold valD
  cases e : ks.find? fun kv => decide (kv.1 = k) with
  | none =>
    have := List.find?_eq_none.mp e _ h
    simp at this
  | some p => exact ⟨p.2, rfl⟩
theorem kinds_val {ms : List Dt} {p : Key × Dt} (h : p ∈ kindsOf ms) : ∃ z v, keyT p.1 = .str z ∧ valD (kindsOf ms) (.inr z) = some v := by
  have h1 : ∃ z, p.1 = .inr z := foldD_all (P := fun p => ∃ z, p.1 = Sum.inr z) (f := fun d => (.inr (txt (item0 d)), item1 d)) (acc := []) (fun _ h => absurd h List.not_mem_nil) (fun d _ => ⟨_, rfl⟩) p h
  obtain ⟨z, hz⟩ := h1
  obtain ⟨v, hv⟩ := valD_of (k := .inr z) (v := p.2) (by rw [← hz]; exact h)
  exact ⟨z, v, by rw [hz]; rfl, hv⟩
theorem anchors_plns {ms : List Dt} (pr : ∀ d ∈ ms, ∃ n k, d = .tup [n, k] ∧ nmD n = true ∧ pln k = true) : plns (anchorsOf (kindsOf ms)) = true := by
  have := plns_map (f := id) (xs := anchorsOf (kindsOf ms)) fun x hx => by
    obtain ⟨p, hp, rfl⟩ := List.mem_map.mp (List.mem_filter.mp hx).1
    obtain ⟨z, v, e1, _⟩ := kinds_val hp
    rw [e1]
    exact pln_str
  rwa [List.map_id] at this
theorem worths_str {ms : List Dt} (pr : ∀ d ∈ ms, ∃ n k, d = .tup [n, k] ∧ nmD n = true ∧ pln k = true) {d : Dt} (h : d ∈ worthsOf ms) : ∃ z, d = .str z := by
  obtain ⟨x, hx, rfl⟩ := List.mem_map.mp h
  obtain ⟨n, k, rfl, hn, _⟩ := pr x (List.mem_filter.mp hx).1
  exact ⟨_, nm_txt hn⟩
def fStandI (C : Addr) : FD := fun xs os Q _ => ∃ j ms sds us, xs = [.o j, .d (.tup ms), .d (.tup sds), .d (.tup us)] ∧ os[j]? = some (.ins C []) ∧ (pairsB ms = true ∧ plns ms = true ∧ ms.length ≤ 300 ∧ (∀ d ∈ sds, ∃ n h c, d = .tup [.str n, h, c]) ∧ ∀ u ∈ us, pln u = true ∧ dep u ≤ 60) ∧
  Q (.d .non) (os.set j (.ins C (standF "first" ms sds us)))
theorem ok_Standing___init__ (T : Top K w mg) : FnOk P w K mg base CX0 4 T.a_Standing___init__ T.d_Standing___init__ ["self", "main", "sides", "unique"] (spD K (zT T) 4 (fStandI T.C_Standing)) := by
  refine fn_d T.F_Standing___init__ sc_Standing___init__ (fun cdv A outer s H E hr => (pss_consD (psd_fld T.cl_Standing T.n_Standing_kinds (ps_fld (pd_var (pv 0)) (pd_dc (own := [("name", 4), ("kind", 5)]) (E' := E0) rfl sc_Standing___init__.nd (pid_seq (pd_var (pv 1))) (blkOk_by (own := [("name", 4), ("kind", 5)]) (N := n_Standing___init__) (sc := defScope s_Standing___init__) (by decide +kernel)) (fun _ _ _ _ _ => (pgd_tup (n := 2) (pg_tup rfl (pgsd_cons (pgs_cons (pgd_name (pg_name (i := 4) sc_Standing___init__.nd rfl (Or.inl rfl))) (pgsd_cons (pgs_cons (pgd_name (pg_name (i := 5) sc_Standing___init__.nd rfl (Or.inl rfl))) pgsd_nil))))))) (fun _ _ _ _ _ => (ptsd_one (ptd_cmp (od_ne hr.units) (pd_var (pv 5)) pd_str (nomark _)))) (fun _ _ _ _ _ => (pd_var (pv 4))) (fun _ _ _ _ _ => (pd_var (pv 5))) (by decide)) rfl))
    (pss_consD (psd_fld T.cl_Standing T.n_Standing_worths (ps_fld (pd_var (pv 0)) (pd_lc (own := [("name", 4), ("kind", 5)]) (E' := E0) rfl sc_Standing___init__.nd (pid_seq (pd_var (pv 1))) (blkOk_by (own := [("name", 4), ("kind", 5)]) (N := n_Standing___init__) (sc := defScope s_Standing___init__) (by decide +kernel)) (fun _ _ _ _ _ => (pgd_tup (n := 2) (pg_tup rfl (pgsd_cons (pgs_cons (pgd_name (pg_name (i := 4) sc_Standing___init__.nd rfl (Or.inl rfl))) (pgsd_cons (pgs_cons (pgd_name (pg_name (i := 5) sc_Standing___init__.nd rfl (Or.inl rfl))) pgsd_nil))))))) (fun _ _ _ _ _ => (ptsd_one (ptd_cmp (od_eq hr.units) (pd_var (pv 5)) pd_str (nomark _)))) (fun _ _ _ _ _ => (pd_var (pv 4))) (by decide)) rfl))
    (pss_consD (psd_fld T.cl_Standing T.n_Standing_anchors (ps_fld (pd_var (pv 0)) (pd_lcK (own := [("name", 4)]) (E' := E0) rfl sc_Standing___init__.nd (pe_fld (pv 0) rfl) (fix_fld T.cl_Standing T.n_Standing_kinds 0) (blkOk_by (own := [("name", 4)]) (N := n_Standing___init__) (sc := defScope s_Standing___init__) (by decide +kernel)) (fun _ _ _ _ _ => (pgd_name (pg_name (i := 4) sc_Standing___init__.nd rfl (Or.inl rfl)))) (fun _ _ _ _ _ => (ptsd_one (ptd_tst (pd_call0 (pe_call (ok_is_anchor T) (hr.mono (by decide)) rfl T.m_is_anchor T.F_is_anchor.kp T.b_is_anchor .nil pass0 (pad_cons (pd_ix (od_ix (hu_of hr)) (pd_fld T.cl_Standing T.n_Standing_kinds (pe_fldC (K := K) rfl (pd_var (pv 0)))) (pd_var (pv 4))) pad_nil)))))) (fun _ _ _ _ _ => (pd_var (pv 4))) (by decide)) rfl))
    (pss_consD (psd_fld T.cl_Standing T.n_Standing_bounded (ps_fld (pd_var (pv 0)) (pd_methN (pe_meth (pd_var (pv 0)) T.cl_Standing T.M_Standing_strays (ok_Standing_strays T) (hr.mono (by decide)) T.b_Standing_strays .nil pass0 (pad_cons (pd_var (pv 3)) pad_nil))) rfl))
    (pss_consD (psd_fld T.cl_Standing T.n_Standing_free (ps_fld (pd_var (pv 0)) (pd_dc (own := [("side", 6)]) (E' := E0) rfl sc_Standing___init__.nd (pid_seq (pd_var (pv 2))) (blkOk_by (own := [("side", 6)]) (N := n_Standing___init__) (sc := defScope s_Standing___init__) (by decide +kernel)) (fun _ _ _ _ _ => (pgd_name (pg_name (i := 6) sc_Standing___init__.nd rfl (Or.inl rfl)))) (fun _ _ _ _ _ => ptsd_nil) (fun _ _ _ _ _ => (pd_ix (od_ix (hu_of hr)) (pd_var (pv 6)) pd_int)) (fun _ _ _ _ _ => (pd_var (pv 6))) (by decide)) rfl))
    (pss_consD (psd_fld T.cl_Standing T.n_Standing_joined (ps_fld (pd_var (pv 0)) (pd_lst pad_nil) rfl))
    (pss_consD (psd_fld T.cl_Standing T.n_Standing_stage (ps_fld (pd_var (pv 0)) pd_str rfl))
    (pss_consD (psd_fld T.cl_Standing T.n_Standing_onces (ps_fld (pd_var (pv 0)) pd_int rfl))
    (pss_consD (psd_fld T.cl_Standing T.n_Standing_doublings (ps_fld (pd_var (pv 0)) (pd_lst pad_nil) rfl))
    (pss_oneD (psd_fld T.cl_Standing T.n_Standing_mixed (ps_fld (pd_var (pv 0)) (pd_dc (own := [("name", 4)]) (E' := E0) rfl sc_Standing___init__.nd (pid_seq (pd_fld T.cl_Standing T.n_Standing_worths (pe_fld (pd_var (pv 0)) rfl))) (blkOk_by (own := [("name", 4)]) (N := n_Standing___init__) (sc := defScope s_Standing___init__) (by decide +kernel)) (fun _ _ _ _ _ => (pgd_name (pg_name (i := 4) sc_Standing___init__.nd rfl (Or.inl rfl)))) (fun _ _ _ _ _ => ptsd_nil) (fun _ _ _ _ _ => (pd_var (pv 4))) (fun _ _ _ _ _ => pd_int) (by decide)) rfl))))))))))))) (fun xs os Q Ex hn h => ?_)
  obtain ⟨j, ms, sds, us, rfl, hj, ⟨hpm, pm, hz, hs, hu⟩, q⟩ := h
  have pr := pairs_get hpm
  have hjl : j < os.length := (List.getElem?_eq_some_iff.mp hj).1
  sizeOf_list_dec
  refine dc_fm (fun d => !eqB (item1 d) (.str "worth")) (fun d => (.inr (txt (item0 d)), item1 d)) (fun d hd k s hk => ?_) ?_
  · obtain ⟨n, k', rfl, hn', hk'⟩ := pr d hd
    have en := nm_txt hn'
    rw [en] at hk ⊢
    sizeOf_list_dec
    exact ⟨⟨hk', by omega⟩, by simpa [keyD, item0, item1, txt] using hk⟩
  have ek : (ms.filter fun d => !eqB (item1 d) (.str "worth")).foldl (fun a d => putD a (.inr (txt (item0 d))) (item1 d)) [] = kindsOf ms := rfl
  have e : ∀ x : OO, (os.set j x)[j]? = some x := fun x => List.getElem?_set_self hjl
  have mine : ∀ (p : Prop), (T.C_Standing = T.C_Standing ∧ p) = p := fun p => propext ⟨fun z => z.2, fun z => ⟨rfl, z⟩⟩
  rw [ek, hj]
  sizeOf_list_dec
  refine ⟨by decide, ?_⟩
  refine lc_fm (fun d => eqB (item1 d) (.str "worth")) item0 (fun d hd k s hk => ?_) ?_
  · obtain ⟨n, k', rfl, hn', hk'⟩ := pr d hd
    sizeOf_list_dec
    exact ⟨⟨hk', by omega⟩, hk⟩
  have ew : (ms.filter fun d => eqB (item1 d) (.str "worth")).map item0 = worthsOf ms := rfl
  simp only [List.nil_append, ew, e, mine, List.set_set]
  sizeOf_list_dec
  refine ⟨by decide, kindsOf_ok pr, kinds_len hz, ?_⟩
  refine lc_fm (fun d => isAnchor ((valD (kindsOf ms) (.inr (txt d))).getD .non)) id (fun d hd k s hk => ?_) ?_
  · obtain ⟨p, hp, rfl⟩ := List.mem_map.mp hd
    obtain ⟨z, v, e1, e2⟩ := kinds_val hp
    rw [e1] at hk ⊢
    have e3 : valD (kindsOf ms) (.inr z) = some v := e2
    sizeOf_list_dec
    simp only [e, mine]
    sizeOf_list_dec
    rw [e3]
    sizeOf_list_dec
    simp only [fOne_eq]
    sizeOf_list_dec
    refine ⟨kinds_pln pr e3, ?_⟩
    simpa [txt, e3] using hk
  simp only [List.map_id, show ((kindsOf ms).map fun p => keyT p.1).filter (fun d => isAnchor ((valD (kindsOf ms) (.inr (txt d))).getD .non)) = anchorsOf (kindsOf ms) from rfl, e, mine]
  sizeOf_list_dec
  refine ⟨by decide, ?_⟩
  simp only [e, mine]
  sizeOf_list_dec
  refine ⟨j, us, _, _, rfl, e _, by simp only [List.lookup_cons, litS, beq_self_eq_true], ⟨hu, anchors_plns pr⟩, ?_⟩
  simp only [e, mine]
  sizeOf_list_dec
  refine ⟨by decide, ?_⟩
  refine dc_fm (fun _ => true) (fun d => (.inr (txt (item0 d)), d)) (fun d hd k s hk => ?_) ?_
  · obtain ⟨n, h, c, rfl⟩ := hs d hd
    sizeOf_list_dec
    simpa [keyD, item0, txt] using hk
  have ft : sds.filter (fun _ => true) = sds := List.filter_eq_self.mpr fun _ _ => rfl
  simp only [ft, show sds.foldl (fun a d => putD a (.inr (txt (item0 d))) d) [] = freeOf sds from rfl, e, mine]
  sizeOf_list_dec
  refine ⟨by decide, ?_⟩
  simp only [e, mine]
  sizeOf_list_dec
  refine ⟨by decide, by decide, by decide, by decide, ?_⟩
  refine dc_fm (fun _ => true) (fun d => (.inr (txt d), .int 0)) (fun d hd k s hk => ?_) ?_
  · obtain ⟨z, rfl⟩ := worths_str pr hd
    sizeOf_list_dec
    simpa [keyD, txt] using hk
  have ft : (worthsOf ms).filter (fun _ => true) = worthsOf ms := List.filter_eq_self.mpr fun _ _ => rfl
  simp only [ft, show (worthsOf ms).foldl (fun a d => putD a (.inr (txt d)) (.int 0)) [] = mixedOf (worthsOf ms) from rfl, e, mine]
  sizeOf_list_dec
  exact ⟨by decide, q⟩
end
end Bl
namespace Bl
open PySem L2 De
abbrev n_count_tags : List Str := ["columns", "product", "_", "kind"]
theorem sc_count_tags : FnScope n_count_tags ["columns"] (defScope s_count_tags) := ⟨rfl, rfl, rfl, by decide +kernel, rfl, by decide +kernel, by decide +kernel⟩
abbrev n_count_looks : List Str := ["main", "steps", "sides", "named", "product", "step", "side"]
theorem sc_count_looks : FnScope n_count_looks ["main", "steps", "sides"] (defScope s_count_looks) := ⟨rfl, rfl, rfl, by decide +kernel, rfl, by decide +kernel, by decide +kernel⟩
abbrev n_Program__take_steps : List Str := ["self", "steps", "standing", "at", "step"]
theorem sc_Program__take_steps : FnScope n_Program__take_steps ["self", "steps"] (defScope s_Program__take_steps) := ⟨rfl, rfl, rfl, by decide +kernel, rfl, by decide +kernel, by decide +kernel⟩
abbrev n_Program___init__ : List Str := ["self", "main", "steps", "sides", "unique", "at", "name", "how", "columns"]
theorem sc_Program___init__ : FnScope n_Program___init__ ["self", "main", "steps", "sides", "unique"] (defScope s_Program___init__) := ⟨rfl, rfl, rfl, by decide +kernel, rfl, by decide +kernel, by decide +kernel⟩
theorem litP : ¬ Str.ofString "_main" = Str.ofString "_sides" ∧ (Str.ofString "_main" == Str.ofString "_sides") = false ∧ ¬ Str.ofString "_main" = Str.ofString "_unique" ∧ (Str.ofString "_main" == Str.ofString "_unique") = false ∧ ¬ Str.ofString "_main" = Str.ofString "_ahead" ∧ (Str.ofString "_main" == Str.ofString "_ahead") = false ∧ ¬ Str.ofString "_main" = Str.ofString "_steps" ∧ (Str.ofString "_main" == Str.ofString "_steps") = false ∧ ¬ Str.ofString "_main" = Str.ofString "_cut_at" ∧ (Str.ofString "_main" == Str.ofString "_cut_at") = false ∧ ¬ Str.ofString "_main" = Str.ofString "_kinds" ∧ (Str.ofString "_main" == Str.ofString "_kinds") = false ∧ ¬ Str.ofString "_main" = Str.ofString "_many" ∧ (Str.ofString "_main" == Str.ofString "_many") = false ∧ ¬ Str.ofString "_main" = Str.ofString "MOST_STEPS" ∧ (Str.ofString "_main" == Str.ofString "MOST_STEPS") = false ∧ ¬ Str.ofString "_main" = Str.ofString "MOST_LOOKS" ∧ (Str.ofString "_main" == Str.ofString "MOST_LOOKS") = false ∧ ¬ Str.ofString "_main" = Str.ofString "_take_steps" ∧ (Str.ofString "_main" == Str.ofString "_take_steps") = false ∧ ¬ Str.ofString "_sides" = Str.ofString "_main" ∧ (Str.ofString "_sides" == Str.ofString "_main") = false ∧ ¬ Str.ofString "_sides" = Str.ofString "_unique" ∧ (Str.ofString "_sides" == Str.ofString "_unique") = false ∧ ¬ Str.ofString "_sides" = Str.ofString "_ahead" ∧ (Str.ofString "_sides" == Str.ofString "_ahead") = false ∧ ¬ Str.ofString "_sides" = Str.ofString "_steps" ∧ (Str.ofString "_sides" == Str.ofString "_steps") = false ∧ ¬ Str.ofString "_sides" = Str.ofString "_cut_at" ∧ (Str.ofString "_sides" == Str.ofString "_cut_at") = false ∧ ¬ Str.ofString "_sides" = Str.ofString "_kinds" ∧ (Str.ofString "_sides" == Str.ofString "_kinds") = false ∧ ¬ Str.ofString "_sides" = Str.ofString "_many" ∧ (Str.ofString "_sides" == Str.ofString "_many") = false ∧ ¬ Str.ofString "_sides" = Str.ofString "MOST_STEPS" ∧ (Str.ofString "_sides" == Str.ofString "MOST_STEPS") = false ∧ ¬ Str.ofString "_sides" = Str.ofString "MOST_LOOKS" ∧ (Str.ofString "_sides" == Str.ofString "MOST_LOOKS") = false ∧ ¬ Str.ofString "_sides" = Str.ofString "_take_steps" ∧ (Str.ofString "_sides" == Str.ofString "_take_steps") = false ∧ ¬ Str.ofString "_unique" = Str.ofString "_main" ∧ (Str.ofString "_unique" == Str.ofString "_main") = false ∧ ¬ Str.ofString "_unique" = Str.ofString "_sides" ∧ (Str.ofString "_unique" == Str.ofString "_sides") = false ∧ ¬ Str.ofString "_unique" = Str.ofString "_ahead" ∧ (Str.ofString "_unique" == Str.ofString "_ahead") = false ∧ ¬ Str.ofString "_unique" = Str.ofString "_steps" ∧ (Str.ofString "_unique" == Str.ofString "_steps") = false ∧ ¬ Str.ofString "_unique" = Str.ofString "_cut_at" ∧ (Str.ofString "_unique" == Str.ofString "_cut_at") = false ∧ ¬ Str.ofString "_unique" = Str.ofString "_kinds" ∧ (Str.ofString "_unique" == Str.ofString "_kinds") = false ∧ ¬ Str.ofString "_unique" = Str.ofString "_many" ∧ (Str.ofString "_unique" == Str.ofString "_many") = false ∧ ¬ Str.ofString "_unique" = Str.ofString "MOST_STEPS" ∧ (Str.ofString "_unique" == Str.ofString "MOST_STEPS") = false ∧ ¬ Str.ofString "_unique" = Str.ofString "MOST_LOOKS" ∧ (Str.ofString "_unique" == Str.ofString "MOST_LOOKS") = false ∧ ¬ Str.ofString "_unique" = Str.ofString "_take_steps" ∧ (Str.ofString "_unique" == Str.ofString "_take_steps") = false ∧ ¬ Str.ofString "_ahead" = Str.ofString "_main" ∧ (Str.ofString "_ahead" == Str.ofString "_main") = false ∧ ¬ Str.ofString "_ahead" = Str.ofString "_sides" ∧ (Str.ofString "_ahead" == Str.ofString "_sides") = false ∧ ¬ Str.ofString "_ahead" = Str.ofString "_unique" ∧ (Str.ofString "_ahead" == Str.ofString "_unique") = false ∧ ¬ Str.ofString "_ahead" = Str.ofString "_steps" ∧ (Str.ofString "_ahead" == Str.ofString "_steps") = false ∧ ¬ Str.ofString "_ahead" = Str.ofString "_cut_at" ∧ (Str.ofString "_ahead" == Str.ofString "_cut_at") = false ∧ ¬ Str.ofString "_ahead" = Str.ofString "_kinds" ∧ (Str.ofString "_ahead" == Str.ofString "_kinds") = false ∧ ¬ Str.ofString "_ahead" = Str.ofString "_many" ∧ (Str.ofString "_ahead" == Str.ofString "_many") = false ∧ ¬ Str.ofString "_ahead" = Str.ofString "MOST_STEPS" ∧ (Str.ofString "_ahead" == Str.ofString "MOST_STEPS") = false ∧ ¬ Str.ofString "_ahead" = Str.ofString "MOST_LOOKS" ∧ (Str.ofString "_ahead" == Str.ofString "MOST_LOOKS") = false ∧ ¬ Str.ofString "_ahead" = Str.ofString "_take_steps" ∧ (Str.ofString "_ahead" == Str.ofString "_take_steps") = false ∧ ¬ Str.ofString "_steps" = Str.ofString "_main" ∧ (Str.ofString "_steps" == Str.ofString "_main") = false ∧ ¬ Str.ofString "_steps" = Str.ofString "_sides" ∧ (Str.ofString "_steps" == Str.ofString "_sides") = false ∧ ¬ Str.ofString "_steps" = Str.ofString "_unique" ∧ (Str.ofString "_steps" == Str.ofString "_unique") = false ∧ ¬ Str.ofString "_steps" = Str.ofString "_ahead" ∧ (Str.ofString "_steps" == Str.ofString "_ahead") = false ∧ ¬ Str.ofString "_steps" = Str.ofString "_cut_at" ∧ (Str.ofString "_steps" == Str.ofString "_cut_at") = false ∧ ¬ Str.ofString "_steps" = Str.ofString "_kinds" ∧ (Str.ofString "_steps" == Str.ofString "_kinds") = false ∧ ¬ Str.ofString "_steps" = Str.ofString "_many" ∧ (Str.ofString "_steps" == Str.ofString "_many") = false ∧ ¬ Str.ofString "_steps" = Str.ofString "MOST_STEPS" ∧ (Str.ofString "_steps" == Str.ofString "MOST_STEPS") = false ∧ ¬ Str.ofString "_steps" = Str.ofString "MOST_LOOKS" ∧ (Str.ofString "_steps" == Str.ofString "MOST_LOOKS") = false ∧ ¬ Str.ofString "_steps" = Str.ofString "_take_steps" ∧ (Str.ofString "_steps" == Str.ofString "_take_steps") = false ∧ ¬ Str.ofString "_cut_at" = Str.ofString "_main" ∧ (Str.ofString "_cut_at" == Str.ofString "_main") = false ∧ ¬ Str.ofString "_cut_at" = Str.ofString "_sides" ∧ (Str.ofString "_cut_at" == Str.ofString "_sides") = false ∧ ¬ Str.ofString "_cut_at" = Str.ofString "_unique" ∧ (Str.ofString "_cut_at" == Str.ofString "_unique") = false ∧ ¬ Str.ofString "_cut_at" = Str.ofString "_ahead" ∧ (Str.ofString "_cut_at" == Str.ofString "_ahead") = false ∧ ¬ Str.ofString "_cut_at" = Str.ofString "_steps" ∧ (Str.ofString "_cut_at" == Str.ofString "_steps") = false ∧ ¬ Str.ofString "_cut_at" = Str.ofString "_kinds" ∧ (Str.ofString "_cut_at" == Str.ofString "_kinds") = false ∧ ¬ Str.ofString "_cut_at" = Str.ofString "_many" ∧ (Str.ofString "_cut_at" == Str.ofString "_many") = false ∧ ¬ Str.ofString "_cut_at" = Str.ofString "MOST_STEPS" ∧ (Str.ofString "_cut_at" == Str.ofString "MOST_STEPS") = false ∧ ¬ Str.ofString "_cut_at" = Str.ofString "MOST_LOOKS" ∧ (Str.ofString "_cut_at" == Str.ofString "MOST_LOOKS") = false ∧ ¬ Str.ofString "_cut_at" = Str.ofString "_take_steps" ∧ (Str.ofString "_cut_at" == Str.ofString "_take_steps") = false ∧ ¬ Str.ofString "_kinds" = Str.ofString "_main" ∧ (Str.ofString "_kinds" == Str.ofString "_main") = false ∧ ¬ Str.ofString "_kinds" = Str.ofString "_sides" ∧ (Str.ofString "_kinds" == Str.ofString "_sides") = false ∧ ¬ Str.ofString "_kinds" = Str.ofString "_unique" ∧ (Str.ofString "_kinds" == Str.ofString "_unique") = false ∧ ¬ Str.ofString "_kinds" = Str.ofString "_ahead" ∧ (Str.ofString "_kinds" == Str.ofString "_ahead") = false ∧ ¬ Str.ofString "_kinds" = Str.ofString "_steps" ∧ (Str.ofString "_kinds" == Str.ofString "_steps") = false ∧ ¬ Str.ofString "_kinds" = Str.ofString "_cut_at" ∧ (Str.ofString "_kinds" == Str.ofString "_cut_at") = false ∧ ¬ Str.ofString "_kinds" = Str.ofString "_many" ∧ (Str.ofString "_kinds" == Str.ofString "_many") = false ∧ ¬ Str.ofString "_kinds" = Str.ofString "MOST_STEPS" ∧ (Str.ofString "_kinds" == Str.ofString "MOST_STEPS") = false ∧ ¬ Str.ofString "_kinds" = Str.ofString "MOST_LOOKS" ∧ (Str.ofString "_kinds" == Str.ofString "MOST_LOOKS") = false ∧ ¬ Str.ofString "_kinds" = Str.ofString "_take_steps" ∧ (Str.ofString "_kinds" == Str.ofString "_take_steps") = false ∧ ¬ Str.ofString "_many" = Str.ofString "_main" ∧ (Str.ofString "_many" == Str.ofString "_main") = false ∧ ¬ Str.ofString "_many" = Str.ofString "_sides" ∧ (Str.ofString "_many" == Str.ofString "_sides") = false ∧ ¬ Str.ofString "_many" = Str.ofString "_unique" ∧ (Str.ofString "_many" == Str.ofString "_unique") = false ∧ ¬ Str.ofString "_many" = Str.ofString "_ahead" ∧ (Str.ofString "_many" == Str.ofString "_ahead") = false ∧ ¬ Str.ofString "_many" = Str.ofString "_steps" ∧ (Str.ofString "_many" == Str.ofString "_steps") = false ∧ ¬ Str.ofString "_many" = Str.ofString "_cut_at" ∧ (Str.ofString "_many" == Str.ofString "_cut_at") = false ∧ ¬ Str.ofString "_many" = Str.ofString "_kinds" ∧ (Str.ofString "_many" == Str.ofString "_kinds") = false ∧ ¬ Str.ofString "_many" = Str.ofString "MOST_STEPS" ∧ (Str.ofString "_many" == Str.ofString "MOST_STEPS") = false ∧ ¬ Str.ofString "_many" = Str.ofString "MOST_LOOKS" ∧ (Str.ofString "_many" == Str.ofString "MOST_LOOKS") = false ∧ ¬ Str.ofString "_many" = Str.ofString "_take_steps" ∧ (Str.ofString "_many" == Str.ofString "_take_steps") = false ∧ ¬ Str.ofString "MOST_STEPS" = Str.ofString "_main" ∧ (Str.ofString "MOST_STEPS" == Str.ofString "_main") = false ∧ ¬ Str.ofString "MOST_STEPS" = Str.ofString "_sides" ∧ (Str.ofString "MOST_STEPS" == Str.ofString "_sides") = false ∧ ¬ Str.ofString "MOST_STEPS" = Str.ofString "_unique" ∧ (Str.ofString "MOST_STEPS" == Str.ofString "_unique") = false ∧ ¬ Str.ofString "MOST_STEPS" = Str.ofString "_ahead" ∧ (Str.ofString "MOST_STEPS" == Str.ofString "_ahead") = false ∧ ¬ Str.ofString "MOST_STEPS" = Str.ofString "_steps" ∧ (Str.ofString "MOST_STEPS" == Str.ofString "_steps") = false ∧ ¬ Str.ofString "MOST_STEPS" = Str.ofString "_cut_at" ∧ (Str.ofString "MOST_STEPS" == Str.ofString "_cut_at") = false ∧ ¬ Str.ofString "MOST_STEPS" = Str.ofString "_kinds" ∧ (Str.ofString "MOST_STEPS" == Str.ofString "_kinds") = false ∧ ¬ Str.ofString "MOST_STEPS" = Str.ofString "_many" ∧ (Str.ofString "MOST_STEPS" == Str.ofString "_many") = false ∧ ¬ Str.ofString "MOST_STEPS" = Str.ofString "MOST_LOOKS" ∧ (Str.ofString "MOST_STEPS" == Str.ofString "MOST_LOOKS") = false ∧ ¬ Str.ofString "MOST_STEPS" = Str.ofString "_take_steps" ∧ (Str.ofString "MOST_STEPS" == Str.ofString "_take_steps") = false ∧ ¬ Str.ofString "MOST_LOOKS" = Str.ofString "_main" ∧ (Str.ofString "MOST_LOOKS" == Str.ofString "_main") = false ∧ ¬ Str.ofString "MOST_LOOKS" = Str.ofString "_sides" ∧ (Str.ofString "MOST_LOOKS" == Str.ofString "_sides") = false ∧ ¬ Str.ofString "MOST_LOOKS" = Str.ofString "_unique" ∧ (Str.ofString "MOST_LOOKS" == Str.ofString "_unique") = false ∧ ¬ Str.ofString "MOST_LOOKS" = Str.ofString "_ahead" ∧ (Str.ofString "MOST_LOOKS" == Str.ofString "_ahead") = false ∧ ¬ Str.ofString "MOST_LOOKS" = Str.ofString "_steps" ∧ (Str.ofString "MOST_LOOKS" == Str.ofString "_steps") = false ∧ ¬ Str.ofString "MOST_LOOKS" = Str.ofString "_cut_at" ∧ (Str.ofString "MOST_LOOKS" == Str.ofString "_cut_at") = false ∧ ¬ Str.ofString "MOST_LOOKS" = Str.ofString "_kinds" ∧ (Str.ofString "MOST_LOOKS" == Str.ofString "_kinds") = false ∧ ¬ Str.ofString "MOST_LOOKS" = Str.ofString "_many" ∧ (Str.ofString "MOST_LOOKS" == Str.ofString "_many") = false ∧ ¬ Str.ofString "MOST_LOOKS" = Str.ofString "MOST_STEPS" ∧ (Str.ofString "MOST_LOOKS" == Str.ofString "MOST_STEPS") = false ∧ ¬ Str.ofString "MOST_LOOKS" = Str.ofString "_take_steps" ∧ (Str.ofString "MOST_LOOKS" == Str.ofString "_take_steps") = false ∧ ¬ Str.ofString "_take_steps" = Str.ofString "_main" ∧ (Str.ofString "_take_steps" == Str.ofString "_main") = false ∧ ¬ Str.ofString "_take_steps" = Str.ofString "_sides" ∧ (Str.ofString "_take_steps" == Str.ofString "_sides") = false ∧ ¬ Str.ofString "_take_steps" = Str.ofString "_unique" ∧ (Str.ofString "_take_steps" == Str.ofString "_unique") = false ∧ ¬ Str.ofString "_take_steps" = Str.ofString "_ahead" ∧ (Str.ofString "_take_steps" == Str.ofString "_ahead") = false ∧ ¬ Str.ofString "_take_steps" = Str.ofString "_steps" ∧ (Str.ofString "_take_steps" == Str.ofString "_steps") = false ∧ ¬ Str.ofString "_take_steps" = Str.ofString "_cut_at" ∧ (Str.ofString "_take_steps" == Str.ofString "_cut_at") = false ∧ ¬ Str.ofString "_take_steps" = Str.ofString "_kinds" ∧ (Str.ofString "_take_steps" == Str.ofString "_kinds") = false ∧ ¬ Str.ofString "_take_steps" = Str.ofString "_many" ∧ (Str.ofString "_take_steps" == Str.ofString "_many") = false ∧ ¬ Str.ofString "_take_steps" = Str.ofString "MOST_STEPS" ∧ (Str.ofString "_take_steps" == Str.ofString "MOST_STEPS") = false ∧ ¬ Str.ofString "_take_steps" = Str.ofString "MOST_LOOKS" ∧ (Str.ofString "_take_steps" == Str.ofString "MOST_LOOKS") = false := by
  refine ⟨?_, ?_, ?_, ?_, ?_, ?_, ?_, ?_, ?_, ?_, ?_, ?_, ?_, ?_, ?_, ?_, ?_, ?_, ?_, ?_, ?_, ?_, ?_, ?_, ?_, ?_, ?_, ?_, ?_, ?_, ?_, ?_, ?_, ?_, ?_, ?_, ?_, ?_, ?_, ?_, ?_, ?_, ?_, ?_, ?_, ?_, ?_, ?_, ?_, ?_, ?_, ?_, ?_, ?_, ?_, ?_, ?_, ?_, ?_, ?_, ?_, ?_, ?_, ?_, ?_, ?_, ?_, ?_, ?_, ?_, ?_, ?_, ?_, ?_, ?_, ?_, ?_, ?_, ?_, ?_, ?_, ?_, ?_, ?_, ?_, ?_, ?_, ?_, ?_, ?_, ?_, ?_, ?_, ?_, ?_, ?_, ?_, ?_, ?_, ?_, ?_, ?_, ?_, ?_, ?_, ?_, ?_, ?_, ?_, ?_, ?_, ?_, ?_, ?_, ?_, ?_, ?_, ?_, ?_, ?_, ?_, ?_, ?_, ?_, ?_, ?_, ?_, ?_, ?_, ?_, ?_, ?_, ?_, ?_, ?_, ?_, ?_, ?_, ?_, ?_, ?_, ?_, ?_, ?_, ?_, ?_, ?_, ?_, ?_, ?_, ?_, ?_, ?_, ?_, ?_, ?_, ?_, ?_, ?_, ?_, ?_, ?_, ?_, ?_, ?_, ?_, ?_, ?_, ?_, ?_, ?_, ?_, ?_, ?_, ?_, ?_, ?_, ?_, ?_, ?_, ?_, ?_, ?_, ?_, ?_, ?_, ?_, ?_, ?_, ?_, ?_, ?_, ?_, ?_, ?_, ?_, ?_, ?_, ?_, ?_, ?_, ?_, ?_, ?_, ?_, ?_, ?_, ?_, ?_, ?_, ?_, ?_, ?_, ?_, ?_, ?_, ?_, ?_, ?_, ?_⟩ <;> decide +kernel
local macro_rules | `(tactic| sizeOf_list_dec) => `(tactic| simp only [litS, litP, beq_self_eq_true, List.set_set, opMulL, fnListD, dDef, startS, dSeqS, dNext, dBrk, dCnt, dAsg, dDrop, dRet, dRetN, dIfS, dFor, dVar, dC, dNil, dCons, dOp, dFn, dTst, dAndT, dOrT, dNotT, dAnd, dOr, dNot, dIfE, dChain, dTup, dLst, dLstO, dIsi, dStar, dPart, dNoPart, dSl, dAppend, dAppV, dRng1, dRng2, dEnum, dEnumA, dZip, dCount, dCount.isSeqL, dCount.itemsL, end_at, end_set, rdd_end, dgName, dgNil, dgCons, dgTup, dSeq, dLc, dLcO, dYes, dCall, dCall0,
  rdd_d, rdds_nil, rdds_cons, asB_bl, asL_some, seq_lst, seq_tup, seq_str, ex_sl, dts, opIsN, opNotN, opEq, opNe, has_str_non, has_int_non, has_bool_non, has_list_non, has_tuple_non, has_dict_non, isN_non, notRaw_non, data_non, has_str_bl, has_int_bl, has_bool_bl, has_list_bl, has_tuple_bl, has_dict_bl, isN_bl, notRaw_bl, data_bl, has_str_int, has_int_int, has_bool_int, has_list_int, has_tuple_int, has_dict_int, isN_int, notRaw_int, data_int, has_str_str, has_int_str, has_bool_str, has_list_str, has_tuple_str, has_dict_str, isN_str, notRaw_str, data_str, has_str_lst, has_int_lst, has_bool_lst, has_list_lst, has_tuple_lst, has_dict_lst, isN_lst, notRaw_lst, data_lst, has_str_tup, has_int_tup, has_bool_tup, has_list_tup, has_tuple_tup, has_dict_tup, isN_tup, notRaw_tup, data_tup, has_str_dct, has_int_dct, has_bool_dct, has_list_dct, has_tuple_dct, has_dict_dct, isN_dct, notRaw_dct, data_dct, has_str_ins, has_int_ins, has_bool_ins, has_list_ins, has_tuple_ins, has_dict_ins, isN_ins, notRaw_ins, data_ins, has_str_raw, has_int_raw, has_bool_raw, has_list_raw, has_tuple_raw, has_dict_raw, isN_raw, notRaw_raw, data_raw, has_str_lam, has_int_lam, has_bool_lam, has_list_lam, has_tuple_lam, has_dict_lam, isN_lam, notRaw_lam, data_lam, dLam, dAllGot, keyD_int, keyD_str, add_int, add_str, add_lst, add_tup, i0_int, oi_int, in_lst, in_tup, in_dct_str, in_sign, optP_some, De.ix_lst, De.ix_tup, ix_dct_str, all_lst, atI_0, atI_1, atI_2, len_lst, len_tup, len_str, tuple_lst, tuple_tup, list_lst, list_tup, pln_non, dep_non, pln_bl, dep_bl, pln_int, dep_int, pln_str, dep_str, pln_lst, pln_tup, dep_lst, dep_tup, plns_nil, plns_cons, deps_nil, deps_cons, eqB_int, eqB_str, eqB_non_str, eqB_str_non, eqB_bl_str, eqB_str_bl, eqB_int_str, eqB_str_int, eqB_lst_str, eqB_str_lst, eqB_tup_str, eqB_str_tup, sz_0, sz_1, sz_2, sz_3, sz_4, sz_5, sz_6, sz_7, sz_8, sz_9, sz_10, sz_11, sz_12, sz_13, sz_14, lcStep, wipeS, dLenSet, isSeq, itemsD, dDc, dcStep, dFld, dFldS, dFldA, insD, InsF.look, InsF.lack, dMeth, dMethN, dProp, dMake, dMakeK, dRaise, dCallL, opTab, opInTab, dAppE, dInsE, lstAt, dIndexL, dLcK, fxVar, fxFld, putG, dFrz, dGot, dPar, int_int, int_bl, abs_int, min_int, max_int, mul_int, mul_lst, dgSub, List.lookup_cons, List.lookup_nil, Int.reduceNeg, List.map_cons, List.map_nil, List.length_cons, List.length_nil, List.replicate_succ, List.replicate_zero, List.append_nil, List.nil_append, List.cons_append, List.set_cons_zero, List.set_cons_succ,
  Option.map_some, Option.map_none, Nat.zero_add, Nat.add_zero, Nat.reduceAdd, Nat.reduceLeDiff, Nat.min_self, Nat.reduceSub, Nat.sub_self, Nat.add_one_sub_one, List.getElem?_cons_zero, List.getElem?_cons_succ, if_true, if_false, true_and, and_true, Bool.not_true, Bool.not_false, Bool.true_or, Bool.false_or, Bool.or_true, Bool.or_false, Bool.true_and, Bool.false_and, Bool.and_true, Bool.and_false, Bool.false_eq_true, reduceIte, reduceCtorEq, Bool.not_eq_true', not_true_eq_false, not_false_eq_true, exists_eq_left', exists_eq_left, exists_and_left, Option.some.injEq, Ov.o.injEq, OO.lst.injEq, Ov.d.injEq, and_self])
section
variable {P : Program} {w : World} {K : PySem.W.Frag} {mg : Str → Option Value} {base : Heap}
def tagLen : Dt → Nat
  | .tup [_, .tup ts] => ts.length
  | _ => 1
def prodT : List Dt → Nat
  | [] => 1
  | d :: r => tagLen d * prodT r
theorem prodT_app : ∀ (a b : List Dt), prodT (a ++ b) = prodT a * prodT b
  | [], b => (Nat.one_mul _).symm
  | d :: a, b => by
    show tagLen d * prodT (a ++ b) = tagLen d * prodT a * prodT b
    rw [prodT_app a b, Nat.mul_assoc]
theorem prodT_le : ∀ {a : List Dt}, (∀ d ∈ a, tagLen d ≤ 3) → prodT a ≤ 3 ^ a.length
  | [], _ => Nat.le_refl _
  | d :: a, h => by
    rw [List.length_cons, Nat.pow_succ, Nat.mul_comm]
    exact Nat.mul_le_mul (h d List.mem_cons_self) (prodT_le fun e he => h e (List.mem_cons_of_mem _ he))
def fTags : FD := fun xs os Q _ => ∃ ms, xs = [.d (.tup ms)] ∧ (pairsB ms = true ∧ ms.length ≤ 20 ∧ ∀ d ∈ ms, tagLen d ≤ 3) ∧ Q (.d (.int (prodT ms : Nat))) os
theorem ok_count_tags (T : Top K w mg) : FnOk P w K mg base CX0 1 T.a_count_tags T.d_count_tags ["columns"] (spD K (zT T) 1 fTags) := by
  refine fn_d T.F_count_tags sc_count_tags (fun cdv A outer s H E hr => (pss_consD (psd_asg (ps_asg pd_int (pgd_name (pg_name (i := 1) sc_count_tags.nd rfl (Or.inl rfl)))))
    (pss_consD (psd_for PassesOwn.never rfl (pid_seq (pd_var (pv 0))) (pgd_tup (n := 2) (pg_tup rfl (pgsd_cons (pgs_cons (pgd_name (pg_name (i := 2) sc_count_tags.nd rfl (Or.inl rfl))) (pgsd_cons (pgs_cons (pgd_name (pg_name (i := 3) sc_count_tags.nd rfl (Or.inl rfl))) pgsd_nil))))))
    (pss_oneD (psd_if (ptd_tst (pd_isi (c := .tuple) (pe_callB call_isi (by rfl) T.z_isinstance (by decide +kernel) (pa_cons (pd_var (pv 3)) (pa_cons (pe_bltn (v := .ty "tuple") (by rfl) T.z_tuple (by decide +kernel) rfl) pa_nil))))) (pss_oneD (psd_asg (ps_asg (pd_op od_mul (pd_var (pv 1)) (pd_callB cd_len (by rfl) T.z_len (by decide +kernel) (pad_cons (pd_var (pv 3)) pad_nil))) (pgd_name (pg_name (i := 1) sc_count_tags.nd rfl (Or.inl rfl)))))) pss_nilD)))
    (pss_oneD (psd_ret (pd_var (pv 1))))))) (fun xs os Q Ex hn h => ?_)
  obtain ⟨ms, rfl, ⟨hp, hl, ht⟩, q⟩ := h
  have pr := pairs_get hp
  sizeOf_list_dec
  intro hsz
  refine for_inv (fun i sl os' => ∃ a b, sl = [some (.d (.tup ms)), some (.d (.int (prodT (ms.take i) : Nat))), a, b] ∧ os' = os) ⟨_, _, rfl, rfl⟩ ?_ ?_
  · rintro i x _ _ N hx ⟨a, b, rfl, rfl⟩ hN
    have hd := List.mem_of_getElem? hx
    obtain ⟨n, k, rfl, hn, hk⟩ := pr x hd
    have e1 : prodT (ms.take (i + 1)) = prodT (ms.take i) * tagLen (.tup [n, k]) := by
      rw [List.take_add_one, hx, prodT_app]
      show _ * (tagLen (.tup [n, k]) * 1) = _
      rw [Nat.mul_one]
    have hle : prodT (ms.take i) ≤ 3 ^ 20 := by
      refine Nat.le_trans (prodT_le fun d hd => ht d (List.mem_of_mem_take hd)) (Nat.pow_le_pow_right (by decide) ?_)
      rw [List.length_take]
      omega
    sizeOf_list_dec
    refine ⟨pln_data hk, ?_⟩
    cases k with
    | tup ts =>
      sizeOf_list_dec
      refine ⟨.inl ⟨by omega, by omega⟩, hN _ _ ⟨some (.d n), some (.d (.tup ts)), ?_, rfl⟩⟩
      rw [e1, show tagLen (.tup [n, .tup ts]) = ts.length from rfl, Int.natCast_mul]
    | _ =>
      have e2 := e1.trans (Nat.mul_one _)
      sizeOf_list_dec
      exact hN _ _ ⟨some (.d n), some _, by rw [e2], rfl⟩
  · rintro _ _ ⟨a, b, rfl, rfl⟩
    sizeOf_list_dec
    rw [List.take_of_length_le (Nat.le_refl _)]
    exact q
def fLooks : FD := fun xs os Q _ => ∃ ms sds, xs = [.d (.tup ms), .d (.tup [cutThrow]), .d (.tup sds)] ∧ (pairsB ms = true ∧ ms.length ≤ 20 ∧ (∀ d ∈ ms, tagLen d ≤ 3) ∧ (∀ d ∈ sds, ∃ n h c, d = .tup [.str n, h, c])) ∧ Q (.d (.int (prodT ms : Nat))) os
theorem ok_count_looks (T : Top K w mg) : FnOk P w K mg base CX0 2 T.a_count_looks T.d_count_looks ["main", "steps", "sides"] (spD K (zT T) 3 fLooks) := by
  refine fn_d T.F_count_looks sc_count_looks (fun cdv A outer s H E hr => (pss_consD (psd_setDc (i := 3) rfl rfl (sw_trueD rfl rfl rfl (by decide +kernel)) (own := [("side", 6)]) (E' := E0) rfl sc_count_looks.nd (pid_seq (pd_var (pv 2))) (blkOk_by (own := [("side", 6)]) (N := n_count_looks) (sc := defScope s_count_looks) (by decide +kernel)) (fun _ _ _ _ _ => (pgd_name (pg_name (i := 6) sc_count_looks.nd rfl (Or.inl rfl)))) (fun _ _ _ _ _ => ptsd_nil) (fun _ _ _ _ _ => (pd_ix (od_ix (hu_of hr)) (pd_var (pv 6)) pd_int)) (fun _ _ _ _ _ => (pd_var (pv 6))) (by decide))
    (pss_consD (psd_asg (ps_asg (pd_call0 (pe_call (ok_count_tags T) (hr.mono (by decide)) rfl T.m_count_tags T.F_count_tags.kp T.b_count_tags .nil pass0 (pad_cons (pd_var (pv 0)) pad_nil))) (pgd_name (pg_name (i := 4) sc_count_looks.nd rfl (Or.inl rfl)))))
    (pss_consD (psd_for PassesOwn.never rfl (pid_seq (pd_var (pv 1))) (pgd_name (pg_name (i := 5) sc_count_looks.nd rfl (Or.inl rfl)))
    (pss_oneD (psd_if (ptd_cmp (od_in (hu65 hr)) (pd_ix (od_ix (hu_of hr)) (pd_var (pv 5)) pd_int) (pd_tup (pad_cons pd_str (pad_cons pd_str pad_nil))) rfl) (pss_oneD psd_never) (pss_oneD (psd_if (ptd_cmp (od_eq hr.units) (pd_ix (od_ix (hu_of hr)) (pd_var (pv 5)) pd_int) pd_str (nomark _)) (pss_oneD psd_never) pss_nilD)))))
    (pss_oneD (psd_ret (pd_var (pv 4)))))))) (fun xs os Q Ex hn h => ?_)
  obtain ⟨ms, sds, rfl, ⟨hp, hl, ht, hs⟩, q⟩ := h
  sizeOf_list_dec
  refine dc_fm (fun _ => true) (fun d => (.inr (txt (item0 d)), d)) (fun d hd k s hk => ?_) ?_
  · obtain ⟨n, h, c, rfl⟩ := hs d hd
    sizeOf_list_dec
    simpa [keyD, item0, txt] using hk
  sizeOf_list_dec
  refine ⟨ms, rfl, ⟨hp, hl, ht⟩, ?_⟩
  intro _
  unfold forGo
  sizeOf_list_dec
  refine ⟨by decide, (if_neg (by decide +kernel)).mpr ?_⟩
  refine (if_neg (by decide +kernel)).mpr ?_
  unfold forGo
  sizeOf_list_dec
  exact q
def ot (os : List OO) (j : Nat) (y : OO) (l : List OO) : List OO := os.set j y ++ l
section
variable {os : List OO} {j : Nat} {x x' y z : OO} {l m : List OO}
theorem ot_at (h : j < os.length) : (ot os j y l)[j]? = some y := by
  unfold ot
  rw [List.getElem?_append_left (by rw [List.length_set]; exact h)]
  exact List.getElem?_set_self h
theorem ot_set (h : j < os.length) : (ot os j y l).set j z = ot os j z l := by
  unfold ot
  rw [List.set_append_left _ _ (by rw [List.length_set]; exact h), List.set_set]
theorem ot_app : ot os j y l ++ m = ot os j y (l ++ m) := List.append_assoc _ _ _
theorem ot_len : (ot os j y l).length = os.length + l.length := by
  unfold ot
  rw [List.length_append, List.length_set]
theorem ot_nth (n : Nat) : (ot os j y l)[os.length + n]? = l[n]? := by
  unfold ot
  rw [List.getElem?_append_right (by rw [List.length_set]; omega), List.length_set, Nat.add_sub_cancel_left]
theorem ot_snth (n : Nat) : (ot os j y l).set (os.length + n) x = ot os j y (l.set n x) := by
  unfold ot
  rw [List.set_append_right _ _ (by rw [List.length_set]; omega), List.length_set, Nat.add_sub_cancel_left]
theorem ot_0 : (ot os j y l)[os.length]? = l[0]? := ot_nth 0
theorem ot_s0 : (ot os j y l).set os.length x = ot os j y (l.set 0 x) := ot_snth 0
theorem ot_of (h : os[j]? = some y) : os = ot os j y [] := by
  unfold ot
  rw [List.append_nil]
  refine List.ext_getElem? fun i => ?_
  by_cases e : j = i
  · subst e
    rw [h, List.getElem?_set_self (List.getElem?_eq_some_iff.mp h).1]
  · rw [List.getElem?_set_ne e]
end
def progF (ms sds us : List Dt) (a : Nat) : List (Str × Ov) := [("_main", .d (.tup ms)), ("_sides", .d (.tup sds)), ("_unique", .d (.tup us)), ("_ahead", .o a), ("_steps", .d (.tup [cutThrow])), ("_cut_at", .d (.int 0)), ("_kinds", .d (.dct (kindsOf ms))), ("_many", .d (.int 1))]
def keysOf (ms : List Dt) : List Dt := (kindsOf ms).map fun p => keyT p.1
def okMain (ms sds us : List Dt) : Prop := pairsB ms = true ∧ plns ms = true ∧ ms.length ≤ 300 ∧ (∀ d ∈ sds, ∃ n h c, d = .tup [.str n, h, c]) ∧ ∀ u ∈ us, pln u = true ∧ dep u ≤ 60
section
variable {st : Str} {ms sds us : List Dt}
theorem lk_takes : (standF st ms sds us).lookup ("takes" : Str) = none := by
  unfold standF
  simp only [List.lookup_cons, List.lookup_nil, litS, beq_self_eq_true]
theorem lk_take : (standF st ms sds us).lookup ("take" : Str) = none := by
  unfold standF
  simp only [List.lookup_cons, List.lookup_nil, litS, beq_self_eq_true]
theorem lk_behind : (standF st ms sds us).lookup ("is_behind" : Str) = none := by
  unfold standF
  simp only [List.lookup_cons, List.lookup_nil, litS, beq_self_eq_true]
theorem lk_sbehind : (standF st ms sds us).lookup ("_stage_behind" : Str) = none := by
  unfold standF
  simp only [List.lookup_cons, List.lookup_nil, litS, beq_self_eq_true]
theorem lk_stage : (standF st ms sds us).lookup ("stage" : Str) = some (.d (.str st)) := by
  unfold standF
  simp only [List.lookup_cons, List.lookup_nil, litS, beq_self_eq_true]
theorem lk_kinds : (standF st ms sds us).lookup ("kinds" : Str) = some (.d (.dct (kindsOf ms))) := by
  unfold standF
  simp only [List.lookup_cons, List.lookup_nil, litS, beq_self_eq_true]
theorem put_stage {st' : Str} : putG "stage" (.d (.str st')) (standF st ms sds us) = standF st' ms sds us := by
  unfold standF
  simp only [putG, litS, if_false, if_true]
end
def fSteps (C CS : Addr) : FD := fun xs os Q _ => ∃ j st ms sds us, xs = [.o j, .d st] ∧ (st = .lst [cutThrow] ∨ st = .tup [cutThrow]) ∧ os[j]? = some (.ins C [("_main", .d (.tup ms)), ("_sides", .d (.tup sds)), ("_unique", .d (.tup us))]) ∧ okMain ms sds us ∧
  Q (.d .non) (ot os j (.ins C (progF ms sds us (os.length + 1))) [.ins CS (standF "cut" ms sds us), .lst [.d (.lst (keysOf ms))]])
theorem ok_Program__take_steps (T : Top K w mg) : FnOk P w K mg base (L2.CX P w) 6 T.a_Program__take_steps T.d_Program__take_steps ["self", "steps"] (spD K (zT T) 2 (fSteps T.C_Program T.C_Standing)) := by
  refine fn_dX T.F_Program__take_steps sc_Program__take_steps (fun cdv A outer s H E hr => (pss_consD (psd_if (ptd_not (ptd_tst (pd_isiT (c := .list) (c' := .tuple) (pe_callB call_isiT (by rfl) T.z_isinstance (by decide +kernel) (pa_cons (pd_var (pv 1)) (pa_cons (pe_tup (pa_cons (pe_bltn (v := .ty "list") (by rfl) T.z_list (by decide +kernel) rfl) (pa_cons (pe_bltn (v := .ty "tuple") (by rfl) T.z_tuple (by decide +kernel) rfl) pa_nil))) pa_nil)))))) (pss_oneD (psd_raise T.x_InvalidStep T.xq_InvalidStep (by decide +kernel) (ps_raise rfl takes_ok (pmk_xc T.x_InvalidStep T.iC_InvalidStep T.tI_InvalidStep (oki_InvalidStep T) (hr.mono (by decide)) T.bi_InvalidStep pass0 rfl T.mc_InvalidStep (pad_cons pd_int pad_nil))))) pss_nilD)
    (pss_consD (psd_asg (ps_asg (pd_make (pe_make (mk_Standing T) (ok_Standing___init__ T) (hr.mono (by decide)) rfl T.mc_Standing T.b_Standing___init__ .nil pass0 (pad_cons (pd_fld T.cl_Program T.n_Program__main (pe_fld (pd_var (pv 0)) rfl)) (pad_cons (pd_fld T.cl_Program T.n_Program__sides (pe_fld (pd_var (pv 0)) rfl)) (pad_cons (pd_fld T.cl_Program T.n_Program__unique (pe_fld (pd_var (pv 0)) rfl)) pad_nil))))) (pgd_name (pg_name (i := 2) sc_Program__take_steps.nd rfl (Or.inl rfl)))))
    (pss_consD (psd_fld T.cl_Program T.n_Program__ahead (ps_fld (pd_var (pv 0)) (pd_lstO pad_nil) rfl))
    (pss_consD (psd_for (passes_of rfl) rfl (pid_enumA (pi_enumA (by rfl) T.z_enumerate (pad_cons (pd_var (pv 1)) pad_nil))) (pgd_tup (n := 2) (pg_tup rfl (pgsd_cons (pgs_cons (pgd_name (pg_name (i := 3) sc_Program__take_steps.nd rfl (Or.inl rfl))) (pgsd_cons (pgs_cons (pgd_name (pg_name (i := 4) sc_Program__take_steps.nd rfl (Or.inl rfl))) pgsd_nil))))))
    (pss_consD (psd_if (ptd_not (ptd_tst (pd_methN (pe_meth (pd_var (pv 2)) T.cl_Standing T.M_Standing_takes (ok_Standing_takes T) (hr.mono (by decide)) T.b_Standing_takes .nil pass0 (pad_cons (pd_var (pv 4)) pad_nil))))) (pss_oneD (psd_raise T.x_InvalidStep T.xq_InvalidStep (by decide +kernel) (ps_raise rfl takes_ok (pmk_xc T.x_InvalidStep T.iC_InvalidStep T.tI_InvalidStep (oki_InvalidStep T) (hr.mono (by decide)) T.bi_InvalidStep pass0 rfl T.mc_InvalidStep (pad_cons (pd_var (pv 3)) pad_nil))))) pss_nilD)
    (pss_consD (psd_expr (pd_appendE (pe_bm PySem.F.plainAttrs_list PySem.F.slot_list_append PySem.F.type_list_append mt_append (pd_fld T.cl_Program T.n_Program__ahead (pe_fld (pd_var (pv 0)) rfl)) (pad_cons (pd_callTy (cd_listD rfl) (by rfl) T.z_list (by decide +kernel) (pad_cons (pd_fld T.cl_Standing T.n_Standing_kinds (pe_fld (pd_var (pv 2)) rfl)) pad_nil)) pad_nil))))
    (pss_oneD (psd_expr (pd_methN (pe_meth (pd_var (pv 2)) T.cl_Standing T.M_Standing_take (ok_Standing_take T) (hr.mono (by decide)) T.b_Standing_take .nil pass0 (pad_cons (pd_var (pv 4)) pad_nil))))))))
    (pss_consD (psd_if (ptd_w (pwd_or (ptd_cmp od_gt (pd_callB cd_len (by rfl) T.z_len (by decide +kernel) (pad_cons (pd_var (pv 1)) pad_nil)) (pd_cval T.cr_Program T.cv_Program_MOST_STEPS (fun _ => .int _) (ClX.pe_cval (pe_glob (v := .ref T.C_Program) rfl T.mc_Program rfl))) (nomark _)) (pwd_or1 (ptd_not (ptd_tst (pd_methN0 (pe_meth0 (pd_var (pv 2)) T.cl_Standing T.M_Standing_is_behind (ok_Standing_is_behind T) (hr.mono (by decide)) T.b_Standing_is_behind .nil pass0))))))) (pss_oneD (psd_raise T.x_InvalidStep T.xq_InvalidStep (by decide +kernel) (ps_raise rfl takes_ok (pmk_xc T.x_InvalidStep T.iC_InvalidStep T.tI_InvalidStep (oki_InvalidStep T) (hr.mono (by decide)) T.bi_InvalidStep pass0 rfl T.mc_InvalidStep (pad_cons (pd_callB cd_len (by rfl) T.z_len (by decide +kernel) (pad_cons (pd_var (pv 1)) pad_nil)) pad_nil))))) pss_nilD)
    (pss_consD (psd_fld T.cl_Program T.n_Program__steps (ps_fld (pd_var (pv 0)) (pd_callTy cd_tuple (by rfl) T.z_tuple (by decide +kernel) (pad_cons (pd_var (pv 1)) pad_nil)) rfl))
    (pss_consD (psd_fld T.cl_Program T.n_Program__cut_at (ps_fld (pd_var (pv 0)) (pd_indexL (pe_bm PySem.F.plainAttrs_list PySem.F.slot_list_index PySem.F.type_list_index mt_index (pd_lc (own := [("step", 4)]) (E' := E0) rfl sc_Program__take_steps.nd (pid_seq (pd_var (pv 1))) (blkOk_by (own := [("step", 4)]) (N := n_Program__take_steps) (sc := defScope s_Program__take_steps) (by decide +kernel)) (fun _ _ _ _ _ => (pgd_name (pg_name (i := 4) sc_Program__take_steps.nd rfl (Or.inl rfl)))) (fun _ _ _ _ _ => ptsd_nil) (fun _ _ _ _ _ => (pd_ix (od_ix (hu_of hr)) (pd_var (pv 4)) pd_int)) (by decide)) (pad_cons pd_str pad_nil))) rfl))
    (pss_consD (psd_fld T.cl_Program T.n_Program__kinds (ps_fld (pd_var (pv 0)) (pd_fld T.cl_Standing T.n_Standing_kinds (pe_fld (pd_var (pv 2)) rfl)) rfl))
    (pss_consD (psd_fld T.cl_Program T.n_Program__many (ps_fld (pd_var (pv 0)) pd_int rfl))
    (pss_oneD (psd_for (passes_of rfl) rfl (pid_seq (pd_sl (pd_fld T.cl_Program T.n_Program__steps (pe_fld (pd_var (pv 0)) rfl)) pod_none (pod_some (pd_fld T.cl_Program T.n_Program__cut_at (pe_fld (pd_var (pv 0)) rfl))))) (pgd_name (pg_name (i := 4) sc_Program__take_steps.nd rfl (Or.inl rfl)))
    (pss_oneD (psd_if (ptd_cmp (od_eq hr.units) (pd_ix (od_ix (hu_of hr)) (pd_var (pv 4)) pd_int) pd_str (nomark _)) (pss_oneD (psd_fld T.cl_Program T.n_Program__many (ps_fld (pd_var (pv 0)) (pd_op od_mul (pd_fld T.cl_Program T.n_Program__many (pe_fld (pd_var (pv 0)) rfl)) (pd_ix (od_ix (hu_of hr)) (pd_var (pv 4)) pd_int)) rfl))) pss_nilD)))))))))))))) (fun xs os Q Ex hn h => ?_)
  obtain ⟨j, st, ms, sds, us, rfl, hst, hj, ok, q⟩ := h
  have hjl : j < os.length := (List.getElem?_eq_some_iff.mp hj).1
  obtain ⟨o0, hl, e0⟩ : ∃ o0 : List OO, j < o0.length ∧ os = ot o0 j (.ins T.C_Program [("_main", .d (.tup ms)), ("_sides", .d (.tup sds)), ("_unique", .d (.tup us))]) [] := ⟨os, hjl, ot_of hj⟩
  have eq : ot os j (.ins T.C_Program (progF ms sds us (os.length + 1))) [.ins T.C_Standing (standF "cut" ms sds us), .lst [.d (.lst (keysOf ms))]] = ot o0 j (.ins T.C_Program (progF ms sds us (o0.length + 1))) [.ins T.C_Standing (standF "cut" ms sds us), .lst [.d (.lst (keysOf ms))]] := by
    rw [e0, ot_len]
    show ot (ot o0 j _ []) j _ _ = _
    unfold ot
    rw [List.append_nil, List.set_set]
    rfl
  rw [eq] at q
  clear eq
  subst e0
  obtain ⟨s1, e1s⟩ : ∃ s1, s1 = st := ⟨_, rfl⟩
  rcases hst with rfl | rfl
  all_goals
      sizeOf_list_dec
      simp only [ot_at hl, true_and]
      sizeOf_list_dec
      simp only [ot_app, ot_len, List.length_nil, Nat.add_zero, List.nil_append]
      refine ⟨_, ms, sds, us, rfl, by rw [ot_0]; rfl, ok, rfl, ?_⟩
      simp only [ot_s0, List.set_cons_zero, ot_app, ot_len, List.length_cons, List.length_nil, Nat.zero_add, List.cons_append, List.nil_append, ot_at hl, ot_set hl, true_and]
      refine ⟨by omega, fun _ => ?_⟩
      have en : enumL 0 [cutThrow] = [.tup [.int 0, cutThrow]] := rfl
      rw [en]
      refine for_inv (fun i sl os' => (i = 0 ∧ sl = [some (.o j), some (.d s1), some (.o o0.length), none, none] ∧ os' = ot o0 j (.ins T.C_Program [("_main", .d (.tup ms)), ("_sides", .d (.tup sds)), ("_unique", .d (.tup us)), ("_ahead", .o (o0.length + 1))]) [.ins T.C_Standing (standF "first" ms sds us), .lst []]) ∨
        (i = 1 ∧ sl = [some (.o j), some (.d s1), some (.o o0.length), some (.d (.int 0)), some (.d cutThrow)] ∧ os' = ot o0 j (.ins T.C_Program [("_main", .d (.tup ms)), ("_sides", .d (.tup sds)), ("_unique", .d (.tup us)), ("_ahead", .o (o0.length + 1))]) [.ins T.C_Standing (standF "cut" ms sds us), .lst [.d (.lst (keysOf ms))]])) (.inl ⟨rfl, by rw [e1s], rfl⟩) ?_ ?_
      · rintro i x _ _ N hx (⟨rfl, rfl, rfl⟩ | ⟨rfl, rfl, rfl⟩) hN
        · cases hx
          replace hN := hN _ _ (.inr ⟨rfl, rfl, rfl⟩)
          sizeOf_list_dec
          simp only [ot_0, List.getElem?_cons_zero, true_and]
          refine ⟨lk_takes, o0.length, _, rfl, by rw [ot_0]; rfl, lk_stage, ?_⟩
          sizeOf_list_dec
          simp only [ot_at hl, true_and]
          sizeOf_list_dec
          simp only [ot_nth, ot_0, List.getElem?_cons_zero, List.getElem?_cons_succ, true_and, lk_kinds]
          sizeOf_list_dec
          obtain ⟨o1, _, o3, _⟩ := ok
          refine ⟨kindsOf_ok (pairs_get o1), kinds_len o3, by decide, ?_⟩
          simp only [ot_snth, List.set_cons_succ, List.set_cons_zero, ot_0, List.getElem?_cons_zero, true_and]
          refine ⟨lk_take, o0.length, _, rfl, by rw [ot_0]; rfl, lk_sbehind, by show 10 < 1000; decide, ?_⟩
          rw [ot_s0, List.set_cons_zero, put_stage]
          exact hN
        · cases hx
      · rintro _ _ (⟨h, rfl, rfl⟩ | ⟨_, rfl, rfl⟩)
        · cases h
        subst e1s
        sizeOf_list_dec
        refine (if_neg (by decide)).mpr ?_
        simp only [ot_0, List.getElem?_cons_zero, true_and]
        refine ⟨lk_behind, o0.length, _, _, rfl, by rw [ot_0]; rfl, lk_stage, ?_⟩
        sizeOf_list_dec
        refine (if_neg (by decide +kernel)).mpr ?_
        simp only [ot_at hl, ot_set hl, true_and]
        sizeOf_list_dec
        refine ⟨by decide, ?_⟩
        refine lc_map (fun _ => .str "cut") (fun d hd k s hk => ?_) ?_
        · obtain rfl := List.mem_singleton.mp hd
          sizeOf_list_dec
          exact hk
        simp only [List.nil_append, List.map_cons, List.map_nil]
        have es : strsD [.str "cut"] = some [("cut" : Str)] := rfl
        rw [es, optP_some]
        refine ⟨List.mem_singleton.mpr rfl, ?_⟩
        have ei : List.idxOf ("cut" : Str) ["cut"] = 0 := List.idxOf_cons_self
        simp only [ei, ot_at hl, ot_set hl, true_and]
        sizeOf_list_dec
        refine ⟨by decide, ?_⟩
        simp only [ot_at hl, ot_set hl, ot_0, List.getElem?_cons_zero, true_and, lk_kinds]
        sizeOf_list_dec
        refine ⟨by decide, by decide, fun _ => ?_⟩
        rw [show cutD [cutThrow] none (some ((0 : Nat) : Int)) = [] from rfl]
        unfold forGo
        exact q
end
end Bl
namespace Bl
open PySem L2 De
local macro_rules | `(tactic| sizeOf_list_dec) => `(tactic| simp only [litS, litP, beq_self_eq_true, List.set_set, opMulL, fnListD, dDef, startS, dSeqS, dNext, dBrk, dCnt, dAsg, dDrop, dRet, dRetN, dIfS, dFor, dVar, dC, dNil, dCons, dOp, dFn, dTst, dAndT, dOrT, dNotT, dAnd, dOr, dNot, dIfE, dChain, dTup, dLst, dLstO, dIsi, dStar, dPart, dNoPart, dSl, dAppend, dAppV, dRng1, dRng2, dEnum, dEnumA, dZip, dCount, dCount.isSeqL, dCount.itemsL, end_at, end_set, rdd_end, dgName, dgNil, dgCons, dgTup, dSeq, dLc, dLcO, dYes, dCall, dCall0,
  rdd_d, rdds_nil, rdds_cons, asB_bl, asL_some, seq_lst, seq_tup, seq_str, ex_sl, dts, opIsN, opNotN, opEq, opNe, has_str_non, has_int_non, has_bool_non, has_list_non, has_tuple_non, has_dict_non, isN_non, notRaw_non, data_non, has_str_bl, has_int_bl, has_bool_bl, has_list_bl, has_tuple_bl, has_dict_bl, isN_bl, notRaw_bl, data_bl, has_str_int, has_int_int, has_bool_int, has_list_int, has_tuple_int, has_dict_int, isN_int, notRaw_int, data_int, has_str_str, has_int_str, has_bool_str, has_list_str, has_tuple_str, has_dict_str, isN_str, notRaw_str, data_str, has_str_lst, has_int_lst, has_bool_lst, has_list_lst, has_tuple_lst, has_dict_lst, isN_lst, notRaw_lst, data_lst, has_str_tup, has_int_tup, has_bool_tup, has_list_tup, has_tuple_tup, has_dict_tup, isN_tup, notRaw_tup, data_tup, has_str_dct, has_int_dct, has_bool_dct, has_list_dct, has_tuple_dct, has_dict_dct, isN_dct, notRaw_dct, data_dct, has_str_ins, has_int_ins, has_bool_ins, has_list_ins, has_tuple_ins, has_dict_ins, isN_ins, notRaw_ins, data_ins, has_str_raw, has_int_raw, has_bool_raw, has_list_raw, has_tuple_raw, has_dict_raw, isN_raw, notRaw_raw, data_raw, has_str_lam, has_int_lam, has_bool_lam, has_list_lam, has_tuple_lam, has_dict_lam, isN_lam, notRaw_lam, data_lam, dLam, dAllGot, keyD_int, keyD_str, add_int, add_str, add_lst, add_tup, i0_int, oi_int, in_lst, in_tup, in_dct_str, in_sign, optP_some, De.ix_lst, De.ix_tup, ix_dct_str, all_lst, atI_0, atI_1, atI_2, len_lst, len_tup, len_str, tuple_lst, tuple_tup, list_lst, list_tup, pln_non, dep_non, pln_bl, dep_bl, pln_int, dep_int, pln_str, dep_str, pln_lst, pln_tup, dep_lst, dep_tup, plns_nil, plns_cons, deps_nil, deps_cons, eqB_int, eqB_str, eqB_non_str, eqB_str_non, eqB_bl_str, eqB_str_bl, eqB_int_str, eqB_str_int, eqB_lst_str, eqB_str_lst, eqB_tup_str, eqB_str_tup, sz_0, sz_1, sz_2, sz_3, sz_4, sz_5, sz_6, sz_7, sz_8, sz_9, sz_10, sz_11, sz_12, sz_13, sz_14, lcStep, wipeS, dLenSet, isSeq, itemsD, dDc, dcStep, dFld, dFldS, dFldA, insD, InsF.look, InsF.lack, dMeth, dMethN, dProp, dMake, dMakeK, dRaise, dCallL, opTab, opInTab, dAppE, dInsE, lstAt, dIndexL, dLcK, fxVar, fxFld, putG, dFrz, dGot, dPar, int_int, int_bl, abs_int, min_int, max_int, mul_int, mul_lst, dgSub, List.lookup_cons, List.lookup_nil, Int.reduceNeg, List.map_cons, List.map_nil, List.length_cons, List.length_nil, List.replicate_succ, List.replicate_zero, List.append_nil, List.nil_append, List.cons_append, List.set_cons_zero, List.set_cons_succ,
  Option.map_some, Option.map_none, Nat.zero_add, Nat.add_zero, Nat.reduceAdd, Nat.reduceLeDiff, Nat.min_self, Nat.reduceSub, Nat.sub_self, Nat.add_one_sub_one, List.getElem?_cons_zero, List.getElem?_cons_succ, if_true, if_false, true_and, and_true, Bool.not_true, Bool.not_false, Bool.true_or, Bool.false_or, Bool.or_true, Bool.or_false, Bool.true_and, Bool.false_and, Bool.and_true, Bool.and_false, Bool.false_eq_true, reduceIte, reduceCtorEq, Bool.not_eq_true', not_true_eq_false, not_false_eq_true, exists_eq_left', exists_eq_left, exists_and_left, Option.some.injEq, Ov.o.injEq, OO.lst.injEq, Ov.d.injEq, and_self])
section
variable {P : Program} {w : World} {K : PySem.W.Frag} {mg : Str → Option Value} {base : Heap}
def sideT : Dt → Dt
  | .tup [n, h, c] => .tup [n, h, .tup (itemsD c)]
  | d => d
theorem wcol_pairs {ms : List Dt} (h : wCol ms = .non) (p : plns ms = true) : pairsB ms = true ∧ ms.length ≤ 6 ∧ ∀ d ∈ ms, tagLen d ≤ 3 := by
  unfold wCol at h
  split at h
  · cases h
  rename_i e
  split at h
  · rename_i hc
    simp only [Bool.and_eq_true, decide_eq_true_eq] at hc
    have all : ∀ d ∈ ms, colOf kinds3 d = true := fun d hd => by
      unfold firstAt at e
      obtain ⟨i, hi, rfl⟩ := List.getElem_of_mem hd
      have := List.find?_eq_none.mp e i (List.mem_range.mpr hi)
      unfold badCol at this
      rw [List.getElem?_eq_getElem hi] at this
      cases e2 : colOf kinds3 ms[i] with
      | true => rfl
      | false => simp [e2] at this
    refine ⟨List.all_eq_true.mpr fun d hd => ?_, hc.1.1.2, fun d hd => ?_⟩
    · obtain ⟨n, k, rfl, hn⟩ := colOf_get (all d hd)
      have pd := plns_mem p _ hd
      rw [pln_tup, plns_cons, plns_cons] at pd
      simp only [Bool.and_eq_true] at pd
      show (nmD n && pln k) = true
      rw [hn, pd.2.1]
      rfl
    · have hd2 := all d hd
      obtain ⟨n, k, rfl, hn⟩ := colOf_get hd2
      cases k with
      | tup ts =>
        unfold colOf at hd2
        simp only [Bool.and_eq_true, Bool.or_eq_true] at hd2
        rcases hd2.2 with h3 | h3
        · have : inD (.tup ts) kinds3 = false := by
            unfold inD
            simp only [List.any_cons, List.any_nil, eqB_str_tup, Bool.or_false]
          rw [this] at h3
          cases h3
        · unfold tagsD at h3
          simp only [Bool.and_eq_true, decide_eq_true_eq] at h3
          exact h3.2.1
      | _ => exact Nat.le_of_ble_eq_true rfl
  · cases h
theorem wside_or (ns : List Dt) (sd : Dt) : (∃ n, wSideD ns sd = .int n) ∨ wSideD ns sd = .non := by
  have go : ∀ ds, (∃ n, wSide ns ds = .int n) ∨ wSide ns ds = .non := fun ds => by
    unfold wSide
    split
    · exact .inl ⟨_, rfl⟩
    · split
      · exact .inl ⟨_, rfl⟩
      · exact .inr rfl
  cases sd with
  | lst ds => exact go ds
  | tup ds => exact go ds
  | _ => exact .inl ⟨0, rfl⟩
theorem wside_all {ns : List Dt} {sd : Dt} (h : wSideD ns sd = .non) : ∃ ds, (sd = .lst ds ∨ sd = .tup ds) ∧ ∀ d ∈ ds, sideOf d = true := by
  have go : ∀ ds, wSide ns ds = .non → ∀ d ∈ ds, sideOf d = true := fun ds h d hd => by
    unfold wSide at h
    split at h
    · cases h
    · rename_i e
      unfold firstAt at e
      obtain ⟨i, hi, rfl⟩ := List.getElem_of_mem hd
      have := List.find?_eq_none.mp e i (List.mem_range.mpr hi)
      unfold badSide at this
      rw [List.getElem?_eq_getElem hi] at this
      simp only [Bool.or_eq_true, not_or, Bool.not_eq_true', Bool.not_eq_true, Bool.not_eq_false'] at this
      cases e2 : sideOf ds[i] with
      | true => rfl
      | false => simp [e2] at this
  cases sd with
  | lst ds => exact ⟨ds, .inl rfl, go ds h⟩
  | tup ds => exact ⟨ds, .inr rfl, go ds h⟩
  | _ => cases h
theorem key_strs {ks : List (Key × Dt)} {ul : List Dt} (h : keyOf ks (.tup ul) = true) : ∀ u ∈ ul, ∃ z, u = .str z := fun u hu => by
  have e : keyOf ks (.tup ul) = (ul.isEmpty || (ul.all (inKinds ks) && (decide (ul.map txt).Nodup && ul.any fun v => isAnchor ((valD ks (.inr (txt v))).getD .non)))) := rfl
  rw [e] at h
  rcases Bool.or_eq_true_iff.mp h with h | h
  · rw [List.isEmpty_iff.mp h] at hu
    cases hu
  · have := List.all_eq_true.mp (Bool.and_eq_true_iff.mp h).1 u hu
    cases u with
    | str z => exact ⟨z, rfl⟩
    | _ => cases this
theorem ot_ot {os : List OO} {j : Nat} {y z : OO} {l : List OO} : ot (ot os j y []) j z l = ot os j z l := by
  unfold ot
  rw [List.append_nil, List.set_set]
section
variable {ms sds us : List Dt} {a : Nat}
theorem lp_main : (progF ms sds us a).lookup ("_main" : Str) = some (.d (.tup ms)) := by
  unfold progF
  simp only [List.lookup_cons, List.lookup_nil, litP, beq_self_eq_true]
theorem lp_steps : (progF ms sds us a).lookup ("_steps" : Str) = some (.d (.tup [cutThrow])) := by
  unfold progF
  simp only [List.lookup_cons, List.lookup_nil, litP, beq_self_eq_true]
theorem lp_sides : (progF ms sds us a).lookup ("_sides" : Str) = some (.d (.tup sds)) := by
  unfold progF
  simp only [List.lookup_cons, List.lookup_nil, litP, beq_self_eq_true]
end
/-- what comes behind a right main table -/
def ProgB (C CS : Addr) (os : List OO) (j : Nat) (ms : List Dt) (st sd us : Dt) (Q : Ov → List OO → Prop) (Ex : Exn → List OO → Prop) : Prop :=
  (plns ms = true ∧ pln sd = true ∧ pln us = true ∧ (itemsD us).length ≤ 300 ∧ (itemsD sd).length ≤ 300) ∧
  match wSideD (ms.map item0) sd with
  | .int n => Ex (("InvalidSide", ["at"]), [.int n]) (ot os j (.ins C [("_main", .d (.tup ms))]) [])
  | _ => if keyOf (kindsOf ms) us = false then Ex (("InvalidKey", ["given"]), [us]) (ot os j (.ins C [("_main", .d (.tup ms)), ("_sides", .d (.tup ((itemsD sd).map sideT)))]) [])
    else ∃ ul, us = .tup ul ∧ (st = .lst [cutThrow] ∨ st = .tup [cutThrow]) ∧ prodT ms ≤ 24 ∧ Q (.d .non) (ot os j (.ins C (progF ms ((itemsD sd).map sideT) ul (os.length + 1))) [.ins CS (standF "cut" ms ((itemsD sd).map sideT) ul), .lst [.d (.lst (keysOf ms))]])
def fProg (C CS : Addr) : FD := fun xs os Q Ex => ∃ j md st sd us, xs = [.o j, .d md, .d st, .d sd, .d us] ∧ os[j]? = some (.ins C []) ∧ pln md = true ∧
  match wColD md with
  | .int n => Ex (("InvalidColumn", ["at"]), [.int n]) (ot os j (.ins C []) [])
  | _ => ProgB C CS os j (itemsD md) st sd us Q Ex
theorem wcol_or (md : Dt) : (∃ n, wColD md = .int n) ∨ (wColD md = .non ∧ wCol (itemsD md) = .non ∧ ∃ ms, md = .lst ms ∨ md = .tup ms) := by
  have go : ∀ ms, (∃ n, wCol ms = .int n) ∨ wCol ms = .non := fun ms => by
    unfold wCol
    split
    · exact .inl ⟨_, rfl⟩
    · split
      · exact .inr rfl
      · exact .inl ⟨_, rfl⟩
  cases md with
  | lst ms => exact (go ms).imp id fun h => ⟨h, h, ms, .inl rfl⟩
  | tup ms => exact (go ms).imp id fun h => ⟨h, h, ms, .inr rfl⟩
  | _ => exact .inl ⟨0, rfl⟩
theorem ok_Program___init__ (T : Top K w mg) : FnOk P w K mg base (L2.CX P w) 7 T.a_Program___init__ T.d_Program___init__ ["self", "main", "steps", "sides", "unique"] (spD K (zT T) 5 (fProg T.C_Program T.C_Standing)) := by
  refine fn_dX T.F_Program___init__ sc_Program___init__ (fun cdv A outer s H E hr => (pss_consD (psd_asg (ps_asg (pd_call0 (pe_call (ok_wrong_column T) (hr.mono (by decide)) rfl T.m_wrong_column T.F_wrong_column.kp T.b_wrong_column .nil pass0 (pad_cons (pd_var (pv 1)) pad_nil))) (pgd_name (pg_name (i := 5) sc_Program___init__.nd rfl (Or.inl rfl)))))
    (pss_consD (psd_if (ptd_cmp od_notN (pd_var (pv 5)) pd_non (nomark _)) (pss_oneD (psd_raise T.x_InvalidColumn T.xq_InvalidColumn (by decide +kernel) (ps_raise rfl takes_ok (pmk_xc T.x_InvalidColumn T.iC_InvalidColumn T.tI_InvalidColumn (oki_InvalidColumn T) (hr.mono (by decide)) T.bi_InvalidColumn pass0 rfl T.mc_InvalidColumn (pad_cons (pd_var (pv 5)) pad_nil))))) pss_nilD)
    (pss_consD (psd_fld T.cl_Program T.n_Program__main (ps_fld (pd_var (pv 0)) (pd_callTy cd_tuple (by rfl) T.z_tuple (by decide +kernel) (pad_cons (pd_var (pv 1)) pad_nil)) rfl))
    (pss_consD (psd_asg (ps_asg (pd_call0 (pe_call (ok_wrong_side T) (hr.mono (by decide)) rfl T.m_wrong_side T.F_wrong_side.kp T.b_wrong_side .nil pass0 (pad_cons (pd_var (pv 3)) (pad_cons (pd_var (pv 1)) pad_nil)))) (pgd_name (pg_name (i := 5) sc_Program___init__.nd rfl (Or.inl rfl)))))
    (pss_consD (psd_if (ptd_cmp od_notN (pd_var (pv 5)) pd_non (nomark _)) (pss_oneD (psd_raise T.x_InvalidSide T.xq_InvalidSide (by decide +kernel) (ps_raise rfl takes_ok (pmk_xc T.x_InvalidSide T.iC_InvalidSide T.tI_InvalidSide (oki_InvalidSide T) (hr.mono (by decide)) T.bi_InvalidSide pass0 rfl T.mc_InvalidSide (pad_cons (pd_var (pv 5)) pad_nil))))) pss_nilD)
    (pss_consD (psd_fld T.cl_Program T.n_Program__sides (ps_fld (pd_var (pv 0)) (pd_callTy cd_tuple (by rfl) T.z_tuple (by decide +kernel) (pad_cons (pd_lc (own := [("name", 6), ("how", 7), ("columns", 8)]) (E' := E0) rfl sc_Program___init__.nd (pid_seq (pd_var (pv 3))) (blkOk_by (own := [("name", 6), ("how", 7), ("columns", 8)]) (N := n_Program___init__) (sc := defScope s_Program___init__) (by decide +kernel)) (fun _ _ _ _ _ => (pgd_tup (n := 3) (pg_tup rfl (pgsd_cons (pgs_cons (pgd_name (pg_name (i := 6) sc_Program___init__.nd rfl (Or.inl rfl))) (pgsd_cons (pgs_cons (pgd_name (pg_name (i := 7) sc_Program___init__.nd rfl (Or.inl rfl))) (pgsd_cons (pgs_cons (pgd_name (pg_name (i := 8) sc_Program___init__.nd rfl (Or.inl rfl))) pgsd_nil))))))))) (fun _ _ _ _ _ => ptsd_nil) (fun _ _ _ _ _ => (pd_tup (pad_cons (pd_var (pv 6)) (pad_cons (pd_var (pv 7)) (pad_cons (pd_callTy cd_tuple (by rfl) T.z_tuple (by decide +kernel) (pad_cons (pd_var (pv 8)) pad_nil)) pad_nil))))) (by decide)) pad_nil)) rfl))
    (pss_consD (psd_if (ptd_not (ptd_tst (pd_call0 (pe_call (ok_is_key T) (hr.mono (by decide)) rfl T.m_is_key T.F_is_key.kp T.b_is_key .nil pass0 (pad_cons (pd_var (pv 4)) (pad_cons (pd_var (pv 1)) pad_nil)))))) (pss_oneD (psd_raise T.x_InvalidKey T.xq_InvalidKey (by decide +kernel) (ps_raise rfl takes_ok (pmk_xc T.x_InvalidKey T.iC_InvalidKey T.tI_InvalidKey (oki_InvalidKey T) (hr.mono (by decide)) T.bi_InvalidKey pass0 rfl T.mc_InvalidKey (pad_cons (pd_var (pv 4)) pad_nil))))) pss_nilD)
    (pss_consD (psd_fld T.cl_Program T.n_Program__unique (ps_fld (pd_var (pv 0)) (pd_var (pv 4)) rfl))
    (pss_consD (psd_expr (pd_meth (pe_meth (pd_var (pv 0)) T.cl_Program T.M_Program__take_steps (ok_Program__take_steps T) (hr.mono (by decide)) T.b_Program__take_steps .nil passes_ok (pad_cons (pd_var (pv 2)) pad_nil))))
    (pss_oneD (psd_if (ptd_cmp od_gt (pd_call0 (pe_call (ok_count_looks T) (hr.mono (by decide)) rfl T.m_count_looks T.F_count_looks.kp T.b_count_looks .nil pass0 (pad_cons (pd_fld T.cl_Program T.n_Program__main (pe_fld (pd_var (pv 0)) rfl)) (pad_cons (pd_fld T.cl_Program T.n_Program__steps (pe_fld (pd_var (pv 0)) rfl)) (pad_cons (pd_fld T.cl_Program T.n_Program__sides (pe_fld (pd_var (pv 0)) rfl)) pad_nil))))) (pd_cval T.cr_Program T.cv_Program_MOST_LOOKS (fun _ => .int _) (ClX.pe_cval (pe_glob (v := .ref T.C_Program) rfl T.mc_Program rfl))) (nomark _)) (pss_oneD (psd_raise T.x_TooMany T.xq_TooMany (by decide +kernel) (ps_raise rfl takes_ok (pmk_xc T.x_TooMany T.iC_TooMany T.tI_TooMany (oki_TooMany T) (hr.mono (by decide)) T.bi_TooMany pass0 rfl T.mc_TooMany (pad_cons (pd_cval T.cr_Program T.cv_Program_MOST_LOOKS (fun _ => .int _) (ClX.pe_cval (pe_glob (v := .ref T.C_Program) rfl T.mc_Program rfl))) pad_nil))))) pss_nilD)))))))))))) (fun xs os Q Ex hn h => ?_)
  obtain ⟨j, md, st, sd, us, rfl, hj, pmd, q⟩ := h
  have hjl : j < os.length := (List.getElem?_eq_some_iff.mp hj).1
  rcases wcol_or md with ⟨n, en⟩ | ⟨en, hm, ms, hms⟩
  · rw [en] at q
    sizeOf_list_dec
    refine ⟨pmd, ?_⟩
    rw [en]
    sizeOf_list_dec
    rw [show os = ot os j (.ins T.C_Program []) [] from ot_of hj]
    exact q
  rw [en] at q
  have ems : itemsD md = ms := by rcases hms with rfl | rfl <;> rfl
  rw [ems] at hm
  replace q : ProgB T.C_Program T.C_Standing os j (itemsD md) st sd us Q Ex := q
  rw [ems] at q
  obtain ⟨⟨pm, ps, pu, hlu, hls⟩, q⟩ := q
  obtain ⟨hp, h6, ht⟩ := wcol_pairs hm pm
  obtain ⟨o0, hl, e0⟩ : ∃ o0 : List OO, j < o0.length ∧ os = ot o0 j (.ins T.C_Program []) [] := ⟨os, hjl, ot_of hj⟩
  have eq : ∀ y l, ot os j y l = ot o0 j y l := fun y l => by
    rw [e0]
    unfold ot
    rw [List.append_nil, List.set_set]
  simp only [eq] at q
  have el : os.length = o0.length := by rw [e0, ot_len]; rfl
  rw [el] at q
  clear eq el hj hjl
  subst e0
  rcases hms with rfl | rfl
  all_goals
    sizeOf_list_dec
    refine ⟨pmd, ?_⟩
    rw [en]
    sizeOf_list_dec
    simp only [ot_at hl, ot_set hl, true_and]
    sizeOf_list_dec
    refine ⟨by decide, ⟨ps, rfl, hp, pmd, by
      show ms.length + _ ≤ sizeLine
      exact Nat.le_trans (by omega : _ ≤ 306) (by decide)⟩, ?_⟩
    simp only [itemsD]
    rcases wside_or (ms.map item0) sd with ⟨n, e1⟩ | e1
    · rw [e1] at q ⊢
      sizeOf_list_dec
      exact q
    rw [e1] at q ⊢
    obtain ⟨ds, esd, hsd⟩ := wside_all e1
    sizeOf_list_dec
    have q2 : if keyOf (kindsOf ms) us = false then Ex (("InvalidKey", ["given"]), [us]) (ot o0 j (.ins T.C_Program [("_main", .d (.tup ms)), ("_sides", .d (.tup (ds.map sideT)))]) [])
      else ∃ ul, us = .tup ul ∧ (st = .lst [cutThrow] ∨ st = .tup [cutThrow]) ∧ prodT ms ≤ 24 ∧ Q (.d .non) (ot o0 j (.ins T.C_Program (progF ms (ds.map sideT) ul (o0.length + 1))) [.ins T.C_Standing (standF "cut" ms (ds.map sideT) ul), .lst [.d (.lst (keysOf ms))]]) := by
      rcases esd with rfl | rfl <;> exact q
    clear q
    have seq : ∀ (os : List OO) (k : List Dt → List OO → Prop), k ds os → seqD os (.d sd) k := fun os k q => by
      rcases esd with rfl | rfl <;> exact q
    refine seq _ _ ?_
    refine lc_map sideT (fun d hd k s hk => ?_) ?_
    · obtain ⟨n, h, c, rfl, _, _, hc⟩ := sideOf_get (hsd d hd)
      sizeOf_list_dec
      cases c with
      | lst cs => exact hk
      | tup cs => exact hk
      | _ => cases hc
    sizeOf_list_dec
    simp only [ot_at hl, ot_set hl, true_and]
    sizeOf_list_dec
    refine ⟨by decide, ⟨pu, rfl, hp, pmd, hlu⟩, ?_⟩
    simp only [itemsD]
    sizeOf_list_dec
    cases ek : keyOf (kindsOf ms) us with
    | false =>
      rw [ek, if_pos rfl] at q2
      sizeOf_list_dec
      exact q2
    | true =>
      rw [ek, if_neg (by decide)] at q2
      obtain ⟨ul, rfl, hst, hpr, q⟩ := q2
      clear seq
      sizeOf_list_dec
      simp only [ot_at hl, ot_set hl, true_and]
      sizeOf_list_dec
      refine ⟨by decide, j, st, ms, ds.map sideT, ul, rfl, hst, ot_at hl, ⟨hp, pm, by omega, fun d hd => ?_, fun u hu => ?_⟩, ?_⟩
      · obtain ⟨d', hd', rfl⟩ := List.mem_map.mp hd
        obtain ⟨n, h, c, rfl, hn', _, _⟩ := sideOf_get (hsd d' hd')
        rw [nm_txt hn']
        exact ⟨_, _, _, rfl⟩
      · obtain ⟨z, rfl⟩ := key_strs ek u hu
        exact ⟨pln_str, by rw [dep_str]; decide⟩
      rw [ot_ot, ot_len]
      have sdsok : ∀ d ∈ ds.map sideT, ∃ n h c, d = .tup [.str n, h, c] := fun d hd => by
        obtain ⟨d', hd', rfl⟩ := List.mem_map.mp hd
        obtain ⟨n, h, c, rfl, hn', _, _⟩ := sideOf_get (hsd d' hd')
        rw [nm_txt hn']
        exact ⟨_, _, _, rfl⟩
      simp only [ot_at hl, true_and, lp_main, lp_steps, lp_sides, optP_some]
      refine ⟨ms, _, rfl, ⟨hp, by omega, ht, sdsok⟩, ?_⟩
      sizeOf_list_dec
      refine (if_neg ?_).mpr q
      simp only [decide_eq_true_eq]
      omega
end
end Bl
namespace Bl
open PySem L2 De
local macro_rules | `(tactic| sizeOf_list_dec) => `(tactic| simp only [litS, litP, beq_self_eq_true, List.set_set, opMulL, fnListD, dDef, startS, dSeqS, dNext, dBrk, dCnt, dAsg, dDrop, dRet, dRetN, dIfS, dFor, dVar, dC, dNil, dCons, dOp, dFn, dTst, dAndT, dOrT, dNotT, dAnd, dOr, dNot, dIfE, dChain, dTup, dLst, dLstO, dIsi, dStar, dPart, dNoPart, dSl, dAppend, dAppV, dRng1, dRng2, dEnum, dEnumA, dZip, dCount, dCount.isSeqL, dCount.itemsL, end_at, end_set, rdd_end, dgName, dgNil, dgCons, dgTup, dSeq, dLc, dLcO, dYes, dCall, dCall0,
  rdd_d, rdds_nil, rdds_cons, asB_bl, asL_some, seq_lst, seq_tup, seq_str, ex_sl, dts, opIsN, opNotN, opEq, opNe, has_str_non, has_int_non, has_bool_non, has_list_non, has_tuple_non, has_dict_non, isN_non, notRaw_non, data_non, has_str_bl, has_int_bl, has_bool_bl, has_list_bl, has_tuple_bl, has_dict_bl, isN_bl, notRaw_bl, data_bl, has_str_int, has_int_int, has_bool_int, has_list_int, has_tuple_int, has_dict_int, isN_int, notRaw_int, data_int, has_str_str, has_int_str, has_bool_str, has_list_str, has_tuple_str, has_dict_str, isN_str, notRaw_str, data_str, has_str_lst, has_int_lst, has_bool_lst, has_list_lst, has_tuple_lst, has_dict_lst, isN_lst, notRaw_lst, data_lst, has_str_tup, has_int_tup, has_bool_tup, has_list_tup, has_tuple_tup, has_dict_tup, isN_tup, notRaw_tup, data_tup, has_str_dct, has_int_dct, has_bool_dct, has_list_dct, has_tuple_dct, has_dict_dct, isN_dct, notRaw_dct, data_dct, has_str_ins, has_int_ins, has_bool_ins, has_list_ins, has_tuple_ins, has_dict_ins, isN_ins, notRaw_ins, data_ins, has_str_raw, has_int_raw, has_bool_raw, has_list_raw, has_tuple_raw, has_dict_raw, isN_raw, notRaw_raw, data_raw, has_str_lam, has_int_lam, has_bool_lam, has_list_lam, has_tuple_lam, has_dict_lam, isN_lam, notRaw_lam, data_lam, dLam, dAllGot, keyD_int, keyD_str, add_int, add_str, add_lst, add_tup, i0_int, oi_int, in_lst, in_tup, in_dct_str, in_sign, optP_some, De.ix_lst, De.ix_tup, ix_dct_str, all_lst, atI_0, atI_1, atI_2, len_lst, len_tup, len_str, tuple_lst, tuple_tup, list_lst, list_tup, pln_non, dep_non, pln_bl, dep_bl, pln_int, dep_int, pln_str, dep_str, pln_lst, pln_tup, dep_lst, dep_tup, plns_nil, plns_cons, deps_nil, deps_cons, eqB_int, eqB_str, eqB_non_str, eqB_str_non, eqB_bl_str, eqB_str_bl, eqB_int_str, eqB_str_int, eqB_lst_str, eqB_str_lst, eqB_tup_str, eqB_str_tup, sz_0, sz_1, sz_2, sz_3, sz_4, sz_5, sz_6, sz_7, sz_8, sz_9, sz_10, sz_11, sz_12, sz_13, sz_14, lcStep, wipeS, dLenSet, isSeq, itemsD, dDc, dcStep, dFld, dFldS, dFldA, insD, InsF.look, InsF.lack, dMeth, dMethN, dProp, dMake, dMakeK, dRaise, dCallL, opTab, opInTab, dAppE, dInsE, lstAt, dIndexL, dLcK, fxVar, fxFld, putG, dFrz, dGot, dPar, int_int, int_bl, abs_int, min_int, max_int, mul_int, mul_lst, dgSub, List.lookup_cons, List.lookup_nil, Int.reduceNeg, List.map_cons, List.map_nil, List.length_cons, List.length_nil, List.replicate_succ, List.replicate_zero, List.append_nil, List.nil_append, List.cons_append, List.set_cons_zero, List.set_cons_succ,
  Option.map_some, Option.map_none, Nat.zero_add, Nat.add_zero, Nat.reduceAdd, Nat.reduceLeDiff, Nat.min_self, Nat.reduceSub, Nat.sub_self, Nat.add_one_sub_one, List.getElem?_cons_zero, List.getElem?_cons_succ, if_true, if_false, true_and, and_true, Bool.not_true, Bool.not_false, Bool.true_or, Bool.false_or, Bool.or_true, Bool.or_false, Bool.true_and, Bool.false_and, Bool.and_true, Bool.and_false, Bool.false_eq_true, reduceIte, reduceCtorEq, Bool.not_eq_true', not_true_eq_false, not_false_eq_true, exists_eq_left', exists_eq_left, exists_and_left, Option.some.injEq, Ov.o.injEq, OO.lst.injEq, Ov.d.injEq, and_self])
abbrev n_Program_main : List Str := ["self"]
theorem sc_Program_main : FnScope n_Program_main ["self"] (defScope s_Program_main) := ⟨rfl, rfl, rfl, by decide +kernel, rfl, by decide +kernel, by decide +kernel⟩
section
variable {P : Program} {w : World} {K : PySem.W.Frag} {mg : Str → Option Value} {base : Heap}
def fPMain (C : Addr) : FD := fun xs os Q _ => ∃ j ms sds us a, xs = [.o j] ∧ os[j]? = some (.ins C (progF ms sds us a)) ∧ Q (.d (.tup ms)) os
theorem ok_Program_main (T : Top K w mg) : FnOk P w K mg base CX0 1 T.a_Program_main T.d_Program_main ["self"] (spD K (zT T) 1 (fPMain T.C_Program)) := by
  refine fn_d T.F_Program_main sc_Program_main (fun cdv A outer s H E hr => (pss_oneD (psd_ret (pd_fld T.cl_Program T.n_Program__main (pe_fld (pd_var (pv 0)) rfl))))) (fun xs os Q Ex hn h => ?_)
  obtain ⟨j, ms, sds, us, a, rfl, hj, q⟩ := h
  sizeOf_list_dec
  simp only [hj, true_and, lp_main]
  sizeOf_list_dec
  exact q
end
end Bl
namespace Bl
open PySem L2 De
section
variable {K : PySem.W.Frag} {w : World} {mg : Str → Option Value}
abbrev psProgram : List Str := ["self", "main", "steps", "sides", "unique"]
theorem mk_Program (T : Top K w mg) : Mk K T.C_Program T.a_Program___init__ := ⟨T.mk_Program, T.M_Program___init__.at_, T.M_Program___init__.fn, T.kp_Program⟩
theorem kb_Program_unique (T : Top K w mg) : ∃ u, KBn K T.d_Program___init__ psProgram 3 ["unique"] (fun us ws => us ++ (u ++ ws)) (fun vs zs => vs ++ ([V.ref T.e_sides] ++ zs)) := by
  obtain ⟨mv, h⟩ := T.fd_Program.kbinds0 (ps := psProgram) 3 ["unique"] [("sides", V.ref T.e_sides)] (fun us mv ws => us ++ (mv ++ ws)) (by simp) (fun q hq => by
    rw [List.mem_singleton.mp hq]
    exact List.mem_cons_self) (fun r1 r2 r3 => r1.append (r2.append r3)) fun D doc pm an cdv ct us mv ws h1 h2 h3 => by
    match us, mv, ws, h1, h2, h3 with
    | [a, b, c], [m], [x], _, _, _ => exact ⟨_, _, _, _, _, _, rfl, rfl, rfl⟩
  exact ⟨mv, h⟩
abbrev tup0 : Ov := .d (.tup [])
theorem ov_tup0 {G : Hp} {ρ : List Addr} {a : Addr} (h : ∀ H : Hp, SqT K H a []) : OvR K G ρ (V.ref a) tup0 := Rep.tup (h G) .nil (Nat.zero_le _)
theorem kg_Program_unique (T : Top K w mg) {n m : Nat} : ∀ (G : Hp) (ρ : List Addr) (vs zs : List V) (xs ys : List Ov), Paired (OvR K G ρ) vs xs → Paired (OvR K G ρ) zs ys → vs.length = n → zs.length = m → Paired (OvR K G ρ) (vs ++ ([V.ref T.e_sides] ++ zs)) (xs ++ ([tup0] ++ ys)) :=
  fun _ _ _ _ _ _ h k _ _ => pair_app h (pair_app (.cons (ov_tup0 T.et_sides) .nil) k)
theorem kb_Program_ (T : Top K w mg) : ∃ u, KBn K T.d_Program___init__ psProgram 3 [] (fun us ws => us ++ (ws ++ u)) (fun vs zs => vs ++ (zs ++ [V.ref T.e_sides, V.ref T.e_unique])) := by
  obtain ⟨mv, h⟩ := T.fd_Program.kbinds0 (ps := psProgram) 3 [] [("sides", V.ref T.e_sides), ("unique", V.ref T.e_unique)] (fun us mv ws => us ++ (ws ++ mv)) (by simp) (fun q hq => hq) (fun r1 r2 r3 => r1.append (r3.append r2)) fun D doc pm an cdv ct us mv ws h1 h2 h3 => by
    match us, mv, ws, h1, h2, h3 with
    | [a, b, c], [m, n], [], _, _, _ => exact ⟨_, _, _, _, _, _, rfl, rfl, ⟨_, _, _, _, _, _, rfl, rfl, rfl⟩⟩
  exact ⟨mv, h⟩
theorem kg_Program_ (T : Top K w mg) {n m : Nat} : ∀ (G : Hp) (ρ : List Addr) (vs zs : List V) (xs ys : List Ov), Paired (OvR K G ρ) vs xs → Paired (OvR K G ρ) zs ys → vs.length = n → zs.length = m → Paired (OvR K G ρ) (vs ++ (zs ++ [V.ref T.e_sides, V.ref T.e_unique])) (xs ++ (ys ++ [tup0, tup0])) :=
  fun _ _ _ _ _ _ h k _ _ => pair_app h (pair_app k (.cons (ov_tup0 T.et_sides) (.cons (ov_tup0 T.et_unique) .nil)))
theorem kb_Program_main_steps_sides (T : Top K w mg) : ∃ u, KBn K T.d_Program___init__ psProgram 1 ["main", "steps", "sides"] (fun us ws => us ++ (ws ++ u)) (fun vs zs => vs ++ (zs ++ [V.ref T.e_unique])) := by
  obtain ⟨mv, h⟩ := T.fd_Program.kbinds0 (ps := psProgram) 1 ["main", "steps", "sides"] [("unique", V.ref T.e_unique)] (fun us mv ws => us ++ (ws ++ mv)) (by simp) (fun q hq => by
    rw [List.mem_singleton.mp hq]
    exact List.mem_cons_of_mem _ List.mem_cons_self) (fun r1 r2 r3 => r1.append (r3.append r2)) fun D doc pm an cdv ct us mv ws h1 h2 h3 => by
    match us, mv, ws, h1, h2, h3 with
    | [a], [m], [x, y, z], _, _, _ => exact ⟨_, _, _, _, _, _, rfl, rfl, rfl⟩
  exact ⟨mv, h⟩
theorem kg_Program_main_steps_sides (T : Top K w mg) {n m : Nat} : ∀ (G : Hp) (ρ : List Addr) (vs zs : List V) (xs ys : List Ov), Paired (OvR K G ρ) vs xs → Paired (OvR K G ρ) zs ys → vs.length = n → zs.length = m → Paired (OvR K G ρ) (vs ++ (zs ++ [V.ref T.e_unique])) (xs ++ (ys ++ [tup0])) :=
  fun _ _ _ _ _ _ h k _ _ => pair_app h (pair_app k (.cons (ov_tup0 T.et_unique) .nil))
end
end Bl
namespace Bl
open PySem L2 De
section
variable {P : Program} {w : World} {K : PySem.W.Frag} {mg : Str → Option Value} {base : Heap}
theorem ok_pullD (T : Top K w mg) : FnOk P w K mg base CX0 1 T.a_pull T.d_pull ["_law_box_here", "_law_many"] (spD K (zT T) 2 fPull) := (ok_pull T).imp fun vs H Q E h => pull_imp vs H Q E h
theorem ok_ofD (T : Top K w mg) : FnOk P w K mg base CX0 2 T.a_of T.d_of ["_law_box_here", "_law_some"] (spD K (zT T) 2 fOf) := (ok_of T).imp fun vs H Q E h => of_imp vs H Q E h
theorem ok_namesD (T : Top K w mg) : FnOk P w K mg base CX0 3 T.a_names T.d_names ["_law_box_here", "_law_many"] (spD K (zT T) 2 fNames) := (ok_names T).imp fun vs H Q E h => names_imp vs H Q E h
theorem ok_sameD (T : Top K w mg) (n : Nat) : FnOk P w K mg base CX0 n T.a_same T.d_same ["_law_found", "_law_due"] (spD K (zT T) 2 (fSame n)) := (ok_same T n).imp fun vs H Q E h => same_imp vs H Q E h
end
end Bl
namespace Bl
open PySem L2 De
abbrev n_field : List Str := ["_law_e"]
theorem sc_field : FnScope n_field ["_law_e"] (defScope s_field) := ⟨rfl, rfl, rfl, by decide +kernel, rfl, by decide +kernel, by decide +kernel⟩
section
variable {P : Program} {w : World} {K : PySem.W.Frag} {mg : Str → Option Value} {base : Heap}
theorem okh_field (T : Top K w mg) : FnP P w K mg base 1 T.a_field T.d_field ["_law_e"] (spFieldR K) := by
  refine okP T.F_field sc_field (fun a cls d vs H Q E h => ?_) (fun cdv A outer s H vs Q p cls d hz hf hr h => ?_)
  · obtain ⟨r, ys, rfl, _⟩ := h
    rfl
  obtain ⟨r, ys, rfl, h, k⟩ := h
  obtain ⟨C, dd, rfl, rfl, X, N, hrow, h5, h4⟩ := h.ex
  have tb := List.all_eq_true.mp fieldR_all r hrow
  unfold fieldR oneR twoR at tb
  clear h
  refine ⟨_, (pss_cons (ps_if (pt_cmpR op_in_seq (pe_xp (p := p) (List.mem_singleton.mpr rfl) hz hf (pv 0)) (pe_lst (pa_cons pe_str (pa_cons pe_str (pa_cons pe_str (pa_cons pe_str (pa_cons pe_str (pa_cons pe_str (pa_cons pe_str pa_nil)))))))) rfl) (pss_one (ps_ret (pe_xp (p := p) (List.mem_singleton.mpr rfl) hz hf (pv 0)))) pss_nil)
    (pss_cons (ps_if (pt_cmpR op_in_seq (pe_xp (p := p) (List.mem_singleton.mpr rfl) hz hf (pv 0)) (pe_lst (pa_cons pe_str (pa_cons pe_str (pa_cons pe_str (pa_cons pe_str pa_nil))))) rfl) (pss_one (ps_ret (pe_xp (p := p) (List.mem_singleton.mpr rfl) hz hf (pv 0)))) pss_nil)
    (pss_cons (ps_if (pt_cmpR op_eq (pe_xp (p := p) (List.mem_singleton.mpr rfl) hz hf (pv 0)) pe_str (nomark _)) (pss_one (ps_ret (pe_tup (pa_cons (pe_xp (p := p) (List.mem_singleton.mpr rfl) hz hf (pv 0)) (pa_cons (pe_xp (p := p) (List.mem_singleton.mpr rfl) hz hf (pv 0)) pa_nil))))) pss_nil)
    (pss_cons (ps_if (pt_cmpR op_eq (pe_xp (p := p) (List.mem_singleton.mpr rfl) hz hf (pv 0)) pe_str (nomark _)) (pss_one (ps_ret (pe_tup (pa_cons (pe_xp (p := p) (List.mem_singleton.mpr rfl) hz hf (pv 0)) (pa_cons (pe_xp (p := p) (List.mem_singleton.mpr rfl) hz hf (pv 0)) pa_nil))))) pss_nil)
    (pss_cons (ps_if (pt_cmpR op_in_seq (pe_xp (p := p) (List.mem_singleton.mpr rfl) hz hf (pv 0)) (pe_lst (pa_cons pe_str (pa_cons pe_str (pa_cons pe_str pa_nil)))) rfl) (pss_one (ps_ret (pe_xp (p := p) (List.mem_singleton.mpr rfl) hz hf (pv 0)))) pss_nil)
    (pss_cons (ps_if (pt_cmpR op_in_seq (pe_xp (p := p) (List.mem_singleton.mpr rfl) hz hf (pv 0)) (pe_lst (pa_cons pe_str (pa_cons pe_str pa_nil))) rfl) (pss_one (ps_ret (pe_xp (p := p) (List.mem_singleton.mpr rfl) hz hf (pv 0)))) pss_nil)
    (pss_cons (ps_if (pt_cmpR op_eq (pe_xp (p := p) (List.mem_singleton.mpr rfl) hz hf (pv 0)) pe_str (nomark _)) (pss_one (ps_ret (pe_xp (p := p) (List.mem_singleton.mpr rfl) hz hf (pv 0)))) pss_nil)
    (pss_cons (ps_if (pt_cmpR op_eq (pe_xp (p := p) (List.mem_singleton.mpr rfl) hz hf (pv 0)) pe_str (nomark _)) (pss_one (ps_ret (pe_xp (p := p) (List.mem_singleton.mpr rfl) hz hf (pv 0)))) pss_nil)
    (pss_one (ps_ret (pe_ifExp (pt_cmpR op_eq (pe_xp (p := p) (List.mem_singleton.mpr rfl) hz hf (pv 0)) pe_str (nomark _)) (pe_xp (p := p) (List.mem_singleton.mpr rfl) hz hf (pv 0)) pe_non))))))))))), ?_⟩
  refine ⟨_, rfl, C, dd, _, _, rfl, rfl, rfl, X, N.code, h4, rfl, (by show 7 ≤ sizeLine; decide), fun p1 q1 => ?_⟩
  have e1 := same_new q1 (.lst [.str "InvalidName", .str "InvalidKey", .str "InvalidTest", .str "InvalidThing", .str "InvalidSetting", .str "InvalidWord", .str "InvalidNumber"])
  replace h4 := e1 _ _ h4
  replace k := fun v H' (e : Same _ H') f => k v H' (e1.trans e) (FieldR.back e1 f)
  refine ⟨p1, [.str "InvalidName", .str "InvalidKey", .str "InvalidTest", .str "InvalidThing", .str "InvalidSetting", .str "InvalidWord", .str "InvalidNumber"], rfl, .inl (SqL.of upd_same), rfl, rfl, _, rfl, ?_⟩
  refine ite2 (fun c => ?_) (fun c => ?_)
  · rw [if_pos (show inV (.str r.1) l1 = true from c)] at tb
    have tb := of_decide_eq_true tb
    obtain ⟨y, rfl⟩ := one_of h5 tb
    exact ⟨_, rfl, C, dd, _, y, rfl, rfl, rfl, X, nof_one N tb, h4, lk_one tb (by decide +kernel), k _ _ (Same.refl _) rfl⟩
  rw [if_neg (show ¬ inV (.str r.1) l1 = true from c)] at tb
  clear c
  refine ⟨_, rfl, C, dd, _, _, rfl, rfl, rfl, X, N.code, h4, rfl, (by show 4 ≤ sizeLine; decide), fun p1 q1 => ?_⟩
  have e1 := same_new q1 (.lst [.str "InvalidColumn", .str "InvalidSide", .str "InvalidStep", .str "InvalidCommand"])
  replace h4 := e1 _ _ h4
  replace k := fun v H' (e : Same _ H') f => k v H' (e1.trans e) (FieldR.back e1 f)
  refine ⟨p1, [.str "InvalidColumn", .str "InvalidSide", .str "InvalidStep", .str "InvalidCommand"], rfl, .inl (SqL.of upd_same), rfl, rfl, _, rfl, ?_⟩
  refine ite2 (fun c => ?_) (fun c => ?_)
  · rw [if_pos (show inV (.str r.1) l2 = true from c)] at tb
    have tb := of_decide_eq_true tb
    obtain ⟨y, rfl⟩ := one_of h5 tb
    exact ⟨_, rfl, C, dd, _, y, rfl, rfl, rfl, X, nof_one N tb, h4, lk_one tb (by decide +kernel), k _ _ (Same.refl _) rfl⟩
  rw [if_neg (show ¬ inV (.str r.1) l2 = true from c)] at tb
  clear c
  refine ⟨_, rfl, C, dd, _, _, rfl, rfl, rfl, X, N.code, h4, rfl, rfl, _, rfl, ?_⟩
  refine ite2 (fun c => ?_) (fun c => ?_)
  · rw [if_pos c] at tb
    have tb := of_decide_eq_true tb
    obtain ⟨y, z, rfl⟩ := two_of h5 tb
    refine ⟨_, rfl, C, dd, _, y, rfl, rfl, rfl, X, nof_fst N tb, h4, lk_fst tb (by decide +kernel) (by decide +kernel), ?_⟩
    refine ⟨_, rfl, C, dd, _, z, rfl, rfl, rfl, X, nof_snd N tb, h4, lk_snd tb (by decide +kernel), (by show 2 ≤ sizeLine; decide), fun p hp => ?_⟩
    have e := same_new hp (.tup [y, z])
    exact k _ _ e ⟨p, rfl, hp, upd_same⟩
  rw [if_neg c] at tb
  clear c
  refine ⟨_, rfl, C, dd, _, _, rfl, rfl, rfl, X, N.code, h4, rfl, rfl, _, rfl, ?_⟩
  refine ite2 (fun c => ?_) (fun c => ?_)
  · rw [if_pos c] at tb
    have tb := of_decide_eq_true tb
    obtain ⟨y, z, rfl⟩ := two_of h5 tb
    refine ⟨_, rfl, C, dd, _, y, rfl, rfl, rfl, X, nof_fst N tb, h4, lk_fst tb (by decide +kernel) (by decide +kernel), ?_⟩
    refine ⟨_, rfl, C, dd, _, z, rfl, rfl, rfl, X, nof_snd N tb, h4, lk_snd tb (by decide +kernel), (by show 2 ≤ sizeLine; decide), fun p hp => ?_⟩
    have e := same_new hp (.tup [y, z])
    exact k _ _ e ⟨p, rfl, hp, upd_same⟩
  rw [if_neg c] at tb
  clear c
  refine ⟨_, rfl, C, dd, _, _, rfl, rfl, rfl, X, N.code, h4, rfl, (by show 3 ≤ sizeLine; decide), fun p1 q1 => ?_⟩
  have e1 := same_new q1 (.lst [.str "DuplicateName", .str "UnknownName", .str "UnknownColumn"])
  replace h4 := e1 _ _ h4
  replace k := fun v H' (e : Same _ H') f => k v H' (e1.trans e) (FieldR.back e1 f)
  refine ⟨p1, [.str "DuplicateName", .str "UnknownName", .str "UnknownColumn"], rfl, .inl (SqL.of upd_same), rfl, rfl, _, rfl, ?_⟩
  refine ite2 (fun c => ?_) (fun c => ?_)
  · rw [if_pos (show inV (.str r.1) l5 = true from c)] at tb
    have tb := of_decide_eq_true tb
    obtain ⟨y, rfl⟩ := one_of h5 tb
    exact ⟨_, rfl, C, dd, _, y, rfl, rfl, rfl, X, nof_one N tb, h4, lk_one tb (by decide +kernel), k _ _ (Same.refl _) rfl⟩
  rw [if_neg (show ¬ inV (.str r.1) l5 = true from c)] at tb
  clear c
  refine ⟨_, rfl, C, dd, _, _, rfl, rfl, rfl, X, N.code, h4, rfl, (by show 2 ≤ sizeLine; decide), fun p1 q1 => ?_⟩
  have e1 := same_new q1 (.lst [.str "TooMany", .str "Full"])
  replace h4 := e1 _ _ h4
  replace k := fun v H' (e : Same _ H') f => k v H' (e1.trans e) (FieldR.back e1 f)
  refine ⟨p1, [.str "TooMany", .str "Full"], rfl, .inl (SqL.of upd_same), rfl, rfl, _, rfl, ?_⟩
  refine ite2 (fun c => ?_) (fun c => ?_)
  · rw [if_pos (show inV (.str r.1) l6 = true from c)] at tb
    have tb := of_decide_eq_true tb
    obtain ⟨y, rfl⟩ := one_of h5 tb
    exact ⟨_, rfl, C, dd, _, y, rfl, rfl, rfl, X, nof_one N tb, h4, lk_one tb (by decide +kernel), k _ _ (Same.refl _) rfl⟩
  rw [if_neg (show ¬ inV (.str r.1) l6 = true from c)] at tb
  clear c
  refine ⟨_, rfl, C, dd, _, _, rfl, rfl, rfl, X, N.code, h4, rfl, rfl, _, rfl, ?_⟩
  refine ite2 (fun c => ?_) (fun c => ?_)
  · rw [if_pos c] at tb
    have tb := of_decide_eq_true tb
    obtain ⟨y, rfl⟩ := one_of h5 tb
    exact ⟨_, rfl, C, dd, _, y, rfl, rfl, rfl, X, nof_one N tb, h4, lk_one tb (by decide +kernel), k _ _ (Same.refl _) rfl⟩
  rw [if_neg c] at tb
  clear c
  refine ⟨_, rfl, C, dd, _, _, rfl, rfl, rfl, X, N.code, h4, rfl, rfl, _, rfl, ?_⟩
  refine ite2 (fun c => ?_) (fun c => ?_)
  · rw [if_pos c] at tb
    have tb := of_decide_eq_true tb
    obtain ⟨y, rfl⟩ := one_of h5 tb
    exact ⟨_, rfl, C, dd, _, y, rfl, rfl, rfl, X, nof_one N tb, h4, lk_one tb (by decide +kernel), k _ _ (Same.refl _) rfl⟩
  rw [if_neg c] at tb
  clear c
  refine ⟨_, rfl, C, dd, _, _, rfl, rfl, rfl, X, N.code, h4, rfl, rfl, _, rfl, ?_⟩
  refine ite2 (fun c => ?_) (fun c => ?_)
  · rw [if_pos c] at tb
    have tb := of_decide_eq_true tb
    obtain ⟨y, rfl⟩ := one_of h5 tb
    exact ⟨_, rfl, C, dd, _, y, rfl, rfl, rfl, X, nof_one N tb, h4, lk_one tb (by decide +kernel), k _ _ (Same.refl _) rfl⟩
  rw [if_neg c] at tb
  have tb := of_decide_eq_true tb
  obtain rfl := nix_of h5 tb
  exact k _ _ (Same.refl _) rfl
end
end Bl
namespace Bl
open PySem L2 De
abbrev n_got : List Str := ["_law_ask", "_law_e"]
theorem sc_got : FnScope n_got ["_law_ask"] (defScope s_got) := ⟨rfl, rfl, rfl, by decide +kernel, rfl, by decide +kernel, by decide +kernel⟩
/-- what the law's asker makes of an error: its code and field -/
def EcatchD {K : PySem.W.Frag} {mg : Str → Option Value} (T : Top K w mg) (Q : VK) : XK := fun cls d H => ∃ (r : Str × List Str) (ys : List V), InHand K H cls d r ys ∧
  PySem.W.exmAny K cls [.ref T.C_LotsError, .ref T.C_Missing, .ref T.C_NothingLeft] = some true ∧ ∀ (v : V) (H1 : Hp), Same H H1 → FieldR H H1 ys v → ∀ t, H1 t = none → Q (.ref t) (upd H1 t (.tup [.str r.1, v]))
def TGotD {K : PySem.W.Frag} {mg : Str → Option Value} (T : Top K w mg) : (XK → Hp → VK → Prop) → Hp → VK → Prop := fun tl H Q =>
  tl (EcatchD T Q) H fun v G => ([.str "", v] : List V).length ≤ sizeLine ∧ ∀ t, G t = none → Q (.ref t) (upd G t (.tup [.str "", v]))
section
variable {X : Cx}
theorem got_gives (T : Top X.K X.w X.mg) {cdg : Value} {q : Str} (hr : Room 3 X.A) : LamX.GivesTo X n_got "_law_got" (defScope s_got) T.a_got cdg (defBody s_got) "_law_ask" q (TGotD T) := by
  intro f c' s H Q tl act hc h
  have hr2 := hr.deeper (PyProof.Rows.envOfC "_law_got" (defScope s_got) s.heap.objs.size T.a_got cdg)
  refine ⟨_, pss_one (ps_try_as3 (X := (cxOf C8.CX0 X.prog X.w X.K X.mg X.base n_got "_law_got" (defScope s_got) T.a_got cdg X.A X.stack s H C8.E0).nox) (i := 1) (c1 := .ref T.C_LotsError) (c2 := .ref T.C_Missing) (c3 := .ref T.C_NothingLeft)
    (ts := fun a cls d => tRet (tTup (tCons (tXp X.K a cls d "code" (tVar 1)) (tCons (tCallP (spFieldR X.K) a cls d (tCons (tVar 1) tNil)) tNil))))
    (tb := fun W D σ G => ∃ Ech : XK, (∀ cls d σ' G', Ech cls d G' → W cls d σ' G') ∧
      tRet (tTup (tCons (tC (.str "")) (tCons (fun σZ HZ Q => σZ[0]? = some (some (.ref f)) ∧ HZ c' = some (LamX.CodeO c' q) ∧ tl Ech HZ Q) tNil))) D σ G)
    rfl rfl sc_got.nd rfl rfl ⟨rfl, by decide, .inl T.mc_LotsError⟩ ⟨rfl, by decide, .inl T.mc_Missing⟩ ⟨rfl, by decide, .inl T.mc_NothingLeft⟩ (fun W pn xe tk => ?_) (fun a oe cls d pn hz hf => ?_)), ?_⟩
  · refine ⟨fun pins s' σ G D I h' => ?_⟩
    obtain ⟨Ech, hW, h1⟩ := h'
    exact (pss_one (ps_ret (pe_tup (pa_cons pe_str (pa_cons (act W pn xe Ech _ _ tk hW) pa_nil))))).run pins s' σ G D I h1
  · exact pss_one (ps_ret (pe_tup (pa_cons (pe_xp (p := (a, oe)) List.mem_cons_self hz hf (pv 1)) (pa_cons (pe_callP (p := (a, oe)) (okh_field T) ⟨(hr2.mono (j := 1) (by decide)).dp, (hr2.mono (j := 1) (by decide)).un⟩ List.mem_cons_self hz hf rfl T.m_field T.F_field.kp T.b_field (pa_cons (pv 1) pa_nil)) pa_nil))))
  refine ⟨EcatchD T Q, fun cls d σ' G hE => ?_, ?_⟩
  · obtain ⟨r, ys, hh, hany, k⟩ := hE
    refine ⟨hany, fun a ha hl => ?_⟩
    obtain ⟨x, y, rfl⟩ : ∃ x y, σ' = [x, y] := by
      match σ', hl with
      | [x, y], _ => exact ⟨x, y, rfl⟩
    obtain ⟨C, dd, rfl, rfl, XC1, N, hrow, h5, h4⟩ := id hh.ex
    refine ⟨_, rfl, C, dd, _, _, rfl, rfl, rfl, XC1, N.code, h4, rfl, _, rfl, r, ys, rfl, hh, fun v G' e hv => ⟨(by show 2 ≤ sizeLine; decide), fun t ht => ?_⟩⟩
    exact k _ _ e hv t ht
  · exact ⟨rfl, hc, h⟩
theorem pe_got (T : Top X.K X.w X.mg) {Tb : List (Addr × Str)} {c P : Addr} {k : Nat} {params : Arguments} {body : Expr} {scope : Scope} {t : XK → TE} {p lpos pos : Pos} (hg : Gl X "_law_got") (TB : LamX.TabB X.base X.mg c P) (hcode : X.env.code = .ref c)
    (hmT : (P, X.env.qual ++ "<lambda>") ∈ Tb) (hu : ∀ p ∈ Tb, p.1 = P → p.2 = X.env.qual ++ "<lambda>") (hr : Room (k + 2) X.A) (hr3 : Room 3 X.A) (L : LamX.LamS X.env.scope scope) (hdef : defaultsOf params X.env = ([], []))
    (hbind : ∀ (q : Str) (cl : List (Str × Addr)) (pm cv ctv : Value), bindArgs (PySem.W.kla_fn "<lambda>" q params body scope cl pm cv ctv) ⟨[], []⟩ = pure [])
    (hbody : ∀ (A : Around) (outer : List Env) (s : Shared) (H : Hp) (E : XK) (f c' : Addr), Room k (A.deeper (LamX.lamEnv X scope s.heap.objs.size f c')) →
      PE (LamX.lamCx X A outer s H E scope f c') body (t E)) :
    PE X (.Call (.Name "_law_got" p) [.Lambda params body scope lpos] [] pos) (LamX.tLam Tb (TGotD T) t) := by
  obtain ⟨oc, od, kV, doc, pm, an, cdv, ct, osl, e, lk, hcg⟩ := T.F_got.ex
  rw [e] at lk
  exact LamX.pe_lamcall hg T.m_got T.F_got.kp lk hcg (by rw [← e]; exact T.b_got) sc_got rfl (.inl rfl) (got_gives T hr3) TB hcode hmT hu hr L hdef hbind hbody
end
theorem rows_okz {r : Str × List Str} (h : r ∈ rows) : okz r.1 ∧ r.2.length ≤ 2 := by
  have h2 : rows.all (fun r => decide (okz r.1) && decide (r.2.length ≤ 2)) = true := by decide +kernel
  have := List.all_eq_true.mp h2 r h
  rw [Bool.and_eq_true] at this
  exact ⟨of_decide_eq_true this.1, of_decide_eq_true this.2⟩
/-- the field, known -/
theorem field_known {K : PySem.W.Frag} {W : Wd} {G H H1 : Hp} {ρ : List Addr} {os : List OO} {ys : List V} {ds : List Dt} {v : V} (w : Wo K W G ρ H os) (s : Same H H1) (ra : RepAll K G ys ds) (hl : ys.length ≤ 2) (f : FieldR H H1 ys v) :
    ∃ G1, Same G G1 ∧ Wo K W G1 ρ H1 os ∧ Rep K G1 v (fieldD ds) := by
  have w1 := w.same s
  match ys, ds, ra, f, hl with
  | [], [], _, f, _ =>
    obtain rfl : v = .non := f
    exact ⟨G, Same.refl _, w1, .non⟩
  | [y], [d], .cons r .nil, f, _ =>
    obtain rfl : v = y := f
    exact ⟨G, Same.refl _, w1, r⟩
  | [y, z], [d, e], ra, ⟨t, hv, ht, h3⟩, _ =>
    subst hv
    have gt : G t = none := by
      cases q : G t with
      | none => rfl
      | some u => rw [w.gh _ _ q] at ht; cases ht
    have g := same_new gt (.tup [y, z])
    refine ⟨_, g, w1.more g (fun b u hb => ?_) fun a ha ga => ?_, .tup (SqT.of upd_same) (ra.mono g) (by show 2 ≤ sizeLine; decide)⟩
    · by_cases eb : b = t
      · subst eb
        rw [upd_same] at hb
        rw [noT_of h3 (by intro _ z; cases z)]
        exact hb
      · rw [upd_ne eb] at hb
        exact w1.gn _ _ hb
    · have ne : a ≠ t := by
        rintro rfl
        rcases ha with ha | ha
        · obtain ⟨u, q⟩ := w.tr a ha
          rw [ht] at q
          cases q
        · obtain ⟨_, _, u, q, _⟩ := w.ex a ha
          rw [ht] at q
          cases q
      rw [upd_ne ne]
      exact ga
  | _ :: _ :: _ :: _, _, _, _, hl => simp at hl
section
variable {X : Cx}
theorem pd_gl {Z : Zs} {E : XK} {Tb : List (Addr × Str)} {c P : Addr} {k : Nat} {params : Arguments} {body : Expr} {scope : Scope} {d : DE} {p lpos pos : Pos} (T : Top X.K X.w X.mg) (hZ : zT T = Z) (hg : Gl X "_law_got") (TB : LamX.TabB X.base X.mg c P) (hcode : X.env.code = .ref c)
    (hmT : (P, X.env.qual ++ "<lambda>") ∈ Tb) (hu : ∀ p ∈ Tb, p.1 = P → p.2 = X.env.qual ++ "<lambda>") (hr : Room (k + 2) X.A) (hr3 : Room 3 X.A) (L : LamX.LamS X.env.scope scope) (hdef : defaultsOf params X.env = ([], []))
    (hbind : ∀ (q : Str) (cl : List (Str × Addr)) (pm cv ctv : Value), bindArgs (PySem.W.kla_fn "<lambda>" q params body scope cl pm cv ctv) ⟨[], []⟩ = pure [])
    (hbody : ∀ (A : Around) (outer : List Env) (s : Shared) (H : Hp) (E : XK) (f c' : Addr), Room k (A.deeper (LamX.lamEnv X scope s.heap.objs.size f c')) →
      PD (LamX.lamCx X A outer s H E scope f c') Z E body d) :
    PD X Z E (.Call (.Name "_law_got" p) [.Lambda params body scope lpos] [] pos) (dGot Tb d) := by
  subst hZ
  refine pd_of (pe_got T (t := fun E => lift X.K (zT T) E (RE X.K) d) hg TB hcode hmT hu hr hr3 L hdef hbind hbody) fun σ H Q W G ρ sl os Qd Ex p ⟨⟨t1, t2⟩, q⟩ => ?_
  refine ⟨fun pr hp => ?_, fun H1 e ht => ?_⟩
  · obtain ⟨k, hk⟩ := t2 pr hp
    exact (p.wo.tab hk).2
  · have w1 := p.wo.grow e t1 ht
    have x1 : Ext G ρ (growW G H1 (ρ ++ W.X)) ρ := Ext.of grow_le
    refine ⟨W, _, ρ, sl, os, _, _, ⟨w1, p.sl.mono x1, ?_, ?_⟩, q⟩
    · intro r ys ds cls dd G2 ρ2 H2 os2 hq w2 x2 rs ra
      refine ⟨r, ys, rs.hand, rs.any, fun v H3 s f t ht3 => ?_⟩
      obtain ⟨C, d1, _, _, _, _, hrow, hlen, _⟩ := rs.hand.ex
      obtain ⟨oz, ol⟩ := rows_okz hrow
      obtain ⟨G3, g3, w3, rv⟩ := field_known w2 s ra (by rw [hlen]; exact ol) f
      obtain ⟨w4, g4⟩ := w3.new ht3 (.tup [.str r.1, v])
      exact p.po _ _ _ _ _ _ hq w4 (x1.trans (x2.trans (Ext.of (g3.trans g4)))) (Rep.tup (SqT.of upd_same) (.cons (.str _ oz) (.cons (rv.mono g4) .nil)) (by show 2 ≤ sizeLine; decide))
    · intro x os' v G' ρ' H' hq w2 x2 rv
      refine ⟨by show 2 ≤ sizeLine; decide, fun t ht3 => ?_⟩
      obtain ⟨z, G2, os2, hk, w3, g3, rz⟩ := frz_ok w2 rv hq
      obtain ⟨w4, g4⟩ := w3.new ht3 (.tup [.str "", v])
      exact p.po _ _ _ _ _ _ hk w4 (x1.trans (x2.trans (Ext.of (g3.trans g4)))) (Rep.tup (SqT.of upd_same) (.cons (.str _ (by decide +kernel)) (.cons (rz.mono g4) .nil)) (by show 2 ≤ sizeLine; decide))
end
end Bl
namespace Bl
open PySem PySem.Spec PyProof.Rows L2 LamX De
abbrev n_all_got : List Str := ["_law_asks", "_law_ask"]
theorem sc_all_got : FnScope n_all_got ["_law_asks"] (defScope s_all_got) := ⟨rfl, rfl, rfl, by decide +kernel, rfl, by decide +kernel, by decide +kernel⟩
/-- what the askers' list gives: each lambda of the list asked by _law_got, when the law's names stood at σ -/
def tAllX {K : PySem.W.Frag} {mg : Str → Option Value} (T : Top K w mg) (X : Cx) (k : Nat) (ta : TE) : TE := fun σ H Q => ta σ H fun v H1 => [v].length = 1 ∧
  tRet (tLc (iList K (tVar 0)) (gName 1) tYes (tAskX X k σ (TGotD T) 1) [1]) { nx := fun _ H' => Q .non H', rt := Q } (L2.start n_all_got [v]) H1
theorem got_givesY {Y : Cx} {K : PySem.W.Frag} {w : World} {mg : Str → Option Value} (T : Top K w mg) (e3 : Y.K = K) (e5 : Y.w = w) (e4 : Y.mg = mg) {cdg : Value} {q : Str} (hr : Room 3 Y.A) : LamX.GivesTo Y n_got "_law_got" (defScope s_got) T.a_got cdg (defBody s_got) "_law_ask" q (TGotD T) := by
  obtain ⟨Yp, Yw, YK, Ymg, Yb, YA, YN, Ys, YH, Ye, Yo, Yst, Yx, Yf, Yc, Ypn, Yxe⟩ := Y
  dsimp only at e3 e4 e5 hr
  subst e3 e4 e5
  exact @got_gives ⟨Yp, Yw, YK, Ymg, Yb, YA, YN, Ys, YH, Ye, Yo, Yst, Yx, Yf, Yc, Ypn, Yxe⟩ T _ _ hr
section
variable {X : Cx}
theorem pe_allgot (T : Top X.K X.w X.mg) {k : Nat} {e : Expr} {ta : TE} {p pos : Pos} (hfn : ∀ x, X.fn x = true) (hg : Gl X "_law_all_got") (he : PE X e ta) (hr : Room (k + 8) X.A)
    (hst : starEach [e] X.env = (false, eval e X.env) :: starEach [] X.env := by rfl) :
    PE X (.Call (.Name "_law_all_got" p) [e] [] pos) (tAllX T X k ta) := by
  refine ⟨fun pins s σ H Q I h => ?_⟩
  refine wpAny_Call_Name_kw (ld_glob I hg T.m_all_got ?_ (by decide))
  refine PySem.W.callWith_K (h₀ := X.base) I.ok.mod.kin T.F_all_got.kp ?_ hst (by rfl)
  refine thn ((pa_cons (hs := hst) he pa_nil).run pos pins s σ H (fun vs H1 => vs.length = 1 ∧ tRet (tLc (iList X.K (tVar 0)) (gName 1) tYes (tAskX X k σ (TGotD T) 1) [1]) { nx := fun _ H' => Q .non H', rt := Q } (L2.start n_all_got vs) H1) I h) fun us s1 ⟨vs, H1, I1, r1, hl, hq⟩ => ⟨I1.kIn, ?_⟩
  obtain ⟨oc, od, kV, doc, pm, an, cdv, ct, osl, e1, lk, hcd⟩ := T.F_all_got.ex
  obtain ⟨oc2, od2, kV2, doc2, pm2, an2, cdv2, ct2, osl2, e2, lk2, hcd2⟩ := T.F_got.ex
  have hbA := T.b_all_got
  have hbG := T.b_got
  rw [e1] at lk hbA
  rw [e2] at lk2 hbG
  have ul : us.length = 1 := by rw [← r1.length]; exact hl
  have rc : codeAny (model X.prog X.w) X.A (.call (.ref T.a_all_got) ⟨us, []⟩) (CR C8.CX0 X.stack X.prog X.w H1 s1 Q C8.E0) s1 := by
    refine run_ofS (base := bigB s1.heap H1 (frs X.stack)) (N := n_all_got) (ps := ["_law_asks"]) (us := us) (vs := vs) lk hcd sc_all_got (hr.mono (by omega) : Room ((k + 7) + 1) X.A) (env_big I1) (by have := hbA s1 us I1.kIn (by rw [List.append_nil]; exact ul); rwa [List.append_nil] at this) r1 hl fun hr2 => ?_
    refine ⟨_, (pss_one (ps_ret (pe_lc (own := [("_law_ask", 1)]) (g := gName 1) (tt := tYes) rfl sc_all_got.nd (pi_list (pv 0)) (blkOk_by (own := [("_law_ask", 1)]) (N := n_all_got) (sc := defScope s_all_got) (by decide +kernel)) (fun _ _ _ _ _ => (pg_name (i := 1) sc_all_got.nd rfl (Or.inl rfl))) (fun _ _ _ _ _ => pts_nil) (fun _ _ _ _ _ =>
      pe_askX (X := X) I1 hfn rfl rfl rfl rfl rfl (j := 1) (y := "_law_ask") rfl (Or.inl rfl) rfl T.m_got T.F_got.kp lk2 hcd2 hbG sc_got rfl (Or.inl rfl) (got_givesY T (by rfl) (by rfl) (by rfl) (by exact hr2.mono (by omega))) (by exact hr2.mono (by omega)))))), hq⟩
  refine wpAny_call (codeAny_mono rc fun r s2 hq => ?_)
  cases r with
  | error e => exact (show False from hq).elim
  | ok fl =>
    cases fl with
    | ret u => exact I1.after hq
    | next => exact False.elim hq
    | brk => exact False.elim hq
    | cont => exact False.elim hq
theorem got_run (T : Top X.K X.w X.mg) {σ : L2.St} {H : Hp} {Q : VK} {W : Wd} {G : Hp} {ρ : List Addr} {sl : Sl} {os : List OO} {d : DE} {A : Hp → Prop} (hA : A H) (wo : Wo X.K W G ρ H os) (s : SlR X.K G ρ σ sl) (Qd : Dt → List OO → Prop)
    (h : d sl os (fun x os1 => frzGo os1 x fun z os2 => Qd (.tup [.str "", z]) os2) (fun e os1 => Qd (.tup [.str e.1.1, fieldD e.2]) os1))
    (po : ∀ (z : Dt) (os' : List OO) (v : V) (G' : Hp) (ρ' : List Addr) (H' : Hp), Qd z os' → Wo X.K W G' ρ' H' os' → Ext G ρ G' ρ' → Rep X.K G' v z → Q v H') : TGotD T (fun E H' Q' => A H' ∧ lift X.K (zT T) E (RE X.K) d σ H' Q') H Q := by
  refine ⟨hA, W, G, ρ, sl, os, _, _, ⟨wo, s, ?_, ?_⟩, h⟩
  · intro r ys ds cls dd G2 ρ2 H2 os2 hq w2 x2 rs ra
    refine ⟨r, ys, rs.hand, rs.any, fun v H3 s f t ht3 => ?_⟩
    obtain ⟨C, d1, _, _, _, _, hrow, hlen, _⟩ := rs.hand.ex
    obtain ⟨oz, ol⟩ := rows_okz hrow
    obtain ⟨G3, g3, w3, rv⟩ := field_known w2 s ra (by rw [hlen]; exact ol) f
    obtain ⟨w4, g4⟩ := w3.new ht3 (.tup [.str r.1, v])
    exact po _ _ _ _ _ _ hq w4 (x2.trans (Ext.of (g3.trans g4))) (Rep.tup (SqT.of upd_same) (.cons (.str _ oz) (.cons (rv.mono g4) .nil)) (by show 2 ≤ sizeLine; decide))
  · intro x os' v G' ρ' H' hq w2 x2 rv
    refine ⟨by show 2 ≤ sizeLine; decide, fun t ht3 => ?_⟩
    obtain ⟨z, G2, os2, hk, w3, g3, rz⟩ := frz_ok w2 rv hq
    obtain ⟨w4, g4⟩ := w3.new ht3 (.tup [.str "", v])
    exact po _ _ _ _ _ _ hk w4 (x2.trans (Ext.of (g3.trans g4))) (Rep.tup (SqT.of upd_same) (.cons (.str _ (by decide +kernel)) (.cons (rz.mono g4) .nil)) (by show 2 ≤ sizeLine; decide))
theorem pd_allgot {Z : Zs} {E : XK} {Tb : List (Addr × Str)} {k : Nat} {e : Expr} {da : DE} {p pos : Pos} (T : Top X.K X.w X.mg) (hZ : zT T = Z) (hfn : ∀ x, X.fn x = true) (hg : Gl X "_law_all_got") (he : PD X Z E e da) (hr : Room (k + 8) X.A)
    (hst : starEach [e] X.env = (false, eval e X.env) :: starEach [] X.env := by rfl) :
    PD X Z E (.Call (.Name "_law_all_got" p) [e] [] pos) (dAllGot X Z k Tb da) := by
  subst hZ
  refine pd_of (pe_allgot T hfn hg he hr hst) fun σ H Q W G ρ sl os Qd Ex p q => ?_
  refine p.bind (RS := RE X.K) _ q fun x os1 v G1 ρ1 H1 q1 p1 r1 e1 => ⟨rfl, ?_⟩
  obtain ⟨Ls, rfl, q2⟩ := q1
  cases r1 with
  | @lst a vs _ ha ra hlen =>
    rw [List.length_map] at hlen
    have hvl : vs.length = Ls.length := by rw [ra.len, List.length_map]
    refine ⟨.ref a, rfl, a, rfl, ⟨vs, SqL.of (p1.wo.gh _ _ ha)⟩, fun D hD => ?_⟩
    have gD : G1 D = none := by
      cases q : G1 D with
      | none => rfl
      | some u => rw [p1.wo.gh _ _ q] at hD; cases hD
    have wD : D ∈ W.M ∨ noT W.H0 D = none := by
      by_cases m : D ∈ W.M
      · exact .inl m
      · cases q : noT W.H0 D with
        | none => exact .inr rfl
        | some u => rw [p1.wo.fr D u q m] at hD; cases hD
    have nX : D ∉ W.X := fun m => by
      obtain ⟨_, _, u, q⟩ := p1.wo.ex D m
      rw [hD] at q
      cases q.1
    refine lc_list (K := X.K) (a := a) (xs := vs) (fun i H2 => ∃ (G' : Hp) (ρ' : List Addr) (os' : List OO) (acc : List Dt) (us : List V), Wo X.K W G' ρ' H2 os' ∧ Ext G1 ρ1 G' ρ' ∧ D ∉ ρ' ∧ G' D = none ∧ H2 D = some (.lst us) ∧ RepAll X.K G' us acc ∧ acc.length = i ∧
      allGo X (zT T) k Tb sl (Ls.drop i) acc os' fun zs os2 => Qd (.d (.lst zs)) os2) ⟨G1, ρ1, os1, [], [], p1.wo.side gD (p1.wo.fresh hD) wD, Ext.refl, p1.wo.fresh hD, gD, upd_same, .nil, rfl, q2⟩ ?_ ?_ ?_
    · rintro i H2 _ ⟨G', ρ', os', acc, us, w, e, _⟩
      exact SqL.of (w.gh _ _ (e.g _ _ ha))
    · rintro i x H2 hx ⟨G', ρ', os', acc, us, w, e, nD, gD', hDl, rus, hac, hq⟩
      obtain ⟨y, hy, rx⟩ := ra.get hx
      have hi : i < Ls.length := by
        have := (List.getElem?_eq_some_iff.mp hx).1
        omega
      rw [List.getElem?_map, List.getElem?_eq_getElem hi] at hy
      obtain rfl := (Option.some.inj hy).symm
      have rx2 := Rep.mono e.g rx
      cases rx2 with
      | @lam f _ hL =>
        refine ⟨rfl, ?_⟩
        show tAskX X k σ (TGotD T) 1 _ H2 _
        rw [List.drop_eq_getElem_cons hi] at hq
        obtain ⟨d, hLD, hq⟩ := hq
        obtain ⟨D', hB⟩ := hLD.ex
        have wb : Wo X.K ⟨H2, ρ', D :: W.X⟩ G' ρ' H2 os' := w.aside gD' nD hDl
        have keepD : ∀ {G3 H3 : Hp} {ρ3 : List Addr} {os3 : List OO}, Wo X.K ⟨H2, ρ', D :: W.X⟩ G3 ρ3 H3 os3 → H3 D = some (.lst us) ∧ D ∉ ρ3 ∧ G3 D = none := fun {G3 H3 ρ3 os3} w3 =>
          let ⟨x1, x2, _⟩ := w3.ex D List.mem_cons_self
          ⟨w3.fr D _ (noT_of hDl (by intro _ z; cases z)) nD, x2, x1⟩
        have hbk : ∀ {G3 H3 : Hp} {ρ3 : List Addr} {os3 : List OO}, Wo X.K ⟨H2, ρ', D :: W.X⟩ G3 ρ3 H3 os3 → Wo X.K W G3 ρ3 H3 os3 := fun w3 => w.back w3 fun a ha => List.mem_cons_of_mem _ ha
        have hIs : IsLamX X Ls[i].params Ls[i].body Ls[i].scope Ls[i].nd H2 f := by
          have h2 := hL.mono (LamX.ExtN.of w.gh)
          obtain ⟨c', pm, ctv, doc, dV, z1, z2, z3⟩ := h2
          rw [hLD.q, hLD.cl] at z1
          rw [hLD.q] at z2
          exact ⟨c', pm, ctv, doc, dV, z1, z2, z3⟩
        refine ⟨f, Ls[i].nd, D', Ls[i].params, Ls[i].body, Ls[i].scope, _, rfl, hB, hIs, ?_⟩
        refine got_run T hIs wb (p1.sl.mono e) (fun z os3 => allGo X (zT T) k Tb sl (Ls.drop (i + 1)) (acc ++ [z]) os3 fun zs os2 => Qd (.d (.lst zs)) os2) hq fun z os3 v G3 ρ3 H3 q3 w3 e3 rv => ?_
        obtain ⟨k1, k2, k3⟩ := keepD w3
        have ru3 : RepAll X.K G3 us acc := rus.mono e3.g
        refine ⟨us, k1, by rw [ru3.len]; omega, G3, ρ3, os3, acc ++ [z], us ++ [v], (hbk w3).side k3 k2 wD, e.trans e3, k2, k3, upd_same, ru3.app (.cons rv .nil), by rw [List.length_append, hac]; rfl, q3⟩
    · rintro H2 ⟨G', ρ', os', acc, us, w, e, nD, gD', hDl, rus, hac, hq⟩
      rw [hvl, List.drop_of_length_le (Nat.le_refl _)] at hq
      obtain ⟨w2, g2⟩ := w.known gD' nD nX hDl
      exact (p1.at w e).po _ _ _ _ _ _ hq w2 (Ext.of g2) (Rep.lst upd_same (rus.mono g2) (by rw [hac, hvl]; exact hlen))
end
end Bl
namespace Bl
open PySem L2 De
local macro_rules | `(tactic| sizeOf_list_dec) => `(tactic| simp only [dDef, startS, dSeqS, dNext, dBrk, dCnt, dAsg, dDrop, dRet, dRetN, dIfS, dFor, dVar, dC, dNil, dCons, dOp, dFn, dTst, dAndT, dOrT, dNotT, dAnd, dOr, dNot, dIfE, dChain, dTup, dLst, dLstO, dIsi, dStar, dPart, dNoPart, dSl, dAppend, dAppV, dRng1, dRng2, dEnum, dEnumA, dZip, dCount, dCount.isSeqL, dCount.itemsL, end_at, end_set, rdd_end, dgName, dgNil, dgCons, dgTup, dSeq, dLc, dLcO, dYes, dCall, dCall0,
  rdd_d, rdds_nil, rdds_cons, asB_bl, asL_some, seq_lst, seq_tup, seq_str, ex_sl, dts, opIsN, opNotN, opEq, opNe, has_str_non, has_int_non, has_bool_non, has_list_non, has_tuple_non, has_dict_non, isN_non, notRaw_non, data_non, has_str_bl, has_int_bl, has_bool_bl, has_list_bl, has_tuple_bl, has_dict_bl, isN_bl, notRaw_bl, data_bl, has_str_int, has_int_int, has_bool_int, has_list_int, has_tuple_int, has_dict_int, isN_int, notRaw_int, data_int, has_str_str, has_int_str, has_bool_str, has_list_str, has_tuple_str, has_dict_str, isN_str, notRaw_str, data_str, has_str_lst, has_int_lst, has_bool_lst, has_list_lst, has_tuple_lst, has_dict_lst, isN_lst, notRaw_lst, data_lst, has_str_tup, has_int_tup, has_bool_tup, has_list_tup, has_tuple_tup, has_dict_tup, isN_tup, notRaw_tup, data_tup, has_str_dct, has_int_dct, has_bool_dct, has_list_dct, has_tuple_dct, has_dict_dct, isN_dct, notRaw_dct, data_dct, has_str_ins, has_int_ins, has_bool_ins, has_list_ins, has_tuple_ins, has_dict_ins, isN_ins, notRaw_ins, data_ins, has_str_raw, has_int_raw, has_bool_raw, has_list_raw, has_tuple_raw, has_dict_raw, isN_raw, notRaw_raw, data_raw, has_str_lam, has_int_lam, has_bool_lam, has_list_lam, has_tuple_lam, has_dict_lam, isN_lam, notRaw_lam, data_lam, dLam, dAllGot, keyD_int, keyD_str, add_int, add_str, add_lst, add_tup, i0_int, oi_int, in_lst, in_tup, in_dct_str, in_sign, optP_some, De.ix_lst, De.ix_tup, ix_dct_str, all_lst, atI_0, atI_1, atI_2, len_lst, len_tup, len_str, tuple_lst, tuple_tup, list_lst, list_tup, pln_non, dep_non, pln_bl, dep_bl, pln_int, dep_int, pln_str, dep_str, pln_lst, pln_tup, dep_lst, dep_tup, plns_nil, plns_cons, deps_nil, deps_cons, eqB_int, eqB_str, eqB_non_str, eqB_str_non, eqB_bl_str, eqB_str_bl, eqB_int_str, eqB_str_int, eqB_lst_str, eqB_str_lst, eqB_tup_str, eqB_str_tup, sz_0, sz_1, sz_2, sz_3, sz_4, sz_5, sz_6, sz_7, sz_8, sz_9, sz_10, sz_11, sz_12, sz_13, sz_14, lcStep, wipeS, dLenSet, isSeq, itemsD, dDc, dcStep, dFld, dFldS, dFldA, insD, InsF.look, InsF.lack, dMeth, dMethN, dProp, dMake, dMakeK, dRaise, dCallL, opTab, opInTab, dAppE, dInsE, lstAt, dIndexL, dLcK, fxVar, fxFld, putG, dFrz, dGot, dPar, int_int, int_bl, abs_int, min_int, max_int, mul_int, mul_lst, dgSub, List.lookup_cons, List.lookup_nil, Int.reduceNeg, List.map_cons, List.map_nil, List.length_cons, List.length_nil, List.replicate_succ, List.replicate_zero, List.append_nil, List.nil_append, List.cons_append, List.set_cons_zero, List.set_cons_succ,
  Option.map_some, Option.map_none, Nat.zero_add, Nat.add_zero, Nat.reduceAdd, Nat.reduceLeDiff, Nat.min_self, Nat.reduceSub, Nat.sub_self, Nat.add_one_sub_one, List.getElem?_cons_zero, List.getElem?_cons_succ, if_true, if_false, true_and, and_true, Bool.not_true, Bool.not_false, Bool.true_or, Bool.false_or, Bool.or_true, Bool.or_false, Bool.true_and, Bool.false_and, Bool.and_true, Bool.and_false, Bool.false_eq_true, reduceIte, reduceCtorEq, Bool.not_eq_true', not_true_eq_false, not_false_eq_true, exists_eq_left', exists_eq_left, exists_and_left, Option.some.injEq, Ov.o.injEq, OO.lst.injEq, Ov.d.injEq, and_self])
abbrev n_mixed : List Str := ["_law_box_here", "_law_some", "_law_found", "_law_item"]
theorem sc_mixed : FnScope n_mixed ["_law_box_here", "_law_some"] (defScope s_mixed) := ⟨rfl, rfl, rfl, by decide +kernel, rfl, by decide +kernel, by decide +kernel⟩
section
variable {P : Program} {w : World} {K : PySem.W.Frag} {mg : Str → Option Value} {base : Heap}
theorem ot_new {os l : List OO} {j : Nat} {y : OO} (h : os[j]? = some y) : os ++ l = ot os j y l := by
  have := ot_of h
  conv => lhs; rw [this]
  rw [ot_app, List.nil_append]
theorem rdd_ot {os : List OO} {j : Nat} {y : OO} {ds : List Dt} {k : Dt → Prop} : Rdd (ot os j y [.lst (ds.map .d)]) (.o os.length) k = k (.lst ds) := rdd_o ot_0 dts_map
theorem frz_ot {os : List OO} {j : Nat} {y : OO} {ds : List Dt} {k : Dt → List OO → Prop} : frzGo (ot os j y [.lst (ds.map .d)]) (.o os.length) k = k (.lst ds) (ot os j y [.dead]) := by
  unfold frzGo
  simp only [ot_0, List.getElem?_cons_zero, dts_map, optP_some, ot_s0, List.set_cons_zero]
theorem box_data {o : OO} (h : BoxO o) : dataO o = true := by
  obtain ⟨ns, i, w, m, c, rfl, _⟩ := h
  rfl
theorem dropQ_box {os m : List OO} {b : Nat} {o : OO} {d : Dt} {Q : Ov → List OO → Prop} (h : BoxO o) (q : Q (.d d) (os.set b o)) : dropQ os Q (.d d) (ot os b o m) := by
  refine ⟨os.set b o, m, rfl, by rw [List.length_set], fun k x hx => ?_, rfl, q⟩
  by_cases e : b = k
  · subst e
    by_cases hl : b < os.length
    · rw [List.getElem?_set_self hl] at hx
      obtain rfl := Option.some.inj hx
      exact .inr (box_data h)
    · rw [List.getElem?_eq_none (by rw [List.length_set]; omega)] at hx
      cases hx
  · rw [List.getElem?_set_ne e] at hx
    exact .inl hx
def fMixed : FD := fun xs os Q _ => ∃ b d o, xs = [.o b, .d d] ∧ os[b]? = some o ∧ BoxO o ∧ isSeq d = true ∧ (itemsD d).length < 1000000 ∧ ∀ es o', es.Perm (itemsD d) → BoxO o' → Q (.d (.lst es)) (os.set b o')
theorem ok_mixedD (T : Top K w mg) : FnOk P w K mg base CX0 2 T.a_mixed T.d_mixed ["_law_box_here", "_law_some"] (spD K (zT T) 2 fMixed) := by
  refine fn_t (fn_d T.F_mixed sc_mixed (fun cdv A outer s H E hr => (pss_consD (psd_asg (ps_asg (pd_lstO pad_nil) (pgd_name (pg_name (i := 2) sc_mixed.nd rfl (Or.inl rfl)))))
    (pss_consD (psd_for PassesOwn.never rfl (pid_seq (pd_var (pv 1))) (pgd_name (pg_name (i := 3) sc_mixed.nd rfl (Or.inl rfl)))
    (pss_oneD (psd_expr (pd_insertE (pe_bm PySem.F.plainAttrs_list PySem.F.slot_list_insert PySem.F.type_list_insert mt_insert (pd_var (pv 2)) (pad_cons (pd_call0 (pe_call (ok_pullD T) (hr.mono (by decide)) rfl T.m_pull T.F_pull.kp T.b_pull .nil pass0 (pad_cons (pd_var (pv 0)) (pad_cons (pd_op od_add (pd_callB cd_len (by rfl) T.z_len (by decide +kernel) (pad_cons (pd_var (pv 2)) pad_nil)) pd_int) pad_nil)))) (pad_cons (pd_var (pv 3)) pad_nil)))))))
    (pss_oneD (psd_ret (pd_frz (pd_var (pv 2)))))))) (fun xs os Q Ex hn h => h)) (fun xs os Q Ex hn h => ?_)
  obtain ⟨b, d, o, rfl, ho, hb, hd, hl, q⟩ := h
  sizeOf_list_dec
  cases d
  case lst | tup =>
    rename_i ds
    have hl : ds.length < 1000000 := hl
    have hbl : b < os.length := (List.getElem?_eq_some_iff.mp ho).1
    simp only [seq_lst, seq_tup]
    intro hsz
    refine for_inv (fun i sl os' => ∃ (es : List Dt) (o' : OO) (y : Option Ov), sl = [some (.o b), some (.d _), some (.o os.length), y] ∧ os' = ot os b o' [.lst (es.map .d)] ∧ BoxO o' ∧ es.Perm (ds.take i)) ⟨[], o, none, rfl, ot_new ho, hb, by rw [List.take_zero]⟩ ?_ ?_
    · rintro i x _ _ N hx ⟨es, o', y, rfl, rfl, hb', hp⟩ hN
      sizeOf_list_dec
      have le : es.length = i := by
        rw [hp.length_eq, List.length_take]
        have := (List.getElem?_eq_some_iff.mp hx).1
        omega
      have hi := (List.getElem?_eq_some_iff.mp hx).1
      simp only [rdd_ot, ot_0, List.getElem?_cons_zero]
      sizeOf_list_dec
      refine ⟨b, _, o', rfl, ot_at hbl, hb', by omega, by omega, fun p o2 hp0 hp1 hb2 => ?_⟩
      obtain ⟨p, rfl⟩ := Int.eq_ofNat_of_zero_le hp0
      simp only [ot_set hbl, ot_0, ot_s0, List.getElem?_cons_zero, List.set_cons_zero]
      refine ⟨by rw [List.length_map]; exact Nat.lt_of_lt_of_le (by omega) (show 1000000 ≤ sizeLine by decide), by omega, by omega, hN _ _ ⟨es.take p ++ [x] ++ es.drop p, o2, _, rfl, ?_, hb2, ?_⟩⟩
      · rw [Int.toNat_natCast, List.map_append, List.map_append, List.map_take, List.map_drop]
        rfl
      · rw [List.take_add_one, hx, List.append_assoc]
        refine List.perm_middle.trans ?_
        show (x :: (es.take p ++ es.drop p)).Perm _
        rw [List.take_append_drop]
        exact (List.perm_append_singleton x es).symm.trans (hp.append_right _)
    · rintro _ _ ⟨es, o', y, rfl, rfl, hb', hp⟩
      sizeOf_list_dec
      rw [frz_ot]
      rw [List.take_of_length_le (Nat.le_refl _)] at hp
      exact dropQ_box hb' (q es o' hp hb')
  all_goals cases hd
end
end Bl
namespace Bl
open PySem L2 De
local macro_rules | `(tactic| sizeOf_list_dec) => `(tactic| simp only [dDef, startS, dSeqS, dNext, dBrk, dCnt, dAsg, dDrop, dRet, dRetN, dIfS, dFor, dVar, dC, dNil, dCons, dOp, dFn, dTst, dAndT, dOrT, dNotT, dAnd, dOr, dNot, dIfE, dChain, dTup, dLst, dLstO, dIsi, dStar, dPart, dNoPart, dSl, dAppend, dAppV, dRng1, dRng2, dEnum, dEnumA, dZip, dCount, dCount.isSeqL, dCount.itemsL, end_at, end_set, rdd_end, dgName, dgNil, dgCons, dgTup, dSeq, dLc, dLcO, dYes, dCall, dCall0,
  rdd_d, rdds_nil, rdds_cons, asB_bl, asL_some, seq_lst, seq_tup, seq_str, ex_sl, dts, opIsN, opNotN, opEq, opNe, has_str_non, has_int_non, has_bool_non, has_list_non, has_tuple_non, has_dict_non, isN_non, notRaw_non, data_non, has_str_bl, has_int_bl, has_bool_bl, has_list_bl, has_tuple_bl, has_dict_bl, isN_bl, notRaw_bl, data_bl, has_str_int, has_int_int, has_bool_int, has_list_int, has_tuple_int, has_dict_int, isN_int, notRaw_int, data_int, has_str_str, has_int_str, has_bool_str, has_list_str, has_tuple_str, has_dict_str, isN_str, notRaw_str, data_str, has_str_lst, has_int_lst, has_bool_lst, has_list_lst, has_tuple_lst, has_dict_lst, isN_lst, notRaw_lst, data_lst, has_str_tup, has_int_tup, has_bool_tup, has_list_tup, has_tuple_tup, has_dict_tup, isN_tup, notRaw_tup, data_tup, has_str_dct, has_int_dct, has_bool_dct, has_list_dct, has_tuple_dct, has_dict_dct, isN_dct, notRaw_dct, data_dct, has_str_ins, has_int_ins, has_bool_ins, has_list_ins, has_tuple_ins, has_dict_ins, isN_ins, notRaw_ins, data_ins, has_str_raw, has_int_raw, has_bool_raw, has_list_raw, has_tuple_raw, has_dict_raw, isN_raw, notRaw_raw, data_raw, has_str_lam, has_int_lam, has_bool_lam, has_list_lam, has_tuple_lam, has_dict_lam, isN_lam, notRaw_lam, data_lam, dLam, dAllGot, keyD_int, keyD_str, add_int, add_str, add_lst, add_tup, i0_int, oi_int, in_lst, in_tup, in_dct_str, in_sign, optP_some, De.ix_lst, De.ix_tup, ix_dct_str, all_lst, atI_0, atI_1, atI_2, len_lst, len_tup, len_str, tuple_lst, tuple_tup, list_lst, list_tup, pln_non, dep_non, pln_bl, dep_bl, pln_int, dep_int, pln_str, dep_str, pln_lst, pln_tup, dep_lst, dep_tup, plns_nil, plns_cons, deps_nil, deps_cons, eqB_int, eqB_str, eqB_non_str, eqB_str_non, eqB_bl_str, eqB_str_bl, eqB_int_str, eqB_str_int, eqB_lst_str, eqB_str_lst, eqB_tup_str, eqB_str_tup, sz_0, sz_1, sz_2, sz_3, sz_4, sz_5, sz_6, sz_7, sz_8, sz_9, sz_10, sz_11, sz_12, sz_13, sz_14, lcStep, wipeS, dLenSet, isSeq, itemsD, dDc, dcStep, dFld, dFldS, dFldA, insD, InsF.look, InsF.lack, dMeth, dMethN, dProp, dMake, dMakeK, dRaise, dCallL, opTab, opInTab, dAppE, dInsE, lstAt, dIndexL, dLcK, fxVar, fxFld, putG, dFrz, dGot, dPar, int_int, int_bl, abs_int, min_int, max_int, mul_int, mul_lst, dgSub, List.lookup_cons, List.lookup_nil, Int.reduceNeg, List.map_cons, List.map_nil, List.length_cons, List.length_nil, List.replicate_succ, List.replicate_zero, List.append_nil, List.nil_append, List.cons_append, List.set_cons_zero, List.set_cons_succ,
  Option.map_some, Option.map_none, Nat.zero_add, Nat.add_zero, Nat.reduceAdd, Nat.reduceLeDiff, Nat.min_self, Nat.reduceSub, Nat.sub_self, Nat.add_one_sub_one, List.getElem?_cons_zero, List.getElem?_cons_succ, if_true, if_false, true_and, and_true, Bool.not_true, Bool.not_false, Bool.true_or, Bool.false_or, Bool.or_true, Bool.or_false, Bool.true_and, Bool.false_and, Bool.and_true, Bool.and_false, Bool.false_eq_true, reduceIte, reduceCtorEq, Bool.not_eq_true', not_true_eq_false, not_false_eq_true, exists_eq_left', exists_eq_left, exists_and_left, Option.some.injEq, Ov.o.injEq, OO.lst.injEq, Ov.d.injEq, and_self])
abbrev n_main : List Str := ["_law_box_here", "_law_words", "_law_many", "_law_ticks", "_law_kinds", "_law_k"]
theorem sc_main : FnScope n_main ["_law_box_here", "_law_words"] (defScope s_main) := ⟨rfl, rfl, rfl, by decide +kernel, rfl, by decide +kernel, by decide +kernel⟩
section
variable {P : Program} {w : World} {K : PySem.W.Frag} {mg : Str → Option Value} {base : Heap}
theorem cutD_pre {xs : List Dt} {k : Nat} : cutD xs none (some (k : Int)) = xs.take k := by
  unfold cutD
  rw [HT.sIx_none, HT.sIx_nat, List.drop_zero, Nat.sub_zero]
  by_cases h : k ≤ xs.length
  · rw [Nat.min_eq_left h]
  · rw [Nat.min_eq_right (by omega), List.take_of_length_le (Nat.le_refl _), List.take_of_length_le (by omega)]
theorem cutD_suf {xs : List Dt} {k : Nat} : cutD xs (some (k : Int)) none = xs.drop k := by
  unfold cutD
  rw [HT.sIx_none, HT.sIx_nat]
  by_cases h : k ≤ xs.length
  · rw [Nat.min_eq_left h, List.take_of_length_le (by rw [List.length_drop]; exact Nat.le_refl _)]
  · rw [Nat.min_eq_right (by omega), List.drop_of_length_le (Nat.le_refl _), List.drop_of_length_le (by omega), List.take_nil]
theorem at_get {α : Type} {xs : List α} {i : Int} {n : Nat} (d : α) (e : i = (n : Nat)) (h : n < xs.length) : atI xs i = some (xs.getD n d) := by
  rw [e]
  exact at_nat d h
theorem set_at {os : List OO} {b : Nat} {o y : OO} (h : os[b]? = some y) : (os.set b o)[b]? = some o := List.getElem?_set_self (List.getElem?_eq_some_iff.mp h).1
def mainKinds (ws : List Dt) (a t g h : Nat) : List Dt := List.replicate a (.str "name") ++ List.replicate t (.str "tick") ++ List.replicate g (.tup (ws.take 2)) ++ List.replicate h (.str "worth")
def mainCols (ws : List Dt) (a t g h : Nat) : List Dt := List.zipWith (fun w k => .tup [w, k]) ws (mainKinds ws a t g h)
structure MainN (a t g h : Nat) : Prop where
  a1 : 1 ≤ a
  a3 : a ≤ 3
  t2 : t ≤ 2
  at_ : a = 3 → t ≤ 1
  g1 : g ≤ 1
  h1 : h ≤ 1
def fMain : FD := fun xs os Q _ => ∃ b ws o, xs = [.o b, .d (.lst ws)] ∧ os[b]? = some o ∧ BoxO o ∧ ws.length = 6 ∧ ∀ a t g h (es : List Dt) o', MainN a t g h → es.Perm (mainCols ws a t g h) → BoxO o' → Q (.d (.lst es)) (os.set b o')
theorem ok_mainD (T : Top K w mg) : FnOk P w K mg base CX0 3 T.a_main T.d_main ["_law_box_here", "_law_words"] (spD K (zT T) 2 fMain) := by
  refine fn_d T.F_main sc_main (fun cdv A outer s H E hr => (pss_consD (psd_asg (ps_asg (pd_op od_add pd_int (pd_call0 (pe_call (ok_pullD T) (hr.mono (by decide)) rfl T.m_pull T.F_pull.kp T.b_pull .nil pass0 (pad_cons (pd_var (pv 0)) (pad_cons pd_int pad_nil))))) (pgd_name (pg_name (i := 2) sc_main.nd rfl (Or.inl rfl)))))
    (pss_consD (psd_asg (ps_asg (pd_call0 (pe_call (ok_pullD T) (hr.mono (by decide)) rfl T.m_pull T.F_pull.kp T.b_pull .nil pass0 (pad_cons (pd_var (pv 0)) (pad_cons (pd_ifE (ptd_cmp od_lt (pd_var (pv 2)) pd_int (nomark _)) pd_int pd_int) pad_nil)))) (pgd_name (pg_name (i := 3) sc_main.nd rfl (Or.inl rfl)))))
    (pss_consD (psd_asg (ps_asg (pd_op od_add (pd_op od_add (pd_op od_mul (pd_lst (pad_cons pd_str pad_nil)) (pd_var (pv 2))) (pd_op od_mul (pd_lst (pad_cons pd_str pad_nil)) (pd_var (pv 3)))) (pd_op od_mul (pd_lst (pad_cons (pd_callTy cd_tuple (by rfl) T.z_tuple (by decide +kernel) (pad_cons (pd_sl (pd_var (pv 1)) pod_none (pod_some pd_int)) pad_nil)) pad_nil)) (pd_call0 (pe_call (ok_pullD T) (hr.mono (by decide)) rfl T.m_pull T.F_pull.kp T.b_pull .nil pass0 (pad_cons (pd_var (pv 0)) (pad_cons pd_int pad_nil)))))) (pgd_name (pg_name (i := 4) sc_main.nd rfl (Or.inr rfl)))))
    (pss_consD (psd_asg (ps_asg (pd_op od_add (pd_var (pv 4)) (pd_op od_mul (pd_lst (pad_cons pd_str pad_nil)) (pd_call0 (pe_call (ok_ofD T) (hr.mono (by decide)) rfl T.m_of T.F_of.kp T.b_of .nil pass0 (pad_cons (pd_var (pv 0)) (pad_cons (pd_lst (pad_cons pd_int (pad_cons pd_int (pad_cons pd_int (pad_cons pd_int pad_nil))))) pad_nil)))))) (pgd_name (pg_name (i := 4) sc_main.nd rfl (Or.inr rfl)))))
    (pss_oneD (psd_ret (pd_call0 (pe_call (ok_mixedD T) (hr.mono (by decide)) rfl T.m_mixed T.F_mixed.kp T.b_mixed .nil pass0 (pad_cons (pd_var (pv 0)) (pad_cons (pd_lc (own := [("_law_k", 5)]) (E' := E0) rfl sc_main.nd (pid_range1 (pi_range1 (by rfl) T.z_range (pad_cons (pd_callB cd_len (by rfl) T.z_len (by decide +kernel) (pad_cons (pd_var (pv 4)) pad_nil)) pad_nil))) (blkOk_by (own := [("_law_k", 5)]) (N := n_main) (sc := defScope s_main) (by decide +kernel)) (fun _ _ _ _ _ => (pgd_name (pg_name (i := 5) sc_main.nd rfl (Or.inl rfl)))) (fun _ _ _ _ _ => ptsd_nil) (fun _ _ _ _ _ => (pd_tup (pad_cons (pd_ix (od_ix (hu_of hr)) (pd_var (pv 1)) (pd_var (pv 5))) (pad_cons (pd_ix (od_ix (hu_of hr)) (pd_var (pv 4)) (pd_var (pv 5))) pad_nil)))) (by decide)) pad_nil))))))))))) (fun xs os Q Ex hn h => ?_)
  obtain ⟨b, ws, o, rfl, ho, hb, hl, q⟩ := h
  sizeOf_list_dec
  refine ⟨b, _, o, rfl, ho, hb, by decide, by decide, fun a o1 a0 a1 hb1 => ?_⟩
  obtain ⟨a, rfl⟩ := Int.eq_ofNat_of_zero_le a0
  sizeOf_list_dec
  split
  all_goals
    rename_i hif
    refine ⟨b, _, o1, rfl, set_at ho, hb1, by decide, by decide, fun t o2 t0 t1 hb2 => ?_⟩
    obtain ⟨t, rfl⟩ := Int.eq_ofNat_of_zero_le t0
    sizeOf_list_dec
    simp only [List.flatten_replicate_singleton, List.length_replicate, set_at ho, List.set_set]
    have sz : ∀ n, n ≤ 1000 → n ≤ sizeLine := fun n h => Nat.le_trans h (by decide)
    simp only [decide_eq_true_eq] at hif
    refine ⟨⟨by omega, by omega, sz _ (by omega)⟩, ⟨by omega, by omega, sz _ (by omega)⟩, sz _ (by omega), b, _, o2, rfl, set_at ho, hb2, by decide, by decide, fun g o3 g0 g1 hb3 => ?_⟩
    obtain ⟨g, rfl⟩ := Int.eq_ofNat_of_zero_le g0
    sizeOf_list_dec
    simp only [List.flatten_replicate_singleton, List.length_replicate, List.length_append, List.set_set]
    refine ⟨⟨by omega, by omega, sz _ (by omega)⟩, sz _ (by omega), b, _, o3, rfl, set_at ho, hb3, by decide, by decide, fun i x o4 hx hb4 => ?_⟩
    obtain ⟨h, rfl, hh⟩ : ∃ h : Nat, x = .int h ∧ h ≤ 1 := by
      match i, hx with
      | 0, z => exact ⟨1, (Option.some.inj z).symm, Nat.le_refl _⟩
      | 1, z => exact ⟨1, (Option.some.inj z).symm, Nat.le_refl _⟩
      | 2, z => exact ⟨1, (Option.some.inj z).symm, Nat.le_refl _⟩
      | 3, z => exact ⟨0, (Option.some.inj z).symm, Nat.zero_le _⟩
      | n + 4, z => cases z
    sizeOf_list_dec
    simp only [List.flatten_replicate_singleton, List.length_replicate, List.length_append, List.set_set]
    refine ⟨⟨by omega, by omega, sz _ (by omega)⟩, sz _ (by omega), ⟨by omega, by omega, sz _ (by omega)⟩, ?_⟩
    have ek : List.replicate (1 + (a : Int)).toNat (Dt.str "name") ++ List.replicate (t : Int).toNat (Dt.str "tick") ++ List.replicate (g : Int).toNat (Dt.tup (cutD ws none (some 2))) ++ List.replicate (h : Int).toNat (Dt.str "worth") = mainKinds ws (a + 1) t g h := by
      have e2 : cutD ws none (some 2) = ws.take 2 := cutD_pre (k := 2)
      rw [e2, show (1 + (a : Int)).toNat = a + 1 by omega]
      rfl
    have el : ((((1 + (a : Int)).toNat + (t : Int).toNat + (g : Int).toNat + (h : Int).toNat : Nat) : Int)).toNat = (mainKinds ws (a + 1) t g h).length := by
      unfold mainKinds
      simp only [List.length_append, List.length_replicate]
      omega
    have hk : (mainKinds ws (a + 1) t g h).length ≤ 6 := by
      rw [← el]
      omega
    rw [ek, el]
    refine lc_rng (fun i => .tup [ws.getD i .non, (mainKinds ws (a + 1) t g h).getD i .non]) (fun i hi k s hq => ?_) ?_
    · sizeOf_list_dec
      rw [Int.zero_add, at_nat .non (show i < ws.length by omega), at_nat .non hi]
      exact hq
    · refine ⟨b, _, o4, rfl, set_at ho, hb4, rfl, ?_, fun es o5 hp hb5 => ?_⟩
      · show (([] : List Dt) ++ _).length < 1000000
        rw [List.nil_append, List.length_map, List.length_range]
        omega
      · rw [List.set_set]
        refine q (a + 1) t g h es o5 ⟨by omega, by omega, by omega, by omega, by omega, by omega⟩ ?_ hb5
        have e9 : (List.range (mainKinds ws (a + 1) t g h).length).map (fun i => Dt.tup [ws.getD i .non, (mainKinds ws (a + 1) t g h).getD i .non]) = mainCols ws (a + 1) t g h := map_zip (fun (w k : Dt) => Dt.tup [w, k]) Dt.non Dt.non (by omega)
        have hp : es.Perm ([] ++ (List.range (mainKinds ws (a + 1) t g h).length).map fun i => .tup [ws.getD i .non, (mainKinds ws (a + 1) t g h).getD i .non]) := hp
        rw [List.nil_append, e9] at hp
        exact hp
end
end Bl
namespace Bl
open PySem L2 De
local macro_rules | `(tactic| sizeOf_list_dec) => `(tactic| simp only [dDef, startS, dSeqS, dNext, dBrk, dCnt, dAsg, dDrop, dRet, dRetN, dIfS, dFor, dVar, dC, dNil, dCons, dOp, dFn, dTst, dAndT, dOrT, dNotT, dAnd, dOr, dNot, dIfE, dChain, dTup, dLst, dLstO, dIsi, dStar, dPart, dNoPart, dSl, dAppend, dAppV, dRng1, dRng2, dEnum, dEnumA, dZip, dCount, dCount.isSeqL, dCount.itemsL, end_at, end_set, rdd_end, dgName, dgNil, dgCons, dgTup, dSeq, dLc, dLcO, dYes, dCall, dCall0,
  rdd_d, rdds_nil, rdds_cons, asB_bl, asL_some, seq_lst, seq_tup, seq_str, ex_sl, dts, opIsN, opNotN, opEq, opNe, has_str_non, has_int_non, has_bool_non, has_list_non, has_tuple_non, has_dict_non, isN_non, notRaw_non, data_non, has_str_bl, has_int_bl, has_bool_bl, has_list_bl, has_tuple_bl, has_dict_bl, isN_bl, notRaw_bl, data_bl, has_str_int, has_int_int, has_bool_int, has_list_int, has_tuple_int, has_dict_int, isN_int, notRaw_int, data_int, has_str_str, has_int_str, has_bool_str, has_list_str, has_tuple_str, has_dict_str, isN_str, notRaw_str, data_str, has_str_lst, has_int_lst, has_bool_lst, has_list_lst, has_tuple_lst, has_dict_lst, isN_lst, notRaw_lst, data_lst, has_str_tup, has_int_tup, has_bool_tup, has_list_tup, has_tuple_tup, has_dict_tup, isN_tup, notRaw_tup, data_tup, has_str_dct, has_int_dct, has_bool_dct, has_list_dct, has_tuple_dct, has_dict_dct, isN_dct, notRaw_dct, data_dct, has_str_ins, has_int_ins, has_bool_ins, has_list_ins, has_tuple_ins, has_dict_ins, isN_ins, notRaw_ins, data_ins, has_str_raw, has_int_raw, has_bool_raw, has_list_raw, has_tuple_raw, has_dict_raw, isN_raw, notRaw_raw, data_raw, has_str_lam, has_int_lam, has_bool_lam, has_list_lam, has_tuple_lam, has_dict_lam, isN_lam, notRaw_lam, data_lam, dLam, dAllGot, keyD_int, keyD_str, add_int, add_str, add_lst, add_tup, i0_int, oi_int, in_lst, in_tup, in_dct_str, in_sign, optP_some, De.ix_lst, De.ix_tup, ix_dct_str, all_lst, atI_0, atI_1, atI_2, len_lst, len_tup, len_str, tuple_lst, tuple_tup, list_lst, list_tup, pln_non, dep_non, pln_bl, dep_bl, pln_int, dep_int, pln_str, dep_str, pln_lst, pln_tup, dep_lst, dep_tup, plns_nil, plns_cons, deps_nil, deps_cons, eqB_int, eqB_str, eqB_non_str, eqB_str_non, eqB_bl_str, eqB_str_bl, eqB_int_str, eqB_str_int, eqB_lst_str, eqB_str_lst, eqB_tup_str, eqB_str_tup, sz_0, sz_1, sz_2, sz_3, sz_4, sz_5, sz_6, sz_7, sz_8, sz_9, sz_10, sz_11, sz_12, sz_13, sz_14, lcStep, wipeS, dLenSet, isSeq, itemsD, dDc, dcStep, dFld, dFldS, dFldA, insD, InsF.look, InsF.lack, dMeth, dMethN, dProp, dMake, dMakeK, dRaise, dCallL, opTab, opInTab, dAppE, dInsE, lstAt, dIndexL, dLcK, fxVar, fxFld, putG, dFrz, dGot, dPar, int_int, int_bl, abs_int, min_int, max_int, mul_int, mul_lst, dgSub, List.lookup_cons, List.lookup_nil, Int.reduceNeg, List.map_cons, List.map_nil, List.length_cons, List.length_nil, List.replicate_succ, List.replicate_zero, List.append_nil, List.nil_append, List.cons_append, List.set_cons_zero, List.set_cons_succ,
  Option.map_some, Option.map_none, Nat.zero_add, Nat.add_zero, Nat.reduceAdd, Nat.reduceLeDiff, Nat.min_self, Nat.reduceSub, Nat.sub_self, Nat.add_one_sub_one, List.getElem?_cons_zero, List.getElem?_cons_succ, if_true, if_false, true_and, and_true, Bool.not_true, Bool.not_false, Bool.true_or, Bool.false_or, Bool.or_true, Bool.or_false, Bool.true_and, Bool.false_and, Bool.and_true, Bool.and_false, Bool.false_eq_true, reduceIte, reduceCtorEq, Bool.not_eq_true', not_true_eq_false, not_false_eq_true, exists_eq_left', exists_eq_left, exists_and_left, Option.some.injEq, Ov.o.injEq, OO.lst.injEq, Ov.d.injEq, and_self])
abbrev n_bad_column : List Str := ["_law_box_here", "_law_column", "_law_words"]
theorem sc_bad_column : FnScope n_bad_column ["_law_box_here", "_law_column", "_law_words"] (defScope s_bad_column) := ⟨rfl, rfl, rfl, by decide +kernel, rfl, by decide +kernel, by decide +kernel⟩
section
variable {P : Program} {w : World} {K : PySem.W.Frag} {mg : Str → Option Value} {base : Heap}
def badCols (n k : Dt) (ws : List Dt) : List Dt := [.non, .lst [n, k], .tup [n, k, .int 1], .tup [.str "A", k], .tup [n, .str "text"], .tup [n, .tup []], .tup [n, .tup [ws.getD 0 .non, ws.getD 0 .non]], .tup [n, .tup [ws.getD 0 .non, .str "tick"]],
  .tup [.str "own", k], .tup [n, .non], .tup [n, .tup [ws.getD 0 .non, ws.getD 1 .non, ws.getD 2 .non, ws.getD 3 .non]], .tup [.int 1, .str "name"], n, .tup [n, .lst [ws.getD 0 .non]]]
def fBadCol : FD := fun xs os Q _ => ∃ b n k ws o, xs = [.o b, .d (.tup [n, k]), .d (.lst ws)] ∧ os[b]? = some o ∧ BoxO o ∧ 4 ≤ ws.length ∧ ∀ d o', d ∈ badCols n k ws → BoxO o' → Q (.d d) (os.set b o')
theorem ok_badColD (T : Top K w mg) : FnOk P w K mg base CX0 3 T.a_bad_column T.d_bad_column ["_law_box_here", "_law_column", "_law_words"] (spD K (zT T) 3 fBadCol) := by
  refine fn_d T.F_bad_column sc_bad_column (fun cdv A outer s H E hr => (pss_oneD (psd_ret (pd_call0 (pe_call (ok_ofD T) (hr.mono (by decide)) rfl T.m_of T.F_of.kp T.b_of .nil pass0 (pad_cons (pd_var (pv 0)) (pad_cons (pd_lst (pad_cons pd_non (pad_cons (pd_callTy cd_list (by rfl) T.z_list (by decide +kernel) (pad_cons (pd_var (pv 1)) pad_nil)) (pad_cons (pd_op od_add (pd_var (pv 1)) (pd_tup (pad_cons pd_int pad_nil))) (pad_cons (pd_tup (pad_cons pd_str (pad_cons (pd_ix (od_ix (hu_of hr)) (pd_var (pv 1)) pd_int) pad_nil))) (pad_cons (pd_tup (pad_cons (pd_ix (od_ix (hu_of hr)) (pd_var (pv 1)) pd_int) (pad_cons pd_str pad_nil))) (pad_cons (pd_tup (pad_cons (pd_ix (od_ix (hu_of hr)) (pd_var (pv 1)) pd_int) (pad_cons (pd_tup pad_nil) pad_nil))) (pad_cons (pd_tup (pad_cons (pd_ix (od_ix (hu_of hr)) (pd_var (pv 1)) pd_int) (pad_cons (pd_tup (pad_cons (pd_ix (od_ix (hu_of hr)) (pd_var (pv 2)) pd_int) (pad_cons (pd_ix (od_ix (hu_of hr)) (pd_var (pv 2)) pd_int) pad_nil))) pad_nil))) (pad_cons (pd_tup (pad_cons (pd_ix (od_ix (hu_of hr)) (pd_var (pv 1)) pd_int) (pad_cons (pd_tup (pad_cons (pd_ix (od_ix (hu_of hr)) (pd_var (pv 2)) pd_int) (pad_cons pd_str pad_nil))) pad_nil))) (pad_cons (pd_tup (pad_cons pd_str (pad_cons (pd_ix (od_ix (hu_of hr)) (pd_var (pv 1)) pd_int) pad_nil))) (pad_cons (pd_tup (pad_cons (pd_ix (od_ix (hu_of hr)) (pd_var (pv 1)) pd_int) (pad_cons pd_non pad_nil))) (pad_cons (pd_tup (pad_cons (pd_ix (od_ix (hu_of hr)) (pd_var (pv 1)) pd_int) (pad_cons (pd_tup (pad_cons (pd_ix (od_ix (hu_of hr)) (pd_var (pv 2)) pd_int) (pad_cons (pd_ix (od_ix (hu_of hr)) (pd_var (pv 2)) pd_int) (pad_cons (pd_ix (od_ix (hu_of hr)) (pd_var (pv 2)) pd_int) (pad_cons (pd_ix (od_ix (hu_of hr)) (pd_var (pv 2)) pd_int) pad_nil))))) pad_nil))) (pad_cons (pd_tup (pad_cons pd_int (pad_cons pd_str pad_nil))) (pad_cons (pd_ix (od_ix (hu_of hr)) (pd_var (pv 1)) pd_int) (pad_cons (pd_tup (pad_cons (pd_ix (od_ix (hu_of hr)) (pd_var (pv 1)) pd_int) (pad_cons (pd_lst (pad_cons (pd_ix (od_ix (hu_of hr)) (pd_var (pv 2)) pd_int) pad_nil)) pad_nil))) pad_nil))))))))))))))) pad_nil))))))) (fun xs os Q Ex hn h => ?_)
  obtain ⟨b, n, k, ws, o, rfl, ho, hb, lw, q⟩ := h
  have e0 : atI ws 0 = some (ws.getD 0 .non) := at_get (xs := ws) Dt.non (n := 0) rfl (by omega)
  have e1 : atI ws 1 = some (ws.getD 1 .non) := at_get (xs := ws) Dt.non (n := 1) rfl (by omega)
  have e2 : atI ws 2 = some (ws.getD 2 .non) := at_get (xs := ws) Dt.non (n := 2) rfl (by omega)
  have e3 : atI ws 3 = some (ws.getD 3 .non) := at_get (xs := ws) Dt.non (n := 3) rfl (by omega)
  sizeOf_list_dec
  simp only [e0, e1, e2, e3]
  sizeOf_list_dec
  trace_state
  exact ⟨b, .lst _, o, rfl, ho, hb, by simp only [List.length_cons]; omega, by simp only [List.length_cons, List.length_nil]; omega, fun i x o' hx hb' => q x o' (List.mem_of_getElem? hx) hb'⟩
end
end Bl
namespace Bl
open PySem L2 De
structure GoodN (d : Dt) : Prop where
  nm : nmD d = true
  own : txt d ≠ "own"
  no : inD d kinds3 = false
theorem GoodN.tag {d : Dt} (h : GoodN d) : tagB d = true := by
  unfold tagB
  rw [h.nm, h.no]
  rfl
theorem S_inj {a b : List Nat} (h : SX.S a = SX.S b) : a = b := by
  have := congrArg (fun s : Str => s.cps.toList) h
  simpa [SX.S] using this
theorem nm_good {z : List Nat} (h : NameL z) : GoodN (nmT z) := by
  obtain ⟨n1, n2, n3, n4⟩ := h.no
  refine ⟨h.nameB, fun e => n1 (S_inj (e.trans own_eq)), ?_⟩
  have h2 : ∀ o : List Nat, z ≠ o → eqB (.str (SX.S o)) (nmT z) = false := fun o ne => by
    rw [eqB_str]
    exact decide_eq_false fun e => ne (S_inj e).symm
  unfold inD kinds3
  simp only [List.any_cons, List.any_nil, name4_eq, tick4_eq, worth5_eq, h2 _ n2, h2 _ n3, h2 _ n4, Bool.or_false]
structure WordsD (ws : List Dt) (n : Nat) : Prop where
  len : ws.length = n
  good : ∀ d ∈ ws, GoodN d
  nd : ws.Nodup
theorem words_of {zs : List (List Nat)} {n : Nat} (h : Nms n zs) : WordsD (zs.map nmT) n := by
  refine ⟨by rw [List.length_map]; exact h.len, fun d hd => ?_, ?_⟩
  · obtain ⟨z, hz, rfl⟩ := List.mem_map.mp hd
    exact nm_good (h.nm z hz)
  · rw [List.Nodup, List.pairwise_map]
    refine List.Pairwise.imp ?_ h.nd
    intro a b ne e
    exact ne (S_inj (Dt.str.inj e))
theorem inD_mem {d : Dt} {ds : List Dt} (hd : nmD d = true) : inD d ds = true ↔ d ∈ ds := by
  unfold inD
  rw [List.any_eq_true, nm_txt hd]
  constructor
  · rintro ⟨x, hx, e⟩
    cases x with
    | str z =>
      rw [eqB_str] at e
      rw [← of_decide_eq_true e]
      exact hx
    | _ =>
      have := e.symm.trans (eqB_str_ne (by intro _ z; cases z))
      cases this
  · intro h
    exact ⟨_, h, by rw [eqB_str]; exact decide_eq_true rfl⟩
theorem inD_not {d : Dt} {ds : List Dt} (hd : nmD d = true) : inD d ds = false ↔ d ∉ ds := by
  rw [← inD_mem hd]
  exact (Bool.not_eq_true _).symm ▸ Iff.rfl
structure MainOk (ms : List Dt) : Prop where
  col : ∀ d ∈ ms, colOf kinds3 d = true
  nd : (ms.map item0).Nodup
  len : 1 ≤ ms.length ∧ ms.length ≤ 6
  nam : inD (.str "name") (ms.map item1) = true
  ticks : (ms.map item1).countP (fun z => eqB z (.str "tick")) ≤ 2
theorem MainOk.nms {ms : List Dt} (h : MainOk ms) : ∀ d ∈ ms, nmD (item0 d) = true := fun d hd => by
  obtain ⟨n, k, rfl, hn⟩ := colOf_get (h.col d hd)
  exact hn
theorem MainOk.perm {ms es : List Dt} (h : MainOk ms) (p : es.Perm ms) : MainOk es := by
  refine ⟨fun d hd => h.col d (p.mem_iff.mp hd), (p.map item0).symm.nodup h.nd, by rw [p.length_eq]; exact h.len, ?_, by rw [(p.map item1).countP_eq]; exact h.ticks⟩
  have := h.nam
  unfold inD at this ⊢
  rw [List.any_eq_true] at this ⊢
  obtain ⟨x, hx, e⟩ := this
  exact ⟨x, (p.map item1).mem_iff.mpr hx, e⟩
theorem MainOk.wcol {ms : List Dt} (h : MainOk ms) : wCol ms = .non := by
  unfold wCol
  rw [firstAt_none fun j hj => ?_]
  · simp only [h.nam, decide_eq_true h.len.1, decide_eq_true h.len.2, decide_eq_true h.ticks, Bool.and_self, if_true]
  · unfold badCol
    rw [List.getElem?_eq_getElem hj]
    have hm := List.getElem_mem hj
    simp only [h.col _ hm, Bool.not_true, Bool.false_or]
    rw [inD_not (h.nms _ hm)]
    intro hin
    obtain ⟨x, hx, e⟩ := List.mem_map.mp hin
    obtain ⟨i, hi, rfl⟩ := List.getElem_of_mem hx
    rw [List.length_take] at hi
    rw [List.getElem_take] at e
    have nd := h.nd
    have h1 : (ms.map item0)[i]? = (ms.map item0)[j]? := by
      rw [List.getElem?_map, List.getElem?_map, List.getElem?_eq_getElem hj, List.getElem?_eq_getElem (by omega : i < ms.length), Option.map_some, Option.map_some, e]
    have := (List.getElem?_inj (by rw [List.length_map]; omega) nd).mp h1
    omega
theorem zip0 : ∀ {ws ks : List Dt}, (List.zipWith (fun w k => Dt.tup [w, k]) ws ks).map item0 = ws.take ks.length
  | [], ks => by simp
  | _ :: _, [] => by simp
  | w :: ws, k :: ks => by
    rw [List.zipWith_cons_cons, List.map_cons, zip0, List.length_cons, List.take_succ_cons]
    rfl
theorem zip1 : ∀ {ws ks : List Dt}, (List.zipWith (fun w k => Dt.tup [w, k]) ws ks).map item1 = ks.take ws.length
  | [], ks => by simp
  | _ :: _, [] => by simp
  | w :: ws, k :: ks => by
    rw [List.zipWith_cons_cons, List.map_cons, zip1, List.length_cons, List.take_succ_cons]
    rfl
theorem zip_mem {ws ks : List Dt} {d : Dt} (h : d ∈ List.zipWith (fun w k => Dt.tup [w, k]) ws ks) : ∃ w ∈ ws, ∃ k ∈ ks, d = .tup [w, k] := by
  obtain ⟨i, hi, rfl⟩ := List.getElem_of_mem h
  rw [List.length_zipWith] at hi
  exact ⟨ws[i]'(by omega), List.getElem_mem _, ks[i]'(by omega), List.getElem_mem _, by rw [List.getElem_zipWith]⟩
theorem kinds_mem {ws : List Dt} {a t g h : Nat} {k : Dt} (hk : k ∈ mainKinds ws a t g h) : k = .str "name" ∨ k = .str "tick" ∨ k = .tup (ws.take 2) ∨ k = .str "worth" := by
  unfold mainKinds at hk
  simp only [List.mem_append, List.mem_replicate] at hk
  rcases hk with ((hk | hk) | hk) | hk
  · exact .inl hk.2
  · exact .inr (.inl hk.2)
  · exact .inr (.inr (.inl hk.2))
  · exact .inr (.inr (.inr hk.2))
theorem kinds_len2 {ws : List Dt} {a t g h : Nat} : (mainKinds ws a t g h).length = a + t + g + h := by
  unfold mainKinds
  simp only [List.length_append, List.length_replicate]
theorem tags_two {ws : List Dt} {n : Nat} (h : WordsD ws n) (hn : 2 ≤ n) : tagsD (.tup (ws.take 2)) = true := by
  have h1 : (ws.take 2).length = 2 := by rw [List.length_take, h.len]; omega
  have h2 : (ws.take 2).all tagB = true := List.all_eq_true.mpr fun d hd => (h.good d (List.mem_of_mem_take hd)).tag
  have h3 : ((ws.take 2).map txt).Nodup := by
    rw [List.Nodup, List.pairwise_map]
    refine List.Pairwise.imp_of_mem ?_ (h.nd.sublist (List.take_sublist 2 ws))
    intro a b ha hb ne e
    refine ne ?_
    rw [nm_txt (h.good a (List.mem_of_mem_take ha)).nm, nm_txt (h.good b (List.mem_of_mem_take hb)).nm, e]
  show (decide (1 ≤ (ws.take 2).length) && (decide ((ws.take 2).length ≤ 3) && ((ws.take 2).all tagB && decide ((ws.take 2).map txt).Nodup))) = true
  rw [h1, h2, decide_eq_true h3]
  decide
theorem main_ok {ws : List Dt} {a t g h : Nat} (w : WordsD ws 6) (m : MainN a t g h) : MainOk (mainCols ws a t g h) := by
  obtain ⟨a1, a3, t2, at_, g1, h1⟩ := m
  have lk := kinds_len2 (ws := ws) (a := a) (t := t) (g := g) (h := h)
  have l6 : (mainKinds ws a t g h).length ≤ 6 := by omega
  have e1 : (mainCols ws a t g h).map item1 = mainKinds ws a t g h := by
    unfold mainCols
    rw [zip1, w.len, List.take_of_length_le l6]
  refine ⟨fun d hd => ?_, ?_, ?_, ?_, ?_⟩
  · obtain ⟨x, hx, k, hk, rfl⟩ := zip_mem hd
    have gx := w.good x hx
    show (nmD x && !decide (txt x = "own") && (inD k kinds3 || tagsD k)) = true
    rw [gx.nm, decide_eq_false gx.own]
    rcases kinds_mem hk with rfl | rfl | rfl | rfl
    · decide +kernel
    · decide +kernel
    · rw [tags_two w (by decide), Bool.or_true]
      rfl
    · decide +kernel
  · unfold mainCols
    rw [zip0]
    exact w.nd.sublist (List.take_sublist _ _)
  · unfold mainCols
    rw [List.length_zipWith, w.len, lk]
    omega
  · rw [e1]
    unfold inD mainKinds
    rw [List.any_eq_true]
    refine ⟨.str "name", ?_, by decide +kernel⟩
    simp only [List.mem_append, List.mem_replicate]
    exact .inl (.inl (.inl ⟨by omega, trivial⟩))
  · rw [e1]
    unfold mainKinds
    have c1 : eqB (.str "name") (.str "tick") = false := by decide +kernel
    have c2 : eqB (.str "tick") (.str "tick") = true := by decide +kernel
    have c3 : eqB (.tup (ws.take 2)) (.str "tick") = false := eqB_str_ne (by intro _ z; cases z)
    have c4 : eqB (.str "worth") (.str "tick") = false := by decide +kernel
    simp only [List.countP_append, List.countP_replicate, c1, c2, c3, c4, if_true, Bool.false_eq_true, if_false]
    omega
section
variable {ws : List Dt} {n : Nat}
theorem WordsD.at_ (w : WordsD ws n) {k : Nat} (h : k < n) : ws.getD k .non ∈ ws := List.mem_of_getElem? (get_at Dt.non (by rw [w.len]; exact h))
theorem WordsD.ne (w : WordsD ws n) {i j : Nat} (hi : i < n) (hj : j < n) (ne : i ≠ j) : ws.getD i .non ≠ ws.getD j .non := fun e => by
  have h1 := get_at (xs := ws) Dt.non (show i < ws.length by rw [w.len]; exact hi)
  have h2 := get_at (xs := ws) Dt.non (show j < ws.length by rw [w.len]; exact hj)
  rw [← e, ← h1] at h2
  exact ne ((List.getElem?_inj (by rw [w.len]; exact hj) w.nd).mp h2).symm
end
end Bl
namespace Bl
open PySem L2 De
abbrev isTup (d : Dt) : Bool := match item1 d with | .tup _ => true | _ => false
theorem colOf_pln {d : Dt} (h : colOf kinds3 d = true) : pln d = true := by
  obtain ⟨n, k, rfl, hn⟩ := colOf_get h
  have h : (nmD n && !decide (txt n = "own") && (inD k kinds3 || tagsD k)) = true := h
  have hk : pln k = true := by
    simp only [Bool.and_eq_true, Bool.or_eq_true] at h
    rcases h.2 with h | h
    · cases k with
      | str z => exact pln_str
      | _ =>
        unfold inD kinds3 at h
        simp [eqB] at h
    · cases k with
      | tup ds =>
        have h : (decide (1 ≤ ds.length) && (decide (ds.length ≤ 3) && (ds.all tagB && decide (ds.map txt).Nodup))) = true := h
        simp only [Bool.and_eq_true] at h
        rw [pln_tup]
        exact plns_all fun e he => (nm_pln (Bool.and_eq_true_iff.mp (List.all_eq_true.mp h.2.2.1 e he)).1).1
      | _ => cases h
  rw [pln_tup, plns_cons, plns_cons, plns_nil, (nm_pln hn).1, hk]
  rfl
theorem MainOk.plns {ms : List Dt} (h : MainOk ms) : plns ms = true := plns_all fun d hd => colOf_pln (h.col d hd)
theorem prod_le {ms : List Dt} (h : ∀ d ∈ ms, tagLen d ≤ 2 ∧ (isTup d = false → tagLen d = 1)) : prodT ms ≤ 2 ^ ms.countP isTup := by
  induction ms with
  | nil => exact Nat.le_refl _
  | cons d r ih =>
    have i := ih fun e he => h e (List.mem_cons_of_mem _ he)
    obtain ⟨h1, h2⟩ := h d List.mem_cons_self
    show tagLen d * prodT r ≤ _
    cases e : isTup d with
    | true =>
      rw [List.countP_cons_of_pos e, Nat.pow_succ, Nat.mul_comm]
      exact Nat.mul_le_mul i h1
    | false =>
      rw [List.countP_cons_of_neg (by simp [e]), h2 e, Nat.one_mul]
      exact i
theorem prod_main {ws ms : List Dt} {a t g h : Nat} (w : WordsD ws 6) (m : MainN a t g h) (hp : ms.Perm (mainCols ws a t g h)) : prodT ms ≤ 24 := by
  have l6 : (mainKinds ws a t g h).length ≤ 6 := by
    obtain ⟨a1, a3, t2, at_, g1, h1⟩ := m
    rw [kinds_len2]
    omega
  have c1 : ms.countP isTup ≤ 1 := by
    rw [hp.countP_eq]
    have e1 : (mainCols ws a t g h).map item1 = mainKinds ws a t g h := by
      unfold mainCols
      rw [zip1, w.len, List.take_of_length_le l6]
    have e2 : (mainCols ws a t g h).countP isTup = ((mainCols ws a t g h).map item1).countP fun k => match k with | .tup _ => true | _ => false := by
      rw [List.countP_map]
      rfl
    rw [e2, e1]
    unfold mainKinds
    simp only [List.countP_append, List.countP_replicate, if_true, Bool.false_eq_true, if_false]
    have := m.g1
    omega
  refine Nat.le_trans (prod_le fun d hd => ?_) (Nat.le_trans (Nat.pow_le_pow_right (by decide) c1) (by decide))
  obtain ⟨x, _, k, hk, rfl⟩ := zip_mem (hp.mem_iff.mp hd)
  rcases kinds_mem hk with rfl | rfl | rfl | rfl
  · exact ⟨Nat.le_succ 1, fun _ => rfl⟩
  · exact ⟨Nat.le_succ 1, fun _ => rfl⟩
  · refine ⟨?_, fun e => by cases e⟩
    show (ws.take 2).length ≤ 2
    rw [List.length_take]
    omega
  · exact ⟨Nat.le_succ 1, fun _ => rfl⟩
theorem ot_end {L m : List OO} {x y : OO} : ot (L ++ [x]) L.length y m = L ++ y :: m := by
  unfold ot
  rw [List.set_append_right _ _ (Nat.le_refl _), Nat.sub_self, List.set_cons_zero, List.append_assoc]
  rfl
theorem fit_nm {d : Dt} {n : Nat} (h : nmD d = true) : fitD (n + 1) d = true := by
  rw [nm_txt h]
  rfl
theorem fit_tup {ds : List Dt} {n : Nat} (h : ds.length < 1000000) (k : ∀ d ∈ ds, fitD n d = true) : fitD (n + 1) (.tup ds) = true := by
  show (decide (ds.length < 1000000) && ds.all (fitD n)) = true
  rw [decide_eq_true h, List.all_eq_true.mpr k]
  rfl
theorem fit_lst {ds : List Dt} {n : Nat} (h : ds.length < 1000000) (k : ∀ d ∈ ds, fitD n d = true) : fitD (n + 1) (.lst ds) = true := by
  show (decide (ds.length < 1000000) && ds.all (fitD n)) = true
  rw [decide_eq_true h, List.all_eq_true.mpr k]
  rfl
theorem plns_app : ∀ {a b : List Dt}, plns (a ++ b) = (plns a && plns b)
  | [], b => by rw [List.nil_append, plns_nil, Bool.true_and]
  | x :: a, b => by rw [List.cons_append, plns_cons, plns_cons, plns_app, Bool.and_assoc]
theorem pd_makeK0 {X : Cx} {Z : Zs} {E : XK} {e : Expr} {C : Addr} {m N : Nat} {F : FD} {dk : DA} {gV : List V → List V → List V} {gD : List Ov → List Ov → List Ov} (h : PE X e (tMakeK C 0 m (spD X.K Z N F) gV E tNil (lift X.K Z E (RA X.K) dk)))
    (hg : ∀ (G : Hp) (ρ : List Addr) (vs zs : List V) (xs ys : List Ov), Paired (OvR X.K G ρ) vs xs → Paired (OvR X.K G ρ) zs ys → vs.length = 0 + 1 → zs.length = m → Paired (OvR X.K G ρ) (gV vs zs) (gD xs ys)) : PD X Z E e (dMakeK C 0 m N F gD dNil dk) :=
  pd_of h fun σ H Q W G ρ sl os Qd Ex p q => p.bind (RS := RA X.K) _ q fun ys os2 zs G2 ρ2 H2 q2 p2 r2 e2 => by
    obtain ⟨_, hy, hN, hF⟩ := q2
    have l2 : zs.length = m := (pairs_len r2).trans hy
    refine ⟨rfl, l2, fun x dx hx hdx ne => ?_⟩
    obtain ⟨w1, g1⟩ := p2.wo.new hdx (.own x)
    have hx1 : upd H2 dx (.own x) x = none := by rw [upd_ne ne.symm]; exact hx
    obtain ⟨w2, e2'⟩ := w1.obj hx1 (o := .ins C dx []) (x := .ins C []) fun e => ⟨dx, [], upd_same, .nil⟩
    have e3 := (Ext.of g1).trans e2'
    refine ⟨W, _, _, _, _, _, Ex, w2, hg _ _ _ _ _ _ (.cons (b := .o os2.length) (show OvR X.K _ _ (.ref x) (.o os2.length) from ⟨x, at_last p2.wo.len, rfl⟩) .nil) (OvRs.mono e3 r2) rfl l2, hN, p2.ek.mono e3, hF, ?_⟩
    rintro y os' v G' ρ' H' ⟨rfl, q2⟩ w' e' r'
    cases r'
    refine ⟨rfl, p2.po _ _ _ _ _ _ q2 w' (e3.trans e') ?_⟩
    obtain ⟨l, rfl⟩ := e'.r
    refine ⟨x, ?_, rfl⟩
    rw [List.getElem?_append_left (by rw [List.length_append, p2.wo.len]; exact Nat.lt_succ_self _)]
    exact at_last p2.wo.len
end Bl
namespace Bl
open PySem L2 De
structure ColG (ds : List Dt) : Prop where
  ok : ∀ d ∈ ds, colOf kinds3 d = true
  nd : (ds.map item0).Nodup
theorem ColG.sub {ds es : List Dt} (h : ColG ds) (s : es.Sublist ds) : ColG es := ⟨fun d hd => h.ok d (s.mem hd), h.nd.sublist (s.map _)⟩
theorem MainOk.colG {ms : List Dt} (h : MainOk ms) : ColG ms := ⟨h.col, h.nd⟩
theorem ColG.good {pre suf : List Dt} (h : ColG pre) {j : Nat} (hj : j < pre.length) : badCol (pre ++ suf) j = false := by
  unfold badCol
  rw [List.getElem?_append_left hj, List.getElem?_eq_getElem hj, List.take_append_of_le_length (by omega)]
  have hm := List.getElem_mem hj
  have so := h.ok _ hm
  obtain ⟨n, k, e, hn⟩ := colOf_get so
  have hn : nmD (item0 pre[j]) = true := by rw [e]; exact hn
  simp only [so, Bool.not_true, Bool.false_or]
  rw [inD_not hn]
  intro hin
  obtain ⟨x, hx, e2⟩ := List.mem_map.mp hin
  obtain ⟨i, hi, rfl⟩ := List.getElem_of_mem hx
  rw [List.length_take] at hi
  rw [List.getElem_take] at e2
  have h1 : (pre.map item0)[i]? = (pre.map item0)[j]? := by
    rw [List.getElem?_map, List.getElem?_map, List.getElem?_eq_getElem hj, List.getElem?_eq_getElem (by omega : i < pre.length), Option.map_some, Option.map_some, e2]
  have := (List.getElem?_inj (by rw [List.length_map]; omega) h.nd).mp h1
  omega
theorem wCol_pre {pre suf : List Dt} {b : Dt} (h : ColG pre) (hb : colOf kinds3 b = false ∨ inD (item0 b) (pre.map item0) = true) : wCol (pre ++ b :: suf) = .int (pre.length : Nat) := by
  unfold wCol
  rw [firstAt_some (i := pre.length) (by rw [List.length_append, List.length_cons]; omega) ?_ fun j hj => h.good hj]
  unfold badCol
  rw [List.getElem?_append_right (Nat.le_refl _), Nat.sub_self, List.getElem?_cons_zero, List.take_append_of_le_length (Nat.le_refl _), List.take_length]
  rcases hb with hb | hb
  · simp only [hb, Bool.not_false, Bool.true_or]
  · simp only [hb, Bool.or_true]
theorem wCol_few {ds : List Dt} (h : ColG ds) (hb : (decide (1 ≤ ds.length) && decide (ds.length ≤ 6) && inD (.str "name") (ds.map item1) && decide ((ds.map item1).countP (fun z => eqB z (.str "tick")) ≤ 2)) = false) : wCol ds = .int (ds.length : Nat) := by
  unfold wCol
  rw [firstAt_none fun j hj => ?_]
  · show (if _ = true then _ else _) = _
    rw [hb]
    rfl
  · have := h.good (suf := []) hj
    rwa [List.append_nil] at this
theorem in3_tup {ts : List Dt} : inD (.tup ts) kinds3 = false := by
  unfold inD
  simp only [kinds3, List.any_cons, List.any_nil, eqB_str_tup, Bool.or_false]
theorem col_nm {n k : Dt} (h : nmD n = false) : colOf kinds3 (.tup [n, k]) = false := by
  show (nmD n && !decide (txt n = "own") && (inD k kinds3 || tagsD k)) = false
  rw [h]
  rfl
theorem col_kind {n k : Dt} (h : (inD k kinds3 || tagsD k) = false) : colOf kinds3 (.tup [n, k]) = false := by
  show (nmD n && !decide (txt n = "own") && (inD k kinds3 || tagsD k)) = false
  rw [h, Bool.and_false]
theorem bad_cols {ws : List Dt} (w : WordsD ws 12) {n k d : Dt} (hc : colOf kinds3 (.tup [n, k]) = true) (h : d ∈ badCols n k ws) : colOf kinds3 d = false := by
  have hn : nmD n = true := by
    obtain ⟨n', k', e, hn⟩ := colOf_get hc
    cases e
    exact hn
  unfold badCols at h
  simp only [List.mem_cons, List.not_mem_nil, or_false] at h
  rcases h with rfl | rfl | rfl | rfl | rfl | rfl | rfl | rfl | rfl | rfl | rfl | rfl | rfl | rfl
  · rfl
  · rfl
  · rfl
  · exact col_nm (by decide +kernel)
  · exact col_kind (by decide +kernel)
  · exact col_kind (by rw [in3_tup]; rfl)
  · refine col_kind ?_
    rw [in3_tup]
    show (decide (1 ≤ 2) && (decide (2 ≤ 3) && (_ && decide _))) = false
    rw [decide_eq_false (by simp : ¬ ([ws.getD 0 .non, ws.getD 0 .non].map txt).Nodup), Bool.and_false]
    rfl
  · refine col_kind ?_
    rw [in3_tup]
    show (decide (1 ≤ 2) && (decide (2 ≤ 3) && ((tagB (ws.getD 0 .non) && (tagB (.str "tick") && true)) && decide _))) = false
    rw [show tagB (.str "tick") = false from by decide +kernel, Bool.false_and, Bool.and_false]
    rfl
  · show (nmD (.str "own") && !decide (txt (.str "own") = "own") && (inD k kinds3 || tagsD k)) = false
    rw [show (!decide (txt (.str "own") = "own")) = false from by decide +kernel, Bool.and_false]
    rfl
  · exact col_kind (by decide +kernel)
  · refine col_kind ?_
    rw [in3_tup]
    rfl
  · exact col_nm rfl
  · rw [nm_txt hn]
    rfl
  · refine col_kind ?_
    have e : ∀ z, eqB (.str z) (.lst [ws.getD 0 .non]) = false := fun z => rfl
    unfold inD
    simp only [kinds3, List.any_cons, List.any_nil, e, Bool.or_false]
    rfl
theorem badc_pln {ws : List Dt} (w : WordsD ws 12) {n k d : Dt} (hn : pln n = true) (hk : pln k = true) (h : d ∈ badCols n k ws) : pln d = true := by
  have pl : ∀ {i : Nat}, i < 12 → pln (ws.getD i .non) = true := fun hi => (nm_pln (w.good _ (w.at_ hi)).nm).1
  unfold badCols at h
  simp only [List.mem_cons, List.not_mem_nil, or_false] at h
  rcases h with rfl | rfl | rfl | rfl | rfl | rfl | rfl | rfl | rfl | rfl | rfl | rfl | rfl | rfl <;>
    first | exact hn | rfl | simp only [pln_tup, pln_lst, plns_cons, plns_nil, pln_str, hn, hk, pl (show 0 < 12 by decide), pl (show 1 < 12 by decide), pl (show 2 < 12 by decide), pl (show 3 < 12 by decide), Bool.and_self, Bool.true_and, Bool.and_true] <;> rfl
def colW (ws : List Dt) (l : List (Nat × Str)) : List Dt := l.map fun p => .tup [ws.getD p.1 .non, .str p.2]
theorem colW_G {ws : List Dt} (w : WordsD ws 12) {l : List (Nat × Str)} (h : ∀ p ∈ l, p.1 < 12 ∧ inD (.str p.2) kinds3 = true) (nd : (l.map (·.1)).Nodup) : ColG (colW ws l) := by
  refine ⟨fun d hd => ?_, ?_⟩
  · obtain ⟨p, hp, rfl⟩ := List.mem_map.mp hd
    obtain ⟨h1, h2⟩ := h p hp
    have g := w.good _ (w.at_ h1)
    show (nmD _ && !decide (txt _ = "own") && (inD (.str p.2) kinds3 || tagsD (.str p.2))) = true
    rw [g.nm, decide_eq_false g.own, h2]
    rfl
  · have e : (colW ws l).map item0 = (l.map (·.1)).map fun i => ws.getD i .non := by
      unfold colW
      rw [List.map_map, List.map_map]
      rfl
    rw [e, List.Nodup, List.pairwise_map]
    refine List.Pairwise.imp_of_mem ?_ nd
    intro a b ha hb ne
    obtain ⟨p, hp, rfl⟩ := List.mem_map.mp ha
    obtain ⟨q, hq, rfl⟩ := List.mem_map.mp hb
    exact w.ne (h p hp).1 (h q hq).1 ne
theorem colW_pln {ws : List Dt} (w : WordsD ws 12) {l : List (Nat × Str)} (h : ∀ p ∈ l, p.1 < 12) : plns (colW ws l) = true := plns_all fun d hd => by
  obtain ⟨p, hp, rfl⟩ := List.mem_map.mp hd
  simp only [pln_tup, plns_cons, plns_nil, pln_str, (nm_pln (w.good _ (w.at_ (h p hp))).nm).1, Bool.and_self]
def wide6 : List (Nat × Str) := [(0, "name"), (1, "name"), (2, "name"), (3, "name"), (4, "name"), (5, "name")]
def wide7 : List (Nat × Str) := [(0, "name"), (1, "name"), (2, "name"), (3, "name"), (4, "name"), (5, "name"), (6, "tick")]
def two2 : List (Nat × Str) := [(0, "tick"), (1, "worth")]
def four4 : List (Nat × Str) := [(0, "name"), (1, "tick"), (2, "tick"), (3, "tick")]
def LotC (e : Dt) : Prop := ∃ ms n, e = .tup [.lst ms, .int n] ∧ wCol ms = .int n ∧ plns ms = true
theorem eqB_refls : ∀ n : Nat, (∀ d : Dt, sizeOf d < n → pln d = true → eqB d d = true) ∧ ∀ ds : List Dt, sizeOf ds < n → plns ds = true → eqBs ds ds = true := by
  intro n
  induction n with
  | zero => exact ⟨fun d h => absurd h (Nat.not_lt_zero _), fun d h => absurd h (Nat.not_lt_zero _)⟩
  | succ n ih =>
    refine ⟨fun d h p => ?_, fun ds h p => ?_⟩
    · cases d with
      | lst ds =>
        rw [eqB]
        rw [pln] at p
        exact ih.2 ds (by simp at h; omega) p
      | tup ds =>
        rw [eqB]
        rw [pln] at p
        exact ih.2 ds (by simp at h; omega) p
      | _ => simp_all [eqB, pln]
    · cases ds with
      | nil => simp [eqBs]
      | cons d ds =>
        rw [plns, Bool.and_eq_true] at p
        rw [eqBs, ih.1 d (by simp at h; omega) p.1, ih.2 ds (by simp at h; omega) p.2]
        rfl
theorem eqB_refl {d : Dt} (h : pln d = true) : eqB d d = true := (eqB_refls (sizeOf d + 1)).1 d (Nat.lt_succ_self _) h
theorem get_end {L m : List OO} {x : OO} : (L ++ x :: m)[L.length]? = some x := by
  rw [List.getElem?_append_right (Nat.le_refl _), Nat.sub_self]
  rfl
theorem prog_good {C CS : Addr} {L : List OO} {md st : Dt} {ms : List Dt} {Q : Ov → List OO → Prop} {Ex : Exn → List OO → Prop} (h : MainOk ms) (pr : prodT ms ≤ 24) (hmd : md = .lst ms ∨ md = .tup ms) (hst : st = .lst [cutThrow] ∨ st = .tup [cutThrow])
    (q : ∀ (a : Nat) (m : List OO), m.all noTb = true → Q (.d .non) (L ++ .ins C (progF ms [] [] a) :: m)) : fProg C CS [.o L.length, .d md, .d st, tup0, tup0] (L ++ [.ins C []]) Q Ex := by
  have ew : wColD md = .non := by rcases hmd with rfl | rfl <;> exact h.wcol
  have ei : itemsD md = ms := by rcases hmd with rfl | rfl <;> rfl
  refine ⟨L.length, md, st, .tup [], .tup [], rfl, get_end, ?_, ?_⟩
  · rcases hmd with rfl | rfl
    · rw [pln_lst]; exact h.plns
    · rw [pln_tup]; exact h.plns
  rw [ew]
  show ProgB _ _ _ _ _ _ _ _ _ _
  rw [ei]
  refine ⟨⟨h.plns, by rw [pln_tup]; exact plns_nil, by rw [pln_tup]; exact plns_nil, by decide, by decide⟩, ?_⟩
  rw [show wSideD (ms.map item0) (.tup []) = .non from rfl]
  refine (if_neg (by rw [show keyOf (kindsOf ms) (.tup []) = true from rfl]; decide)).mpr ⟨[], rfl, hst, pr, ?_⟩
  rw [ot_end]
  exact q _ _ rfl
theorem prog_bad {C CS : Addr} {L : List OO} {md st sd us : Dt} {n : Int} {Q : Ov → List OO → Prop} {Ex : Exn → List OO → Prop} (hp : pln md = true) (hw : wColD md = .int n)
    (q : Ex (("InvalidColumn", ["at"]), [.int n]) (L ++ [.ins C []])) : fProg C CS [.o L.length, .d md, .d st, .d sd, .d us] (L ++ [.ins C []]) Q Ex := by
  refine ⟨L.length, md, st, sd, us, rfl, get_end, hp, ?_⟩
  rw [hw]
  show Ex _ _
  rw [ot_end]
  exact q
theorem main_at {C : Addr} {L m : List OO} {ms sds us : List Dt} {a : Nat} {Q : Ov → List OO → Prop} {Ex : Exn → List OO → Prop} (q : Q (.d (.tup ms)) (L ++ .ins C (progF ms sds us a) :: m)) : fPMain C [.o L.length] (L ++ .ins C (progF ms sds us a) :: m) Q Ex :=
  ⟨L.length, ms, sds, us, a, rfl, get_end, q⟩
/-- a right table's columns fit -/
theorem fit_main {ms : List Dt} (h : MainOk ms) : ∀ d ∈ ms, fitD 7 d = true := fun d hd => by
  have hc := h.col d hd
  obtain ⟨n, k, rfl, hn⟩ := colOf_get hc
  refine fit_tup (n := 6) (by show 2 < 1000000; decide) fun y hy => ?_
  simp only [List.mem_cons, List.not_mem_nil, or_false] at hy
  rcases hy with rfl | rfl
  · exact fit_nm hn
  · have hc : (nmD n && !decide (txt n = "own") && (inD y kinds3 || tagsD y)) = true := hc
    simp only [Bool.and_eq_true, Bool.or_eq_true] at hc
    rcases hc.2 with h3 | h3
    · cases y with
      | str z => rfl
      | _ =>
        unfold inD kinds3 at h3
        simp [eqB] at h3
    · cases y with
      | tup ts =>
        have h3 : (decide (1 ≤ ts.length) && (decide (ts.length ≤ 3) && (ts.all tagB && decide (ts.map txt).Nodup))) = true := h3
        simp only [Bool.and_eq_true, decide_eq_true_eq] at h3
        exact fit_tup (n := 5) (by omega) fun z hz => fit_nm (Bool.and_eq_true_iff.mp (List.all_eq_true.mp h3.2.2.1 z hz)).1
      | _ => cases h3
/-- how deep -/
theorem deps_le {ds : List Dt} {n : Nat} (h : ∀ d ∈ ds, dep d ≤ n) : deps ds ≤ n := by
  have := deps_map (f := id) (xs := ds) (n := n) h
  rwa [List.map_id] at this
theorem dep_nm {d : Dt} (h : nmD d = true) : dep d = 1 := (nm_pln h).2
theorem dep_main {ms : List Dt} (h : MainOk ms) : deps ms ≤ 3 := deps_le fun d hd => by
  have hc := h.col d hd
  obtain ⟨n, k, rfl, hn⟩ := colOf_get hc
  have hk : dep k ≤ 2 := by
    have hc : (nmD n && !decide (txt n = "own") && (inD k kinds3 || tagsD k)) = true := hc
    simp only [Bool.and_eq_true, Bool.or_eq_true] at hc
    rcases hc.2 with h3 | h3
    · cases k with
      | str z => rw [dep_str]; decide
      | _ =>
        unfold inD kinds3 at h3
        simp [eqB] at h3
    · cases k with
      | tup ts =>
        have h3 : (decide (1 ≤ ts.length) && (decide (ts.length ≤ 3) && (ts.all tagB && decide (ts.map txt).Nodup))) = true := h3
        simp only [Bool.and_eq_true, decide_eq_true_eq] at h3
        rw [dep_tup]
        have := deps_le (n := 1) (ds := ts) fun z hz => Nat.le_of_eq (dep_nm (Bool.and_eq_true_iff.mp (List.all_eq_true.mp h3.2.2.1 z hz)).1)
        omega
      | _ => cases h3
  rw [dep_tup, deps_cons, deps_cons, deps_nil, dep_nm hn]
  omega
def lotsL (ws ms : List Dt) (p : Nat) (bad cn : Dt) : List Dt := [.tup [.lst (ms.take p ++ [bad] ++ ms.drop (p + 1)), .int (p : Nat)], .tup [.lst (ms.take p ++ [bad, bad] ++ ms.drop p), .int (p : Nat)], .tup [.lst (ms.take (p + 1) ++ [.tup [cn, .str "name"]] ++ ms.drop (p + 1)), .int ((p + 1 : Nat) : Int)],
  .tup [.lst (colW ws wide7), .int 7], .tup [.lst (colW ws two2), .int 2], .tup [.lst [], .int 0], .tup [.lst (colW ws four4), .int 4]]
theorem lots_all {ws ms : List Dt} {p : Nat} {bad cn ck : Dt} (w : WordsD ws 12) (h : MainOk ms) (hp : ms[p]? = some (.tup [cn, ck])) (hb : colOf kinds3 bad = false) (bpl : pln bad = true) : ∀ e ∈ lotsL ws ms p bad cn, LotC e := fun e he => by
  have hpl : p < ms.length := (List.getElem?_eq_some_iff.mp hp).1
  have spl := h.plns
  have tk : ∀ n, plns (ms.take n) = true := fun n => plns_all fun d hd => plns_mem spl d (List.mem_of_mem_take hd)
  have dr : ∀ n, plns (ms.drop n) = true := fun n => plns_all fun d hd => plns_mem spl d (List.mem_of_mem_drop hd)
  have tl : ∀ n, n ≤ ms.length → (ms.take n).length = n := fun n hn => by rw [List.length_take]; exact Nat.min_eq_left hn
  have hm := List.mem_of_getElem? hp
  have hcn : nmD cn = true := h.nms _ hm
  unfold lotsL at he
  simp only [List.mem_cons, List.not_mem_nil, or_false] at he
  rcases he with rfl | rfl | rfl | rfl | rfl | rfl | rfl
  · refine ⟨_, _, rfl, ?_, ?_⟩
    · rw [List.append_assoc]
      have := wCol_pre (suf := ms.drop (p + 1)) (h.colG.sub (List.take_sublist p _)) (.inl hb)
      rw [tl p (by omega)] at this
      exact this
    · rw [plns_app, plns_app, tk, dr, plns_cons, bpl]
      rfl
  · refine ⟨_, _, rfl, ?_, ?_⟩
    · rw [List.append_assoc]
      have := wCol_pre (suf := bad :: ms.drop p) (h.colG.sub (List.take_sublist p _)) (.inl hb)
      rw [tl p (by omega)] at this
      exact this
    · rw [plns_app, plns_app, tk, dr, plns_cons, plns_cons, bpl]
      rfl
  · refine ⟨_, _, rfl, ?_, ?_⟩
    · rw [List.append_assoc]
      have hin : Dt.tup [cn, ck] ∈ ms.take (p + 1) := by
        refine List.mem_of_getElem? (i := p) ?_
        rw [List.getElem?_take_of_lt (by omega)]
        exact hp
      have := wCol_pre (suf := ms.drop (p + 1)) (b := .tup [cn, .str "name"]) (h.colG.sub (List.take_sublist (p + 1) _)) (.inr ((inD_mem hcn).mpr (List.mem_map_of_mem (f := item0) hin)))
      rw [tl (p + 1) (by omega)] at this
      exact this
    · rw [plns_app, plns_app, tk, dr, plns_cons, pln_tup, plns_cons, plns_cons, pln_str, (nm_pln hcn).1]
      rfl
  · have hg : ∀ q ∈ wide7, q.1 < 12 ∧ inD (.str q.2) kinds3 = true := by decide +kernel
    exact ⟨_, _, rfl, wCol_few (colW_G w hg (by decide)) rfl, colW_pln w fun q hq => (hg q hq).1⟩
  · have hg : ∀ q ∈ two2, q.1 < 12 ∧ inD (.str q.2) kinds3 = true := by decide +kernel
    exact ⟨_, _, rfl, wCol_few (colW_G w hg (by decide)) (by
      show (true && true && inD (.str "name") [.str "tick", .str "worth"] && _) = false
      rw [show inD (.str "name") [.str "tick", .str "worth"] = false from by decide +kernel]
      rfl), colW_pln w fun q hq => (hg q hq).1⟩
  · exact ⟨_, _, rfl, rfl, rfl⟩
  · have hg : ∀ q ∈ four4, q.1 < 12 ∧ inD (.str q.2) kinds3 = true := by decide +kernel
    exact ⟨_, _, rfl, wCol_few (colW_G w hg (by decide)) (by
      show (true && true && _ && decide ([Dt.str "name", .str "tick", .str "tick", .str "tick"].countP (fun z => eqB z (.str "tick")) ≤ 2)) = false
      rw [show decide ([Dt.str "name", .str "tick", .str "tick", .str "tick"].countP (fun z => eqB z (.str "tick")) ≤ 2) = false from by decide +kernel, Bool.and_false]), colW_pln w fun q hq => (hg q hq).1⟩
/-- the wide table is right -/
theorem wide_ok {ws : List Dt} (w : WordsD ws 12) : MainOk (colW ws wide6) := by
  have hg : ∀ q ∈ wide6, q.1 < 12 ∧ inD (.str q.2) kinds3 = true := by decide +kernel
  have G := colW_G w hg (by decide)
  exact ⟨G.ok, G.nd, ⟨by show 1 ≤ 6; decide, by show 6 ≤ 6; decide⟩, by
    show inD (.str "name") [.str "name", .str "name", .str "name", .str "name", .str "name", .str "name"] = true
    decide +kernel, by
    show [Dt.str "name", .str "name", .str "name", .str "name", .str "name", .str "name"].countP (fun z => eqB z (.str "tick")) ≤ 2
    decide +kernel⟩
theorem wide_pr {ws : List Dt} : prodT (colW ws wide6) ≤ 24 := by
  show (1 : Nat) ≤ 24
  decide
end Bl
namespace Bl
open PySem L2 De
local macro_rules | `(tactic| sizeOf_list_dec) => `(tactic| simp only [dDef, startS, dSeqS, dNext, dBrk, dCnt, dAsg, dDrop, dRet, dRetN, dIfS, dFor, dVar, dC, dNil, dCons, dOp, dFn, dTst, dAndT, dOrT, dNotT, dAnd, dOr, dNot, dIfE, dChain, dTup, dLst, dLstO, dIsi, dStar, dPart, dNoPart, dSl, dAppend, dAppV, dRng1, dRng2, dEnum, dEnumA, dZip, dCount, dCount.isSeqL, dCount.itemsL, end_at, end_set, rdd_end, dgName, dgNil, dgCons, dgTup, dSeq, dLc, dLcO, dYes, dCall, dCall0,
  rdd_d, rdds_nil, rdds_cons, asB_bl, asL_some, seq_lst, seq_tup, seq_str, ex_sl, dts, opIsN, opNotN, opEq, opNe, has_str_non, has_int_non, has_bool_non, has_list_non, has_tuple_non, has_dict_non, isN_non, notRaw_non, data_non, has_str_bl, has_int_bl, has_bool_bl, has_list_bl, has_tuple_bl, has_dict_bl, isN_bl, notRaw_bl, data_bl, has_str_int, has_int_int, has_bool_int, has_list_int, has_tuple_int, has_dict_int, isN_int, notRaw_int, data_int, has_str_str, has_int_str, has_bool_str, has_list_str, has_tuple_str, has_dict_str, isN_str, notRaw_str, data_str, has_str_lst, has_int_lst, has_bool_lst, has_list_lst, has_tuple_lst, has_dict_lst, isN_lst, notRaw_lst, data_lst, has_str_tup, has_int_tup, has_bool_tup, has_list_tup, has_tuple_tup, has_dict_tup, isN_tup, notRaw_tup, data_tup, has_str_dct, has_int_dct, has_bool_dct, has_list_dct, has_tuple_dct, has_dict_dct, isN_dct, notRaw_dct, data_dct, has_str_ins, has_int_ins, has_bool_ins, has_list_ins, has_tuple_ins, has_dict_ins, isN_ins, notRaw_ins, data_ins, has_str_raw, has_int_raw, has_bool_raw, has_list_raw, has_tuple_raw, has_dict_raw, isN_raw, notRaw_raw, data_raw, has_str_lam, has_int_lam, has_bool_lam, has_list_lam, has_tuple_lam, has_dict_lam, isN_lam, notRaw_lam, data_lam, dLam, dAllGot, keyD_int, keyD_str, add_int, add_str, add_lst, add_tup, i0_int, oi_int, in_lst, in_tup, in_dct_str, in_sign, optP_some, De.ix_lst, De.ix_tup, ix_dct_str, all_lst, atI_0, atI_1, atI_2, len_lst, len_tup, len_str, tuple_lst, tuple_tup, list_lst, list_tup, pln_non, dep_non, pln_bl, dep_bl, pln_int, dep_int, pln_str, dep_str, pln_lst, pln_tup, dep_lst, dep_tup, plns_nil, plns_cons, deps_nil, deps_cons, eqB_int, eqB_str, eqB_non_str, eqB_str_non, eqB_bl_str, eqB_str_bl, eqB_int_str, eqB_str_int, eqB_lst_str, eqB_str_lst, eqB_tup_str, eqB_str_tup, sz_0, sz_1, sz_2, sz_3, sz_4, sz_5, sz_6, sz_7, sz_8, sz_9, sz_10, sz_11, sz_12, sz_13, sz_14, lcStep, wipeS, dLenSet, isSeq, itemsD, dDc, dcStep, dFld, dFldS, dFldA, insD, InsF.look, InsF.lack, dMeth, dMethN, dProp, dMake, dMakeK, dRaise, dCallL, opTab, opInTab, dAppE, dInsE, lstAt, dIndexL, dLcK, fxVar, fxFld, putG, dFrz, dGot, dPar, int_int, int_bl, abs_int, min_int, max_int, mul_int, mul_lst, dgSub, List.lookup_cons, List.lookup_nil, Int.reduceNeg, List.map_cons, List.map_nil, List.length_cons, List.length_nil, List.replicate_succ, List.replicate_zero, List.append_nil, List.nil_append, List.cons_append, List.set_cons_zero, List.set_cons_succ,
  Option.map_some, Option.map_none, Nat.zero_add, Nat.add_zero, Nat.reduceAdd, Nat.reduceLeDiff, Nat.min_self, Nat.reduceSub, Nat.sub_self, Nat.add_one_sub_one, List.getElem?_cons_zero, List.getElem?_cons_succ, if_true, if_false, true_and, and_true, Bool.not_true, Bool.not_false, Bool.true_or, Bool.false_or, Bool.or_true, Bool.or_false, Bool.true_and, Bool.false_and, Bool.and_true, Bool.and_false, Bool.false_eq_true, reduceIte, reduceCtorEq, Bool.not_eq_true', not_true_eq_false, not_false_eq_true, exists_eq_left', exists_eq_left, exists_and_left, Option.some.injEq, Ov.o.injEq, OO.lst.injEq, Ov.d.injEq, and_self])
abbrev n_law : List Str := ["_law_script", "_law_box_here", "_law_turn", "_law_words", "_law_heads", "_law_cut", "_law_at", "_law_bad", "_law_wide", "_law_lots", "_law_some", "_law_due", "_law_asks", "_law_odd", "_law_k"]
theorem sc_law : FnScope n_law ["_law_script"] (defScope s_law) := ⟨rfl, rfl, rfl, by decide +kernel, rfl, by decide +kernel, by decide +kernel⟩
section
variable {P : Program} {w : World} {K : PySem.W.Frag} {mg : Str → Option Value} {base : Heap}
theorem ok_law (T : Top K w mg) (TB : LamX.TabB base mg T.c_law T.P_law) : FnOk P w K mg base CX0 40 T.a_law T.d_law ["_law_script"] (spLaw K T.P_law) := by
  refine okC T.F_law sc_law (fun vs H Q E h => ?_) (fun cdv A outer s H vs Q E hc hr h => ?_)
  · obtain ⟨a, ns, rfl, _⟩ := h
    rfl
  obtain rfl : cdv = .ref T.c_law := hc.symm.trans T.k_law
  obtain ⟨a, ns, rfl, hS, h63, hP, k⟩ := h
  refine ⟨_, pss_cons (ps_set (i := 1) sc_law.nd rfl (Or.inl rfl) (pe_call (ok_box T) (hr.mono (by decide)) rfl T.m_box T.F_box.kp T.b_box .nil pass0 (pa_cons (pv 0) pa_nil))) (pss_consD (psd_for PassesOwn.never rfl (pid_range1 (pi_range1 (by rfl) T.z_range (pad_cons pd_int pad_nil))) (pgd_name (pg_name (i := 2) sc_law.nd rfl (Or.inl rfl)))
    (pss_consD (psd_asg (ps_asg (pd_call0 (pe_call (ok_namesD T) (hr.mono (by decide)) rfl T.m_names T.F_names.kp T.b_names .nil pass0 (pad_cons (pd_var (pv 1)) (pad_cons pd_int pad_nil)))) (pgd_name (pg_name (i := 3) sc_law.nd rfl (Or.inr rfl)))))
    (pss_consD (psd_asg (ps_asg (pd_call0 (pe_call (ok_mainD T) (hr.mono (by decide)) rfl T.m_main T.F_main.kp T.b_main .nil pass0 (pad_cons (pd_var (pv 1)) (pad_cons (pd_sl (pd_var (pv 3)) pod_none (pod_some pd_int)) pad_nil)))) (pgd_name (pg_name (i := 4) sc_law.nd rfl (Or.inl rfl)))))
    (pss_consD (psd_asg (ps_asg (pd_lst (pad_cons (pd_tup (pad_cons pd_str (pad_cons pd_str pad_nil))) pad_nil)) (pgd_name (pg_name (i := 5) sc_law.nd rfl (Or.inr rfl)))))
    (pss_consD (psd_if (ptd_w (pwd_or (ptd_not (ptd_tst (pd_call0 (pe_call (ok_sameD T 8) (hr.mono (by decide)) rfl T.m_same T.F_same.kp T.b_same .nil pass0 (pad_cons (pd_callTy cd_list (by rfl) T.z_list (by decide +kernel) (pad_cons (pd_prop (pe_prop (pd_makeK (pe_makeK (mk_Program T) (ok_Program___init__ T) (hr.mono (by decide)) rfl T.mc_Program (kb_Program_ T).choose_spec passL (pad_cons (pd_callTy cd_list (by rfl) T.z_list (by decide +kernel) (pad_cons (pd_var (pv 4)) pad_nil)) (pad_cons (pd_var (pv 5)) pad_nil)) pkd_nil) (kg_Program_ T)) T.cl_Program T.M_Program_main (ok_Program_main T) (hr.mono (by decide)) T.b_Program_main .nil pass0 (by rfl))) pad_nil)) (pad_cons (pd_var (pv 4)) pad_nil)))))) (pwd_or1 (ptd_cmp (od_ne hr.units) (pd_prop (pe_prop (pd_makeK (pe_makeK (mk_Program T) (ok_Program___init__ T) (hr.mono (by decide)) rfl T.mc_Program (kb_Program_ T).choose_spec passL (pad_cons (pd_callTy cd_tuple (by rfl) T.z_tuple (by decide +kernel) (pad_cons (pd_var (pv 4)) pad_nil)) (pad_cons (pd_callTy cd_tuple (by rfl) T.z_tuple (by decide +kernel) (pad_cons (pd_var (pv 5)) pad_nil)) pad_nil)) pkd_nil) (kg_Program_ T)) T.cl_Program T.M_Program_main (ok_Program_main T) (hr.mono (by decide)) T.b_Program_main .nil pass0 (by rfl))) (pd_callTy cd_tuple (by rfl) T.z_tuple (by decide +kernel) (pad_cons (pd_var (pv 4)) pad_nil)) (nomark _))))) (pss_oneD (psd_ret pd_bl)) pss_nilD)
    (pss_consD (psd_asg (ps_asg (pd_call0 (pe_call (ok_pullD T) (hr.mono (by decide)) rfl T.m_pull T.F_pull.kp T.b_pull .nil pass0 (pad_cons (pd_var (pv 1)) (pad_cons (pd_callB cd_len (by rfl) T.z_len (by decide +kernel) (pad_cons (pd_var (pv 4)) pad_nil)) pad_nil)))) (pgd_name (pg_name (i := 6) sc_law.nd rfl (Or.inl rfl)))))
    (pss_consD (psd_asg (ps_asg (pd_call0 (pe_call (ok_badColD T) (hr.mono (by decide)) rfl T.m_bad_column T.F_bad_column.kp T.b_bad_column .nil pass0 (pad_cons (pd_var (pv 1)) (pad_cons (pd_ix (od_ix (hu_of hr)) (pd_var (pv 4)) (pd_var (pv 6))) (pad_cons (pd_var (pv 3)) pad_nil))))) (pgd_name (pg_name (i := 7) sc_law.nd rfl (Or.inl rfl)))))
    (pss_consD (psd_setLc (i := 8) rfl rfl (sw_true rfl rfl rfl (by decide +kernel)) (own := [("_law_k", 14)]) (E' := E0) rfl sc_law.nd (pid_range1 (pi_range1 (by rfl) T.z_range (pad_cons pd_int pad_nil))) (blkOk_by (own := [("_law_k", 14)]) (N := n_law) (sc := defScope s_law) (by decide +kernel)) (fun _ _ _ _ _ => (pgd_name (pg_name (i := 14) sc_law.nd rfl (Or.inl rfl)))) (fun _ _ _ _ _ => ptsd_nil) (fun _ _ _ _ _ => (pd_tup (pad_cons (pd_ix (od_ix (hu_of hr)) (pd_var (pv 3)) (pd_var (pv 14))) (pad_cons pd_str pad_nil)))) (by decide))
    (pss_consD (psd_asg (ps_asg (pd_lst (pad_cons (pd_tup (pad_cons (pd_op od_add (pd_op od_add (pd_sl (pd_var (pv 4)) pod_none (pod_some (pd_var (pv 6)))) (pd_lst (pad_cons (pd_var (pv 7)) pad_nil))) (pd_sl (pd_var (pv 4)) (pod_some (pd_op od_add (pd_var (pv 6)) pd_int)) pod_none)) (pad_cons (pd_var (pv 6)) pad_nil))) (pad_cons (pd_tup (pad_cons (pd_op od_add (pd_op od_add (pd_sl (pd_var (pv 4)) pod_none (pod_some (pd_var (pv 6)))) (pd_lst (pad_cons (pd_var (pv 7)) (pad_cons (pd_var (pv 7)) pad_nil)))) (pd_sl (pd_var (pv 4)) (pod_some (pd_var (pv 6))) pod_none)) (pad_cons (pd_var (pv 6)) pad_nil))) (pad_cons (pd_tup (pad_cons (pd_op od_add (pd_op od_add (pd_sl (pd_var (pv 4)) pod_none (pod_some (pd_op od_add (pd_var (pv 6)) pd_int))) (pd_lst (pad_cons (pd_tup (pad_cons (pd_ix (od_ix (hu_of hr)) (pd_ix (od_ix (hu_of hr)) (pd_var (pv 4)) (pd_var (pv 6))) pd_int) (pad_cons pd_str pad_nil))) pad_nil))) (pd_sl (pd_var (pv 4)) (pod_some (pd_op od_add (pd_var (pv 6)) pd_int)) pod_none)) (pad_cons (pd_op od_add (pd_var (pv 6)) pd_int) pad_nil))) (pad_cons (pd_tup (pad_cons (pd_op od_add (pd_var (pv 8)) (pd_lst (pad_cons (pd_tup (pad_cons (pd_ix (od_ix (hu_of hr)) (pd_var (pv 3)) pd_int) (pad_cons pd_str pad_nil))) pad_nil))) (pad_cons pd_int pad_nil))) (pad_cons (pd_tup (pad_cons (pd_lst (pad_cons (pd_tup (pad_cons (pd_ix (od_ix (hu_of hr)) (pd_var (pv 3)) pd_int) (pad_cons pd_str pad_nil))) (pad_cons (pd_tup (pad_cons (pd_ix (od_ix (hu_of hr)) (pd_var (pv 3)) pd_int) (pad_cons pd_str pad_nil))) pad_nil))) (pad_cons pd_int pad_nil))) (pad_cons (pd_tup (pad_cons (pd_lst pad_nil) (pad_cons pd_int pad_nil))) (pad_cons (pd_tup (pad_cons (pd_lc (own := [("_law_k", 14)]) (E' := E0) rfl sc_law.nd (pid_range1 (pi_range1 (by rfl) T.z_range (pad_cons pd_int pad_nil))) (blkOk_by (own := [("_law_k", 14)]) (N := n_law) (sc := defScope s_law) (by decide +kernel)) (fun _ _ _ _ _ => (pgd_name (pg_name (i := 14) sc_law.nd rfl (Or.inl rfl)))) (fun _ _ _ _ _ => ptsd_nil) (fun _ _ _ _ _ => (pd_tup (pad_cons (pd_ix (od_ix (hu_of hr)) (pd_var (pv 3)) (pd_var (pv 14))) (pad_cons (pd_ix (od_ix (hu_of hr)) (pd_lst (pad_cons pd_str (pad_cons pd_str (pad_cons pd_str (pad_cons pd_str pad_nil))))) (pd_var (pv 14))) pad_nil)))) (by decide)) (pad_cons pd_int pad_nil))) pad_nil)))))))) (pgd_name (pg_name (i := 9) sc_law.nd rfl (Or.inl rfl)))))
    (pss_consD (psd_for PassesOwn.never rfl (pid_seq (pd_var (pv 9))) (pgd_tup (n := 2) (pg_tup rfl (pgsd_cons (pgs_cons (pgd_name (pg_name (i := 10) sc_law.nd rfl (Or.inr rfl))) (pgsd_cons (pgs_cons (pgd_name (pg_name (i := 11) sc_law.nd rfl (Or.inl rfl))) pgsd_nil))))))
    (pss_consD (psd_asg (ps_asg (pd_lst (pad_cons (pd_lam (k := 20) (Tb := [(T.P_law, lamQ)]) (nd := false) (D := []) TB rfl (lam_mem (by show (("law" : Str) ++ ".<locals>." ++ "<lambda>") = lamQ; decide +kernel)) (lam_only (by show lamQ = (("law" : Str) ++ ".<locals>." ++ "<lambda>"); decide +kernel)) (.inl ⟨rfl, rfl⟩) (lamSX_by (by show lamSXB [] (defScope s_law) _ = true; decide +kernel)) (fun y h => by cases h) ⟨fun _ _ _ _ _ _ _ => rfl, fun h => (by cases h)⟩ (fun _ _ _ _ _ _ _ hrl => (pd_makeK (pe_makeK (mk_Program T) (ok_Program___init__ T) (hrl.mono (by decide)) rfl T.mc_Program (kb_Program_ T).choose_spec (passes_lamE rfl rfl) (pad_cons (pd_var (pv 10)) (pad_cons (pd_lst (pad_cons pd_non pad_nil)) pad_nil)) pkd_nil) (kg_Program_ T)))) (pad_cons (pd_lam (k := 20) (Tb := [(T.P_law, lamQ)]) (nd := true) (D := ["_law_b"]) TB rfl (lam_mem (by show (("law" : Str) ++ ".<locals>." ++ "<lambda>") = lamQ; decide +kernel)) (lam_only (by show lamQ = (("law" : Str) ++ ".<locals>." ++ "<lambda>"); decide +kernel)) (.inr ⟨rfl, _, _, rfl, rfl⟩) (lamSX_by (by show lamSXB ["_law_b"] (defScope s_law) _ = true; decide +kernel)) (fun y h => by rw [List.mem_singleton.mp h]; show ("_law_b" : Str) ∉ n_law; decide +kernel) ⟨fun h => (by cases h), fun _ => ⟨_, rfl, fun _ _ _ _ _ _ _ => ⟨_, rfl, fun _ => rfl⟩⟩⟩ (fun _ _ _ _ _ _ _ hrl => (pd_makeK0 (pe_makeK0 (mk_Program T) (ok_Program___init__ T) (hrl.mono (by decide)) rfl T.mc_Program (kb_Program_main_steps_sides T).choose_spec (passes_lamE rfl rfl)  (pkd_cons (pk_cons (pd_var (pv 10)) (pkd_cons (pk_cons (pd_var (pv 5)) (pkd_cons (pk_cons (pd_lst (pad_cons pd_non pad_nil)) pkd_nil))))))) (kg_Program_main_steps_sides T)))) pad_nil))) (pgd_name (pg_name (i := 12) sc_law.nd rfl (Or.inl rfl)))))
    (pss_oneD (psd_if (ptd_not (ptd_tst (pd_call0 (pe_call (ok_sameD T 8) (hr.mono (by decide)) rfl T.m_same T.F_same.kp T.b_same .nil pass0 (pad_cons (pd_allgot (k := 20) (Tb := [(T.P_law, lamQ)]) T rfl (fun _ => rfl) (by rfl) (pd_var (pv 12)) (hr.mono (by omega))) (pad_cons (pd_op od_mul (pd_lst (pad_cons (pd_tup (pad_cons pd_str (pad_cons (pd_var (pv 11)) pad_nil))) pad_nil)) pd_int) pad_nil)))))) (pss_oneD (psd_ret pd_bl)) pss_nilD))))
    (pss_consD (psd_asg (ps_asg (pd_call0 (pe_call (ok_ofD T) (hr.mono (by decide)) rfl T.m_of T.F_of.kp T.b_of .nil pass0 (pad_cons (pd_var (pv 1)) (pad_cons (pd_lst (pad_cons pd_non (pad_cons pd_str (pad_cons pd_int (pad_cons pd_bl (pad_cons (pd_ix (od_ix (hu_of hr)) (pd_var (pv 3)) pd_int) pad_nil)))))) pad_nil)))) (pgd_name (pg_name (i := 13) sc_law.nd rfl (Or.inr rfl)))))
    (pss_consD (psd_if (ptd_not (ptd_tst (pd_call0 (pe_call (ok_sameD T 8) (hr.mono (by decide)) rfl T.m_same T.F_same.kp T.b_same .nil pass0 (pad_cons (pd_gl (k := 20) (Tb := [(T.P_law, lamQ)]) T rfl (by rfl) TB rfl (lam_mem (by show (("law" : Str) ++ ".<locals>." ++ "<lambda>") = lamQ; decide +kernel)) (lam_only (by show lamQ = (("law" : Str) ++ ".<locals>." ++ "<lambda>"); decide +kernel)) (hr.mono (by omega)) (hr.mono (by omega)) (LamX.lamS_by (by show LamX.lamSB (defScope s_law) _ = true; decide +kernel)) rfl (fun _ _ _ _ _ => rfl) (fun _ _ _ _ _ _ _ hrl => (pd_makeK (pe_makeK (mk_Program T) (ok_Program___init__ T) (hrl.mono (by decide)) rfl T.mc_Program (kb_Program_unique T).choose_spec (passes_lamE rfl rfl) (pad_cons (pd_var (pv 13)) (pad_cons pd_non pad_nil)) (pkd_cons (pk_cons pd_non pkd_nil))) (kg_Program_unique T)))) (pad_cons (pd_tup (pad_cons pd_str (pad_cons pd_int pad_nil))) pad_nil)))))) (pss_oneD (psd_ret pd_bl)) pss_nilD)
    (pss_oneD (psd_if (ptd_cmp (od_ne hr.units) (pd_callB cd_len (by rfl) T.z_len (by decide +kernel) (pad_cons (pd_prop (pe_prop (pd_makeK (pe_makeK (mk_Program T) (ok_Program___init__ T) (hr.mono (by decide)) rfl T.mc_Program (kb_Program_ T).choose_spec passL (pad_cons (pd_var (pv 8)) (pad_cons (pd_var (pv 5)) pad_nil)) pkd_nil) (kg_Program_ T)) T.cl_Program T.M_Program_main (ok_Program_main T) (hr.mono (by decide)) T.b_Program_main .nil pass0 (by rfl))) pad_nil)) pd_int (nomark _)) (pss_oneD (psd_ret pd_bl)) pss_nilD))))))))))))))
    (pss_oneD (psd_ret pd_bl))), ?_⟩
  refine ⟨_, rfl, a, ns, rfl, hS, h63, fun p l m H1 hp nl hl hb h0 h1 e => ?_⟩
  refine law_start (q := lamQ) (n := n_law.length - 2) hP e hp h63 nl hl hb h0 h1 (fun o ho => ?_) k
  refine seq_go fun N hN => ?_
  sizeOf_list_dec
  refine ⟨by decide, fun _ => ?_⟩
  refine for_inv (fun i sl os => ∃ a2 a3 a4 a5 a6 a7 a8 a9 a10 a11 a12 a13 a14 o l, sl = [none, some (.o 1), a2, a3, a4, a5, a6, a7, a8, a9, a10, a11, a12, a13, a14] ∧ os = lawT T.P_law lamQ o l ∧ BoxO o ∧ l.all noTb = true)
    ⟨_, _, _, _, _, _, _, _, _, _, _, _, _, o, [], rfl, rfl, ho, rfl⟩ ?_ ?_
  · rintro i x _ _ N1 hx ⟨a2, a3, a4, a5, a6, a7, a8, a9, a10, a11, a12, a13, a14, o, l, rfl, rfl, ho, hl⟩ hN1
    clear hN hx
    -- the words
    refine seq_go fun N hN => ?_
    sizeOf_list_dec
    refine ⟨1, 12, o, rfl, law_box, ho, by decide, by decide, fun zs o1 hz ho1 => hN _ _ ?_⟩
    clear hN
    have w12 := words_of hz
    generalize zs.map nmT = ws at w12
    rw [law_set]
    have lw := w12.len
    have e0 : atI ws 0 = some (ws.getD 0 .non) := at_get (xs := ws) Dt.non (n := 0) rfl (by omega)
    have e1 : atI ws 1 = some (ws.getD 1 .non) := at_get (xs := ws) Dt.non (n := 1) rfl (by omega)
    have e6 : atI ws 6 = some (ws.getD 6 .non) := at_get (xs := ws) Dt.non (n := 6) rfl (by omega)
    -- the main table
    refine seq_go fun N hN => ?_
    sizeOf_list_dec
    have w6 : WordsD (ws.take 6) 6 := ⟨by rw [List.length_take, w12.len]; rfl, fun d hd => w12.good d (List.mem_of_mem_take hd), w12.nd.sublist (List.take_sublist _ _)⟩
    rw [show cutD ws none (some 6) = ws.take 6 from cutD_pre (k := 6)]
    refine ⟨1, ws.take 6, o1, rfl, law_box, ho1, w6.len, fun a t g h ms o2 mN hp2 ho2 => ?_⟩
    sizeOf_list_dec
    refine hN _ _ ?_
    clear hN
    have mOk := (main_ok w6 mN).perm hp2
    rw [law_set]
    have mpl := mOk.plns
    have mpr := prod_main w6 mN hp2
    have mlen := mOk.len
    -- the cut
    refine seq_go fun N hN => ?_
    sizeOf_list_dec
    refine hN _ _ ?_
    clear hN
    -- a right one
    refine seq_go fun N hN => ?_
    sizeOf_list_dec
    refine prog_good mOk mpr (.inl rfl) (.inl rfl) fun aa m1 nm1 => ⟨rfl, ?_⟩
    rw [get_end]
    refine ⟨rfl, main_at ?_⟩
    sizeOf_list_dec
    refine ⟨_, _, .lst ms, rfl, rfl, rfl, fit_lst (by omega) (fit_main mOk), ?_⟩
    sizeOf_list_dec
    refine prog_good mOk mpr (.inr rfl) (.inr rfl) fun ab m2 nm2 => ⟨rfl, ?_⟩
    rw [get_end]
    refine ⟨rfl, main_at ?_⟩
    sizeOf_list_dec
    have dm := dep_main mOk
    have plt : pln (.tup ms) = true := by rw [pln_tup]; exact mpl
    refine ⟨⟨mpl, mpl, by omega⟩, ?_⟩
    refine (if_neg (by rw [eqB_refl plt]; decide)).mpr ?_
    rw [law_app, law_app]
    refine hN _ _ ?_
    clear hN
    obtain ⟨l1, el1, nl1⟩ : ∃ l1, l ++ .ins T.C_Program (progF ms [] [] aa) :: m1 ++ .ins T.C_Program (progF ms [] [] ab) :: m2 = l1 ∧ l1.all noTb = true := ⟨_, rfl, by rw [List.all_append, List.all_append, List.all_cons, List.all_cons, hl, nm1, nm2]; rfl⟩
    rw [el1]
    clear el1
    -- the place of the bent column
    refine seq_go fun N hN => ?_
    sizeOf_list_dec
    refine ⟨1, _, o2, rfl, law_box, ho2, by omega, by omega, fun p o3 p0 p1 ho3 => ?_⟩
    obtain ⟨p, rfl⟩ := Int.eq_ofNat_of_zero_le p0
    rw [law_set]
    refine hN _ _ ?_
    clear hN p0
    have hp : p < ms.length := by omega
    -- the bent column
    refine seq_go fun N hN => ?_
    sizeOf_list_dec
    obtain ⟨dp, hdp⟩ : ∃ d, ms[p]? = some d := ⟨_, List.getElem?_eq_getElem hp⟩
    have hdm := List.mem_of_getElem? hdp
    have hdc := mOk.col _ hdm
    obtain ⟨cn, ck, rfl, hcn⟩ := colOf_get hdc
    have hdp2 : atI ms (p : Int) = some (.tup [cn, ck]) := atI_nat hdp
    have dpl := plns_mem mpl _ hdm
    rw [pln_tup, plns_cons, plns_cons] at dpl
    simp only [Bool.and_eq_true] at dpl
    rw [hdp2, optP_some]
    refine ⟨1, cn, ck, ws, o3, rfl, law_box, ho3, by omega, fun bad o4 hbad ho4 => ?_⟩
    rw [law_set]
    refine hN _ _ ?_
    clear hN
    have hbs := bad_cols w12 hdc hbad
    have bpl : pln bad = true := badc_pln w12 dpl.1 dpl.2.1 hbad
    -- six names
    refine seq_go fun N hN => ?_
    sizeOf_list_dec
    refine ⟨by decide, ?_⟩
    refine lc_rng (fun i => .tup [ws.getD i .non, .str "name"]) (fun i hi k s hq => ?_) ?_
    · sizeOf_list_dec
      rw [Int.zero_add, at_nat .non (show i < ws.length by omega)]
      exact hq
    refine hN [none, some (.o 1), some (.d x), some (.d (.lst ws)), some (.d (.lst ms)), some (.d (.lst [cutThrow])), some (.d (.int (p : Nat))), some (.d bad), some (.d (.lst (colW ws wide6))), a9, a10, a11, a12, a13, a14] _ ?_
    clear hN
    -- the lots
    refine seq_go fun N hN => ?_
    sizeOf_list_dec
    have ep : (p : Int) + 1 = ((p + 1 : Nat) : Int) := rfl
    have lw6 : (colW ws wide6).length = 6 := rfl
    rw [e0, e1, e6, hdp2, ep]
    simp only [optP_some, cutD_pre, cutD_suf, List.length_append, List.length_take, List.length_drop, List.length_cons, List.length_nil, lw6]
    refine ⟨szs (by omega), szs (by omega), szs (by omega), szs (by omega), ?_⟩
    show opIx _ _ _
    sizeOf_list_dec
    refine ⟨szs (by omega), szs (by omega), by decide, ?_⟩
    refine lc_rng (fun i => .tup [ws.getD i .non, [Dt.str "name", .str "tick", .str "tick", .str "tick"].getD i .non]) (fun i hi k s hq => ?_) ?_
    · sizeOf_list_dec
      rw [Int.zero_add, at_nat .non (show i < ws.length by omega), at_nat .non (show i < [Dt.str "name", .str "tick", .str "tick", .str "tick"].length from hi)]
      exact hq
    refine hN [none, some (.o 1), some (.d x), some (.d (.lst ws)), some (.d (.lst ms)), some (.d (.lst [cutThrow])), some (.d (.int (p : Nat))), some (.d bad), some (.d (.lst (colW ws wide6))), some (.d (.lst (lotsL ws ms p bad cn))), a10, a11, a12, a13, a14] _ ?_
    clear hN
    have lots := lots_all w12 mOk hdp hbs bpl
    generalize lotsL ws ms p bad cn = lts at lots
    refine seq_go fun N hN => ?_
    sizeOf_list_dec
    intro _
    refine for_inv (fun i sl os => ∃ b10 b11 b12 l3, sl = [none, some (.o 1), some (.d x), some (.d (.lst ws)), some (.d (.lst ms)), some (.d (.lst [cutThrow])), some (.d (.int (p : Nat))), some (.d bad), some (.d (.lst (colW ws wide6))), some (.d (.lst lts)), b10, b11, b12, a13, a14] ∧ os = lawT T.P_law lamQ o4 (l1 ++ l3) ∧ l3.all noTb = true)
      ⟨_, _, _, [], rfl, by rw [List.append_nil], rfl⟩ ?_ ?_
    · rintro i e _ _ N2 hx ⟨b10, b11, b12, l3, rfl, rfl, nl3⟩ hN2
      obtain ⟨qs, n, rfl, hws, pqs⟩ := lots e (List.mem_of_getElem? hx)
      clear hN hN1
      have tb := law_tbOk (P := T.P_law) (q := lamQ) ho4 (l := l1 ++ l3) (by rw [List.all_append, nl1, nl3]; rfl)
      sizeOf_list_dec
      refine ⟨tb, fun L1 hL1 => ⟨tb, fun L2 hL2 => ⟨[L1, L2], rfl, _, hL1, ?_⟩⟩⟩
      sizeOf_list_dec
      refine prog_bad (by rw [pln_lst]; exact pqs) hws ?_
      refine ⟨_, hL2, ?_⟩
      sizeOf_list_dec
      refine prog_bad (by rw [pln_lst]; exact pqs) hws ?_
      show (0 ≤ (2 : Int) ∧ (2 : Int) < 2 ^ 63 ∧ 1 * Int.toNat 2 ≤ sizeLine) ∧ fSame 8 _ _ _ _
      refine ⟨by decide, _, _, .lst [.tup [.str "InvalidColumn", .int n], .tup [.str "InvalidColumn", .int n]], rfl, rfl, rfl, rfl, ?_⟩
      sizeOf_list_dec
      rw [law_app, law_app]
      exact hN2 _ _ ⟨_, _, _, l3 ++ [_] ++ [_], rfl, by rw [List.append_assoc, List.append_assoc, List.append_assoc], by rw [List.all_append, List.all_append, nl3]; rfl⟩
    · rintro _ _ ⟨b10, b11, b12, l3, rfl, rfl, nl3⟩
      refine hN _ _ ?_
      clear hN lots hbs hbad bpl
      have nlB : (l1 ++ l3).all noTb = true := by rw [List.all_append, nl1, nl3]; rfl
      generalize l1 ++ l3 = l4 at nlB
      clear nl3
      -- no table at all
      refine seq_go fun N hN => ?_
      sizeOf_list_dec
      rw [e0]
      rw [optP_some]
      have g0 := w12.good _ (w12.at_ (k := 0) (by decide))
      refine ⟨1, _, o4, rfl, law_box, ho4, by show 0 < 5; decide, by show 5 < 1000000; decide, fun i odd o5 hodd ho5 => ?_⟩
      have hod : wColD odd = .int 0 ∧ pln odd = true := by
        have := List.mem_of_getElem? hodd
        simp only [itemsD, List.mem_cons, List.not_mem_nil, or_false] at this
        rcases this with rfl | rfl | rfl | rfl | rfl
        · exact ⟨rfl, rfl⟩
        · exact ⟨rfl, rfl⟩
        · exact ⟨rfl, rfl⟩
        · exact ⟨rfl, rfl⟩
        · rw [nm_txt g0.nm]
          exact ⟨rfl, pln_str⟩
      clear hodd
      rw [law_set]
      refine hN _ _ ?_
      clear hN
      refine seq_go fun N hN => ?_
      sizeOf_list_dec
      refine ⟨law_tbOk ho5 nlB, prog_bad hod.2 hod.1 ?_⟩
      refine ⟨_, _, .tup [.str "InvalidColumn", .int 0], rfl, rfl, rfl, rfl, ?_⟩
      sizeOf_list_dec
      rw [law_app]
      refine hN _ _ ?_
      clear hN
      -- the wide one made
      sizeOf_list_dec
      refine prog_good (wide_ok w12) wide_pr (.inl rfl) (.inl rfl) fun aa m1 nm1 => ⟨rfl, ?_⟩
      rw [get_end]
      refine ⟨rfl, main_at ?_⟩
      sizeOf_list_dec
      refine (if_neg (by rw [show (colW ws wide6).length = 6 from rfl]; decide)).mpr ?_
      rw [law_app]
      exact hN1 _ _ ⟨_, _, _, _, _, _, _, _, _, _, _, _, _, o5, _, rfl, rfl, ho5, by rw [List.all_append, List.all_append, nlB]; show (true && true && (true && m1.all noTb)) = true; rw [nm1]; rfl⟩
  · rintro _ _ ⟨a2, a3, a4, a5, a6, a7, a8, a9, a10, a11, a12, a13, a14, o, l, rfl, rfl, ho, hl⟩
    refine hN _ _ ?_
    sizeOf_list_dec
end
end Bl
namespace Bl
open PySem L2 De
theorem top_mk {K : PySem.W.Frag} {w : World} {h : Heap} {mg : Str → Option Value} {fa : Addr} (X : K.In h) (G : h.Ns mainGlobals mg) (hfa : mg "law" = some (.ref fa))
    {C_Standing : Addr}
    {C_Program : Addr}
    {tk_Program_MOST_STEPS : Tok}
    {tk_Program_MOST_LOOKS : Tok}
    {a0 : Addr} {od0 an0 : Option Addr} {sl0 : Array (Option Value)} {oc0 kV0 dc0 pm0 cd0 ct0 : Value}
    {a1 : Addr} {od1 an1 : Option Addr} {sl1 : Array (Option Value)} {oc1 kV1 dc1 pm1 cd1 ct1 : Value}
    {a2 : Addr} {od2 an2 : Option Addr} {sl2 : Array (Option Value)} {oc2 kV2 dc2 pm2 cd2 ct2 : Value}
    {a3 : Addr} {od3 an3 : Option Addr} {sl3 : Array (Option Value)} {oc3 kV3 dc3 pm3 cd3 ct3 : Value}
    {a4 : Addr} {od4 an4 : Option Addr} {sl4 : Array (Option Value)} {oc4 kV4 dc4 pm4 cd4 ct4 : Value}
    {a5 : Addr} {od5 an5 : Option Addr} {sl5 : Array (Option Value)} {oc5 kV5 dc5 pm5 cd5 ct5 : Value}
    {a6 : Addr} {od6 an6 : Option Addr} {sl6 : Array (Option Value)} {oc6 kV6 dc6 pm6 cd6 ct6 : Value}
    {a7 : Addr} {od7 an7 : Option Addr} {sl7 : Array (Option Value)} {oc7 kV7 dc7 pm7 cd7 ct7 : Value}
    {a8 : Addr} {od8 an8 : Option Addr} {sl8 : Array (Option Value)} {oc8 kV8 dc8 pm8 cd8 ct8 : Value}
    {a9 : Addr} {od9 an9 : Option Addr} {sl9 : Array (Option Value)} {oc9 kV9 dc9 pm9 cd9 ct9 : Value}
    {a10 : Addr} {od10 an10 : Option Addr} {sl10 : Array (Option Value)} {oc10 kV10 dc10 pm10 cd10 ct10 : Value}
    {a11 : Addr} {od11 an11 : Option Addr} {sl11 : Array (Option Value)} {oc11 kV11 dc11 pm11 cd11 ct11 : Value}
    {a12 : Addr} {od12 an12 : Option Addr} {sl12 : Array (Option Value)} {oc12 kV12 dc12 pm12 cd12 ct12 : Value}
    {a13 : Addr} {od13 an13 : Option Addr} {sl13 : Array (Option Value)} {oc13 kV13 dc13 pm13 cd13 ct13 : Value}
    {a14 : Addr} {od14 an14 : Option Addr} {sl14 : Array (Option Value)} {oc14 kV14 dc14 pm14 cd14 ct14 : Value}
    {a15 : Addr} {od15 an15 : Option Addr} {sl15 : Array (Option Value)} {oc15 kV15 dc15 pm15 cd15 ct15 : Value}
    {a16 : Addr} {od16 an16 : Option Addr} {sl16 : Array (Option Value)} {oc16 kV16 dc16 pm16 cd16 ct16 : Value}
    {a17 : Addr} {od17 an17 : Option Addr} {sl17 : Array (Option Value)} {oc17 kV17 dc17 pm17 cd17 ct17 : Value}
    {a18 : Addr} {od18 an18 : Option Addr} {sl18 : Array (Option Value)} {oc18 kV18 dc18 pm18 cd18 ct18 : Value}
    {a19 : Addr} {od19 an19 : Option Addr} {sl19 : Array (Option Value)} {oc19 kV19 dc19 pm19 cd19 ct19 : Value}
    {a20 : Addr} {od20 an20 : Option Addr} {sl20 : Array (Option Value)} {oc20 kV20 dc20 pm20 cd20 ct20 : Value}
    {a21 : Addr} {od21 an21 : Option Addr} {sl21 : Array (Option Value)} {oc21 kV21 dc21 pm21 cd21 ct21 : Value}
    {a22 : Addr} {od22 an22 : Option Addr} {sl22 : Array (Option Value)} {oc22 kV22 dc22 pm22 cd22 ct22 : Value}
    {a23 : Addr} {od23 an23 : Option Addr} {sl23 : Array (Option Value)} {oc23 kV23 dc23 pm23 cd23 ct23 : Value}
    {a24 : Addr} {od24 an24 : Option Addr} {sl24 : Array (Option Value)} {oc24 kV24 dc24 pm24 cd24 ct24 : Value}
    {a25 : Addr} {od25 an25 : Option Addr} {sl25 : Array (Option Value)} {oc25 kV25 dc25 pm25 cd25 ct25 : Value}
    {a26 : Addr} {od26 an26 : Option Addr} {sl26 : Array (Option Value)} {oc26 kV26 dc26 pm26 cd26 ct26 : Value}
    {a27 : Addr} {od27 an27 : Option Addr} {sl27 : Array (Option Value)} {oc27 kV27 dc27 pm27 cd27 ct27 : Value}
    {a28 : Addr} {od28 an28 : Option Addr} {sl28 : Array (Option Value)} {oc28 kV28 dc28 pm28 cd28 ct28 : Value}
    {a29 : Addr} {od29 an29 : Option Addr} {sl29 : Array (Option Value)} {oc29 kV29 dc29 pm29 cd29 ct29 : Value}
    {a30 : Addr} {od30 an30 : Option Addr} {sl30 : Array (Option Value)} {oc30 kV30 dc30 pm30 cd30 ct30 : Value}
    {a31 : Addr} {od31 an31 : Option Addr} {sl31 : Array (Option Value)} {oc31 kV31 dc31 pm31 cd31 ct31 : Value}
    {a32 : Addr} {od32 an32 : Option Addr} {sl32 : Array (Option Value)} {oc32 kV32 dc32 pm32 cd32 ct32 : Value}
    {a33 : Addr} {od33 an33 : Option Addr} {sl33 : Array (Option Value)} {oc33 kV33 dc33 pm33 cd33 ct33 : Value}
    {a34 : Addr} {od34 an34 : Option Addr} {sl34 : Array (Option Value)} {oc34 kV34 dc34 pm34 cd34 ct34 : Value}
    {a35 : Addr} {od35 an35 : Option Addr} {sl35 : Array (Option Value)} {oc35 kV35 dc35 pm35 cd35 ct35 : Value}
    {pr35 : Addr} {rs35 : List Value}
    {C_LotsError : Addr}
    {C_Missing : Addr}
    {C_InvalidColumn : Addr}
    {f_InvalidColumn : Addr} {od_InvalidColumn an_InvalidColumn : Option Addr} {sl_InvalidColumn : Array (Option Value)} {oc_InvalidColumn kV_InvalidColumn dc_InvalidColumn pm_InvalidColumn cd_InvalidColumn ct_InvalidColumn : Value}
    {C_InvalidSide : Addr}
    {f_InvalidSide : Addr} {od_InvalidSide an_InvalidSide : Option Addr} {sl_InvalidSide : Array (Option Value)} {oc_InvalidSide kV_InvalidSide dc_InvalidSide pm_InvalidSide cd_InvalidSide ct_InvalidSide : Value}
    {C_InvalidKey : Addr}
    {f_InvalidKey : Addr} {od_InvalidKey an_InvalidKey : Option Addr} {sl_InvalidKey : Array (Option Value)} {oc_InvalidKey kV_InvalidKey dc_InvalidKey pm_InvalidKey cd_InvalidKey ct_InvalidKey : Value}
    {C_InvalidStep : Addr}
    {f_InvalidStep : Addr} {od_InvalidStep an_InvalidStep : Option Addr} {sl_InvalidStep : Array (Option Value)} {oc_InvalidStep kV_InvalidStep dc_InvalidStep pm_InvalidStep cd_InvalidStep ct_InvalidStep : Value}
    {C_InvalidTest : Addr}
    {f_InvalidTest : Addr} {od_InvalidTest an_InvalidTest : Option Addr} {sl_InvalidTest : Array (Option Value)} {oc_InvalidTest kV_InvalidTest dc_InvalidTest pm_InvalidTest cd_InvalidTest ct_InvalidTest : Value}
    {C_InvalidText : Addr}
    {f_InvalidText : Addr} {od_InvalidText an_InvalidText : Option Addr} {sl_InvalidText : Array (Option Value)} {oc_InvalidText kV_InvalidText dc_InvalidText pm_InvalidText cd_InvalidText ct_InvalidText : Value}
    {C_TooMany : Addr}
    {f_TooMany : Addr} {od_TooMany an_TooMany : Option Addr} {sl_TooMany : Array (Option Value)} {oc_TooMany kV_TooMany dc_TooMany pm_TooMany cd_TooMany ct_TooMany : Value}
    {C_NothingLeft : Addr}
    {f_NothingLeft : Addr} {od_NothingLeft an_NothingLeft : Option Addr} {sl_NothingLeft : Array (Option Value)} {oc_NothingLeft kV_NothingLeft dc_NothingLeft pm_NothingLeft cd_NothingLeft ct_NothingLeft : Value}
    {p_STAGES : Addr} {nn_STAGES : Nat}
    {hh_STAGES_0 : Int} {tt_STAGES_0 : Tok}
    {uq_STAGES_0 : Addr} {ud_STAGES_0 : Option Addr} {un_STAGES_0 : Nat} {us_STAGES_0 : Array (Option Value)} {tq_STAGES_0_0 tq_STAGES_0_1 tq_STAGES_0_2 tq_STAGES_0_3 tq_STAGES_0_4 tq_STAGES_0_5 tq_STAGES_0_6 tq_STAGES_0_7 tq_STAGES_0_8 tq_STAGES_0_9 : Tok}
    {hh_STAGES_1 : Int} {tt_STAGES_1 : Tok}
    {uq_STAGES_1 : Addr} {ud_STAGES_1 : Option Addr} {un_STAGES_1 : Nat} {us_STAGES_1 : Array (Option Value)} {tq_STAGES_1_0 tq_STAGES_1_1 tq_STAGES_1_2 : Tok}
    {hh_STAGES_2 : Int} {tt_STAGES_2 : Tok}
    {uq_STAGES_2 : Addr} {ud_STAGES_2 : Option Addr} {un_STAGES_2 : Nat} {us_STAGES_2 : Array (Option Value)} {tq_STAGES_2_0 tq_STAGES_2_1 tq_STAGES_2_2 tq_STAGES_2_3 : Tok}
    {hh_STAGES_3 : Int} {tt_STAGES_3 : Tok}
    {uq_STAGES_3 : Addr} {ud_STAGES_3 : Option Addr} {un_STAGES_3 : Nat} {us_STAGES_3 : Array (Option Value)} {tq_STAGES_3_0 tq_STAGES_3_1 tq_STAGES_3_2 : Tok}
    {p_CUTS_steps : Addr} {nn_CUTS_steps : Nat}
    {hh_CUTS_steps_0 : Int} {tt_CUTS_steps_0 : Tok}
    {ua_CUTS_steps_0 : Addr}
    {hh_CUTS_steps_1 : Int} {tt_CUTS_steps_1 : Tok}
    {hh_CUTS_steps_2 : Int} {tt_CUTS_steps_2 : Tok}
    {ua_CUTS_steps_2 : Addr}
    {hh_CUTS_steps_3 : Int} {tt_CUTS_steps_3 : Tok}
    {ua_CUTS_steps_3 : Addr}
    {hh_CUTS_steps_4 : Int} {tt_CUTS_steps_4 : Tok}
    {ua_CUTS_steps_4 : Addr}
    {hh_CUTS_steps_5 : Int} {tt_CUTS_steps_5 : Tok}
    {ua_CUTS_steps_5 : Addr}
    {p_STANDS : Addr} {nn_STANDS : Nat}
    {hh_STANDS_0 : Int} {tt_STANDS_0 : Tok}
    {ua_STANDS_0 : Addr}
    {hh_STANDS_1 : Int} {tt_STANDS_1 : Tok}
    {ua_STANDS_1 : Addr}
    {hh_STANDS_2 : Int} {tt_STANDS_2 : Tok}
    {ua_STANDS_2 : Addr}
    {hh_STANDS_3 : Int} {tt_STANDS_3 : Tok}
    {ua_STANDS_3 : Addr}
    {hh_STANDS_4 : Int} {tt_STANDS_4 : Tok}
    {ua_STANDS_4 : Addr}
    {hh_STANDS_5 : Int} {tt_STANDS_5 : Tok}
    {ua_STANDS_5 : Addr}
    {hh_STANDS_6 : Int} {tt_STANDS_6 : Tok}
    {ua_STANDS_6 : Addr}
    {hh_STANDS_7 : Int} {tt_STANDS_7 : Tok}
    {ua_STANDS_7 : Addr}
    {hh_STANDS_8 : Int} {tt_STANDS_8 : Tok}
    {ua_STANDS_8 : Addr}
    {hh_STANDS_9 : Int} {tt_STANDS_9 : Tok}
    {e_sides : Addr} {de_sides : Option Addr} {ne_sides : Nat} {se_sides : Array (Option Value)}
    {e_unique : Addr} {de_unique : Option Addr} {ne_unique : Nat} {se_unique : Array (Option Value)}
    {KDp : Addr}
    {c_law P_law : Addr} {ec_law : Value} {dc_law : Option Addr} {vc_law : Array Value} {sc0_law : Array (Option Value)}
    {t_LETTERS : Tok}
    {t_LONGEST_NAME : Tok}
    {t_MOST_COLUMNS : Tok}
    {t_MOST_TICKS : Tok}
    {t_MOST_SIDES : Tok}
    {t_MOST_OF_SIDE : Tok}
    {t_MOST_TAGS : Tok}
    {p_KINDS : Addr} {dd_KINDS : Option Addr} {n_KINDS : Nat} {sl_KINDS : Array (Option Value)} {tk_KINDS_0 tk_KINDS_1 tk_KINDS_2 : Tok}
    (OA_Standing : PySem.W.nsIn K mainGlobals "Standing" = some (some (.ref C_Standing)))
    (Oga_Standing : PySem.W.plainGet K C_Standing Str.empty = true)
    (Ohd_Standing : PySem.W.hasDictIn K C_Standing = true)
    (Opo_Standing : PySem.W.plainOver K C_Standing = true)
    (Osa_Standing : PySem.W.findIn K (.ref C_Standing) "__setattr__" = some (some (.builtin "object.__setattr__")))
    (Omk_Standing : PySem.W.makesIn K C_Standing = true)
    (Okp_Standing : PySem.W.keepIn K (.ref C_Standing) = true)
    (On_Standing_kinds : PySem.W.findIn K (.ref C_Standing) "kinds" = some none)
    (On_Standing_worths : PySem.W.findIn K (.ref C_Standing) "worths" = some none)
    (On_Standing_anchors : PySem.W.findIn K (.ref C_Standing) "anchors" = some none)
    (On_Standing_bounded : PySem.W.findIn K (.ref C_Standing) "bounded" = some none)
    (On_Standing_free : PySem.W.findIn K (.ref C_Standing) "free" = some none)
    (On_Standing_joined : PySem.W.findIn K (.ref C_Standing) "joined" = some none)
    (On_Standing_stage : PySem.W.findIn K (.ref C_Standing) "stage" = some none)
    (On_Standing_onces : PySem.W.findIn K (.ref C_Standing) "onces" = some none)
    (On_Standing_doublings : PySem.W.findIn K (.ref C_Standing) "doublings" = some none)
    (On_Standing_mixed : PySem.W.findIn K (.ref C_Standing) "mixed" = some none)
    (OA_Program : PySem.W.nsIn K mainGlobals "Program" = some (some (.ref C_Program)))
    (Oga_Program : PySem.W.plainGet K C_Program Str.empty = true)
    (Ohd_Program : PySem.W.hasDictIn K C_Program = true)
    (Opo_Program : PySem.W.plainOver K C_Program = true)
    (Osa_Program : PySem.W.findIn K (.ref C_Program) "__setattr__" = some (some (.builtin "object.__setattr__")))
    (Omk_Program : PySem.W.makesIn K C_Program = true)
    (Okp_Program : PySem.W.keepIn K (.ref C_Program) = true)
    (On_Program__main : PySem.W.findIn K (.ref C_Program) "_main" = some none)
    (On_Program__sides : PySem.W.findIn K (.ref C_Program) "_sides" = some none)
    (On_Program__unique : PySem.W.findIn K (.ref C_Program) "_unique" = some none)
    (On_Program__ahead : PySem.W.findIn K (.ref C_Program) "_ahead" = some none)
    (On_Program__steps : PySem.W.findIn K (.ref C_Program) "_steps" = some none)
    (On_Program__cut_at : PySem.W.findIn K (.ref C_Program) "_cut_at" = some none)
    (On_Program__kinds : PySem.W.findIn K (.ref C_Program) "_kinds" = some none)
    (On_Program__many : PySem.W.findIn K (.ref C_Program) "_many" = some none)
    (Or1_Program : PySem.W.readsIn K C_Program (.type "type") = true) (Or2_Program : PySem.W.specialIn K (.ref C_Program) "__getattribute__" = some (some (.builtin "type.__getattribute__")))
    (Oc_Program_MOST_STEPS : PySem.W.findCls K (.ref C_Program) (.type "type") "MOST_STEPS" = some (.val (.int 12 tk_Program_MOST_STEPS)))
    (Oc_Program_MOST_LOOKS : PySem.W.findCls K (.ref C_Program) (.type "type") "MOST_LOOKS" = some (.val (.int 24 tk_Program_MOST_LOOKS)))
    (A0 : PySem.W.nsIn K mainGlobals "is_name" = some (some (.ref a0))) (L0 : K.lookup a0 = some ⟨oc0, od0, .func (PySem.W.fnOf "is_name" "is_name" (defArgs s_is_name) (defBody s_is_name) (defScope s_is_name) .none kV0 dc0 pm0 an0 cd0 ct0), sl0⟩) (C0 : PySem.W.codeIn K cd0 "is_name" = true) (K0 : PySem.W.keepIn K (.ref a0) = true)
    (A1 : PySem.W.nsIn K mainGlobals "is_number" = some (some (.ref a1))) (L1 : K.lookup a1 = some ⟨oc1, od1, .func (PySem.W.fnOf "is_number" "is_number" (defArgs s_is_number) (defBody s_is_number) (defScope s_is_number) .none kV1 dc1 pm1 an1 cd1 ct1), sl1⟩) (C1 : PySem.W.codeIn K cd1 "is_number" = true) (K1 : PySem.W.keepIn K (.ref a1) = true)
    (A2 : PySem.W.nsIn K mainGlobals "is_column" = some (some (.ref a2))) (L2 : K.lookup a2 = some ⟨oc2, od2, .func (PySem.W.fnOf "is_column" "is_column" (defArgs s_is_column) (defBody s_is_column) (defScope s_is_column) .none kV2 dc2 pm2 an2 cd2 ct2), sl2⟩) (C2 : PySem.W.codeIn K cd2 "is_column" = true) (K2 : PySem.W.keepIn K (.ref a2) = true)
    (A3 : PySem.W.nsIn K mainGlobals "is_tags" = some (some (.ref a3))) (L3 : K.lookup a3 = some ⟨oc3, od3, .func (PySem.W.fnOf "is_tags" "is_tags" (defArgs s_is_tags) (defBody s_is_tags) (defScope s_is_tags) .none kV3 dc3 pm3 an3 cd3 ct3), sl3⟩) (C3 : PySem.W.codeIn K cd3 "is_tags" = true) (K3 : PySem.W.keepIn K (.ref a3) = true)
    (A4 : PySem.W.nsIn K mainGlobals "is_column_of" = some (some (.ref a4))) (L4 : K.lookup a4 = some ⟨oc4, od4, .func (PySem.W.fnOf "is_column_of" "is_column_of" (defArgs s_is_column_of) (defBody s_is_column_of) (defScope s_is_column_of) .none kV4 dc4 pm4 an4 cd4 ct4), sl4⟩) (C4 : PySem.W.codeIn K cd4 "is_column_of" = true) (K4 : PySem.W.keepIn K (.ref a4) = true)
    (A5 : PySem.W.nsIn K mainGlobals "wrong_column" = some (some (.ref a5))) (L5 : K.lookup a5 = some ⟨oc5, od5, .func (PySem.W.fnOf "wrong_column" "wrong_column" (defArgs s_wrong_column) (defBody s_wrong_column) (defScope s_wrong_column) .none kV5 dc5 pm5 an5 cd5 ct5), sl5⟩) (C5 : PySem.W.codeIn K cd5 "wrong_column" = true) (K5 : PySem.W.keepIn K (.ref a5) = true)
    (A6 : PySem.W.nsIn K mainGlobals "is_side" = some (some (.ref a6))) (L6 : K.lookup a6 = some ⟨oc6, od6, .func (PySem.W.fnOf "is_side" "is_side" (defArgs s_is_side) (defBody s_is_side) (defScope s_is_side) .none kV6 dc6 pm6 an6 cd6 ct6), sl6⟩) (C6 : PySem.W.codeIn K cd6 "is_side" = true) (K6 : PySem.W.keepIn K (.ref a6) = true)
    (A7 : PySem.W.nsIn K mainGlobals "wrong_side" = some (some (.ref a7))) (L7 : K.lookup a7 = some ⟨oc7, od7, .func (PySem.W.fnOf "wrong_side" "wrong_side" (defArgs s_wrong_side) (defBody s_wrong_side) (defScope s_wrong_side) .none kV7 dc7 pm7 an7 cd7 ct7), sl7⟩) (C7 : PySem.W.codeIn K cd7 "wrong_side" = true) (K7 : PySem.W.keepIn K (.ref a7) = true)
    (A8 : PySem.W.nsIn K mainGlobals "is_key" = some (some (.ref a8))) (L8 : K.lookup a8 = some ⟨oc8, od8, .func (PySem.W.fnOf "is_key" "is_key" (defArgs s_is_key) (defBody s_is_key) (defScope s_is_key) .none kV8 dc8 pm8 an8 cd8 ct8), sl8⟩) (C8 : PySem.W.codeIn K cd8 "is_key" = true) (K8 : PySem.W.keepIn K (.ref a8) = true)
    (A9 : PySem.W.nsIn K mainGlobals "is_anchor" = some (some (.ref a9))) (L9 : K.lookup a9 = some ⟨oc9, od9, .func (PySem.W.fnOf "is_anchor" "is_anchor" (defArgs s_is_anchor) (defBody s_is_anchor) (defScope s_is_anchor) .none kV9 dc9 pm9 an9 cd9 ct9), sl9⟩) (C9 : PySem.W.codeIn K cd9 "is_anchor" = true) (K9 : PySem.W.keepIn K (.ref a9) = true)
    (A10 : PySem.W.nsIn K mainGlobals "columns_of_side" = some (some (.ref a10))) (L10 : K.lookup a10 = some ⟨oc10, od10, .func (PySem.W.fnOf "columns_of_side" "columns_of_side" (defArgs s_columns_of_side) (defBody s_columns_of_side) (defScope s_columns_of_side) .none kV10 dc10 pm10 an10 cd10 ct10), sl10⟩) (C10 : PySem.W.codeIn K cd10 "columns_of_side" = true) (K10 : PySem.W.keepIn K (.ref a10) = true)
    (A11 : PySem.W.nsIn K mainGlobals "_cut_stands" = some (some (.ref a11))) (L11 : K.lookup a11 = some ⟨oc11, od11, .func (PySem.W.fnOf "_cut_stands" "_cut_stands" (defArgs s_cut_stands) (defBody s_cut_stands) (defScope s_cut_stands) .none kV11 dc11 pm11 an11 cd11 ct11), sl11⟩) (C11 : PySem.W.codeIn K cd11 "_cut_stands" = true) (K11 : PySem.W.keepIn K (.ref a11) = true)
    (A12 : PySem.W.nsIn K mainGlobals "_throw_stands" = some (some (.ref a12))) (L12 : K.lookup a12 = some ⟨oc12, od12, .func (PySem.W.fnOf "_throw_stands" "_throw_stands" (defArgs s_throw_stands) (defBody s_throw_stands) (defScope s_throw_stands) .none kV12 dc12 pm12 an12 cd12 ct12), sl12⟩) (C12 : PySem.W.codeIn K cd12 "_throw_stands" = true) (K12 : PySem.W.keepIn K (.ref a12) = true)
    (A13 : PySem.W.nsIn K mainGlobals "_count_looks" = some (some (.ref a13))) (L13 : K.lookup a13 = some ⟨oc13, od13, .func (PySem.W.fnOf "_count_looks" "_count_looks" (defArgs s_count_looks) (defBody s_count_looks) (defScope s_count_looks) .none kV13 dc13 pm13 an13 cd13 ct13), sl13⟩) (C13 : PySem.W.codeIn K cd13 "_count_looks" = true) (K13 : PySem.W.keepIn K (.ref a13) = true)
    (A14 : PySem.W.nsIn K mainGlobals "_count_tags" = some (some (.ref a14))) (L14 : K.lookup a14 = some ⟨oc14, od14, .func (PySem.W.fnOf "_count_tags" "_count_tags" (defArgs s_count_tags) (defBody s_count_tags) (defScope s_count_tags) .none kV14 dc14 pm14 an14 cd14 ct14), sl14⟩) (C14 : PySem.W.codeIn K cd14 "_count_tags" = true) (K14 : PySem.W.keepIn K (.ref a14) = true)
    (A15 : PySem.W.nsIn K mainGlobals "_law_box" = some (some (.ref a15))) (L15 : K.lookup a15 = some ⟨oc15, od15, .func (PySem.W.fnOf "_law_box" "_law_box" (defArgs s_box) (defBody s_box) (defScope s_box) .none kV15 dc15 pm15 an15 cd15 ct15), sl15⟩) (C15 : PySem.W.codeIn K cd15 "_law_box" = true) (K15 : PySem.W.keepIn K (.ref a15) = true)
    (A16 : PySem.W.nsIn K mainGlobals "_law_pull" = some (some (.ref a16))) (L16 : K.lookup a16 = some ⟨oc16, od16, .func (PySem.W.fnOf "_law_pull" "_law_pull" (defArgs s_pull) (defBody s_pull) (defScope s_pull) .none kV16 dc16 pm16 an16 cd16 ct16), sl16⟩) (C16 : PySem.W.codeIn K cd16 "_law_pull" = true) (K16 : PySem.W.keepIn K (.ref a16) = true)
    (A17 : PySem.W.nsIn K mainGlobals "_law_of" = some (some (.ref a17))) (L17 : K.lookup a17 = some ⟨oc17, od17, .func (PySem.W.fnOf "_law_of" "_law_of" (defArgs s_of) (defBody s_of) (defScope s_of) .none kV17 dc17 pm17 an17 cd17 ct17), sl17⟩) (C17 : PySem.W.codeIn K cd17 "_law_of" = true) (K17 : PySem.W.keepIn K (.ref a17) = true)
    (A18 : PySem.W.nsIn K mainGlobals "_law_names" = some (some (.ref a18))) (L18 : K.lookup a18 = some ⟨oc18, od18, .func (PySem.W.fnOf "_law_names" "_law_names" (defArgs s_names) (defBody s_names) (defScope s_names) .none kV18 dc18 pm18 an18 cd18 ct18), sl18⟩) (C18 : PySem.W.codeIn K cd18 "_law_names" = true) (K18 : PySem.W.keepIn K (.ref a18) = true)
    (A19 : PySem.W.nsIn K mainGlobals "_law_same" = some (some (.ref a19))) (L19 : K.lookup a19 = some ⟨oc19, od19, .func (PySem.W.fnOf "_law_same" "_law_same" (defArgs s_same) (defBody s_same) (defScope s_same) .none kV19 dc19 pm19 an19 cd19 ct19), sl19⟩) (C19 : PySem.W.codeIn K cd19 "_law_same" = true) (K19 : PySem.W.keepIn K (.ref a19) = true)
    (A20 : PySem.W.nsIn K mainGlobals "_law_field" = some (some (.ref a20))) (L20 : K.lookup a20 = some ⟨oc20, od20, .func (PySem.W.fnOf "_law_field" "_law_field" (defArgs s_field) (defBody s_field) (defScope s_field) .none kV20 dc20 pm20 an20 cd20 ct20), sl20⟩) (C20 : PySem.W.codeIn K cd20 "_law_field" = true) (K20 : PySem.W.keepIn K (.ref a20) = true)
    (A21 : PySem.W.nsIn K mainGlobals "_law_got" = some (some (.ref a21))) (L21 : K.lookup a21 = some ⟨oc21, od21, .func (PySem.W.fnOf "_law_got" "_law_got" (defArgs s_got) (defBody s_got) (defScope s_got) .none kV21 dc21 pm21 an21 cd21 ct21), sl21⟩) (C21 : PySem.W.codeIn K cd21 "_law_got" = true) (K21 : PySem.W.keepIn K (.ref a21) = true)
    (A22 : PySem.W.nsIn K mainGlobals "_law_all_got" = some (some (.ref a22))) (L22 : K.lookup a22 = some ⟨oc22, od22, .func (PySem.W.fnOf "_law_all_got" "_law_all_got" (defArgs s_all_got) (defBody s_all_got) (defScope s_all_got) .none kV22 dc22 pm22 an22 cd22 ct22), sl22⟩) (C22 : PySem.W.codeIn K cd22 "_law_all_got" = true) (K22 : PySem.W.keepIn K (.ref a22) = true)
    (A23 : PySem.W.nsIn K mainGlobals "_law_mixed" = some (some (.ref a23))) (L23 : K.lookup a23 = some ⟨oc23, od23, .func (PySem.W.fnOf "_law_mixed" "_law_mixed" (defArgs s_mixed) (defBody s_mixed) (defScope s_mixed) .none kV23 dc23 pm23 an23 cd23 ct23), sl23⟩) (C23 : PySem.W.codeIn K cd23 "_law_mixed" = true) (K23 : PySem.W.keepIn K (.ref a23) = true)
    (A24 : PySem.W.nsIn K mainGlobals "_law_main" = some (some (.ref a24))) (L24 : K.lookup a24 = some ⟨oc24, od24, .func (PySem.W.fnOf "_law_main" "_law_main" (defArgs s_main) (defBody s_main) (defScope s_main) .none kV24 dc24 pm24 an24 cd24 ct24), sl24⟩) (C24 : PySem.W.codeIn K cd24 "_law_main" = true) (K24 : PySem.W.keepIn K (.ref a24) = true)
    (A25 : PySem.W.nsIn K mainGlobals "_law_bad_column" = some (some (.ref a25))) (L25 : K.lookup a25 = some ⟨oc25, od25, .func (PySem.W.fnOf "_law_bad_column" "_law_bad_column" (defArgs s_bad_column) (defBody s_bad_column) (defScope s_bad_column) .none kV25 dc25 pm25 an25 cd25 ct25), sl25⟩) (C25 : PySem.W.codeIn K cd25 "_law_bad_column" = true) (K25 : PySem.W.keepIn K (.ref a25) = true)
    (A26 : PySem.W.nsIn K mainGlobals "law" = some (some (.ref a26))) (L26 : K.lookup a26 = some ⟨oc26, od26, .func (PySem.W.fnOf "law" "law" (defArgs s_law) (defBody s_law) (defScope s_law) .none kV26 dc26 pm26 an26 cd26 ct26), sl26⟩) (C26 : PySem.W.codeIn K cd26 "law" = true) (K26 : PySem.W.keepIn K (.ref a26) = true)
    (A27 : PySem.W.findIn K (.ref C_Standing) "__init__" = some (some (.ref a27))) (I27 : PySem.W.isFn K (.ref a27) = true) (L27 : K.lookup a27 = some ⟨oc27, od27, .func (PySem.W.fnOf "__init__" "Standing.__init__" (defArgs s_Standing___init__) (defBody s_Standing___init__) (defScope s_Standing___init__) .none kV27 dc27 pm27 an27 cd27 ct27), sl27⟩) (C27 : PySem.W.codeIn K cd27 "Standing.__init__" = true) (K27 : PySem.W.keepIn K (.ref a27) = true)
    (A28 : PySem.W.findIn K (.ref C_Standing) "strays" = some (some (.ref a28))) (I28 : PySem.W.isFn K (.ref a28) = true) (L28 : K.lookup a28 = some ⟨oc28, od28, .func (PySem.W.fnOf "strays" "Standing.strays" (defArgs s_Standing_strays) (defBody s_Standing_strays) (defScope s_Standing_strays) .none kV28 dc28 pm28 an28 cd28 ct28), sl28⟩) (C28 : PySem.W.codeIn K cd28 "Standing.strays" = true) (K28 : PySem.W.keepIn K (.ref a28) = true)
    (A29 : PySem.W.findIn K (.ref C_Standing) "takes" = some (some (.ref a29))) (I29 : PySem.W.isFn K (.ref a29) = true) (L29 : K.lookup a29 = some ⟨oc29, od29, .func (PySem.W.fnOf "takes" "Standing.takes" (defArgs s_Standing_takes) (defBody s_Standing_takes) (defScope s_Standing_takes) .none kV29 dc29 pm29 an29 cd29 ct29), sl29⟩) (C29 : PySem.W.codeIn K cd29 "Standing.takes" = true) (K29 : PySem.W.keepIn K (.ref a29) = true)
    (A30 : PySem.W.findIn K (.ref C_Standing) "take" = some (some (.ref a30))) (I30 : PySem.W.isFn K (.ref a30) = true) (L30 : K.lookup a30 = some ⟨oc30, od30, .func (PySem.W.fnOf "take" "Standing.take" (defArgs s_Standing_take) (defBody s_Standing_take) (defScope s_Standing_take) .none kV30 dc30 pm30 an30 cd30 ct30), sl30⟩) (C30 : PySem.W.codeIn K cd30 "Standing.take" = true) (K30 : PySem.W.keepIn K (.ref a30) = true)
    (A31 : PySem.W.findIn K (.ref C_Standing) "_stage_behind" = some (some (.ref a31))) (I31 : PySem.W.isFn K (.ref a31) = true) (L31 : K.lookup a31 = some ⟨oc31, od31, .func (PySem.W.fnOf "_stage_behind" "Standing._stage_behind" (defArgs s_Standing__stage_behind) (defBody s_Standing__stage_behind) (defScope s_Standing__stage_behind) .none kV31 dc31 pm31 an31 cd31 ct31), sl31⟩) (C31 : PySem.W.codeIn K cd31 "Standing._stage_behind" = true) (K31 : PySem.W.keepIn K (.ref a31) = true)
    (A32 : PySem.W.findIn K (.ref C_Standing) "is_behind" = some (some (.ref a32))) (I32 : PySem.W.isFn K (.ref a32) = true) (L32 : K.lookup a32 = some ⟨oc32, od32, .func (PySem.W.fnOf "is_behind" "Standing.is_behind" (defArgs s_Standing_is_behind) (defBody s_Standing_is_behind) (defScope s_Standing_is_behind) .none kV32 dc32 pm32 an32 cd32 ct32), sl32⟩) (C32 : PySem.W.codeIn K cd32 "Standing.is_behind" = true) (K32 : PySem.W.keepIn K (.ref a32) = true)
    (A33 : PySem.W.findIn K (.ref C_Program) "__init__" = some (some (.ref a33))) (I33 : PySem.W.isFn K (.ref a33) = true) (L33 : K.lookup a33 = some ⟨oc33, od33, .func (PySem.W.fnOf "__init__" "Program.__init__" (defArgs s_Program___init__) (defBody s_Program___init__) (defScope s_Program___init__) .none kV33 dc33 pm33 an33 cd33 ct33), sl33⟩) (C33 : PySem.W.codeIn K cd33 "Program.__init__" = true) (K33 : PySem.W.keepIn K (.ref a33) = true)
    (A34 : PySem.W.findIn K (.ref C_Program) "_take_steps" = some (some (.ref a34))) (I34 : PySem.W.isFn K (.ref a34) = true) (L34 : K.lookup a34 = some ⟨oc34, od34, .func (PySem.W.fnOf "_take_steps" "Program._take_steps" (defArgs s_Program__take_steps) (defBody s_Program__take_steps) (defScope s_Program__take_steps) .none kV34 dc34 pm34 an34 cd34 ct34), sl34⟩) (C34 : PySem.W.codeIn K cd34 "Program._take_steps" = true) (K34 : PySem.W.keepIn K (.ref a34) = true)
    (A35 : PySem.W.findIn K (.ref C_Program) "main" = some (some (.ref pr35))) (I35 : PySem.W.specialIn K (.ref pr35) "__get__" = some (some (.builtin "property.__get__"))) (PT35 : PySem.W.takesIn K (.ref pr35) = some true) (PR35 : PySem.W.recIn K pr35 "property" = some (.ref a35 :: rs35)) (L35 : K.lookup a35 = some ⟨oc35, od35, .func (PySem.W.fnOf "main" "Program.main" (defArgs s_Program_main) (defBody s_Program_main) (defScope s_Program_main) .none kV35 dc35 pm35 an35 cd35 ct35), sl35⟩) (C35 : PySem.W.codeIn K cd35 "Program.main" = true) (K35 : PySem.W.keepIn K (.ref a35) = true)
    (AC_LotsError : PySem.W.nsIn K mainGlobals "LotsError" = some (some (.ref C_LotsError)))
    (AC_Missing : PySem.W.nsIn K mainGlobals "Missing" = some (some (.ref C_Missing)))
    (AC_InvalidColumn : PySem.W.nsIn K mainGlobals "InvalidColumn" = some (some (.ref C_InvalidColumn)))
    (XB_InvalidColumn : xcB K veM "ValueError.__new__" C_InvalidColumn = true) (IC_InvalidColumn : PySem.W.findIn K (.ref C_InvalidColumn) "__init__" = some (some (.ref f_InvalidColumn))) (TI_InvalidColumn : PySem.W.typeIn K (.ref f_InvalidColumn) = some (.type "function")) (LI_InvalidColumn : K.lookup f_InvalidColumn = some ⟨oc_InvalidColumn, od_InvalidColumn, .func (PySem.W.fnOf "__init__" "InvalidColumn.__init__" (defArgs si_InvalidColumn) (defBody si_InvalidColumn) (defScope si_InvalidColumn) .none kV_InvalidColumn dc_InvalidColumn pm_InvalidColumn an_InvalidColumn cd_InvalidColumn ct_InvalidColumn), sl_InvalidColumn⟩) (CI_InvalidColumn : PySem.W.codeIn K cd_InvalidColumn "InvalidColumn.__init__" = true) (KI_InvalidColumn : PySem.W.keepIn K (.ref f_InvalidColumn) = true)
    (AC_InvalidSide : PySem.W.nsIn K mainGlobals "InvalidSide" = some (some (.ref C_InvalidSide)))
    (XB_InvalidSide : xcB K veM "ValueError.__new__" C_InvalidSide = true) (IC_InvalidSide : PySem.W.findIn K (.ref C_InvalidSide) "__init__" = some (some (.ref f_InvalidSide))) (TI_InvalidSide : PySem.W.typeIn K (.ref f_InvalidSide) = some (.type "function")) (LI_InvalidSide : K.lookup f_InvalidSide = some ⟨oc_InvalidSide, od_InvalidSide, .func (PySem.W.fnOf "__init__" "InvalidSide.__init__" (defArgs si_InvalidSide) (defBody si_InvalidSide) (defScope si_InvalidSide) .none kV_InvalidSide dc_InvalidSide pm_InvalidSide an_InvalidSide cd_InvalidSide ct_InvalidSide), sl_InvalidSide⟩) (CI_InvalidSide : PySem.W.codeIn K cd_InvalidSide "InvalidSide.__init__" = true) (KI_InvalidSide : PySem.W.keepIn K (.ref f_InvalidSide) = true)
    (AC_InvalidKey : PySem.W.nsIn K mainGlobals "InvalidKey" = some (some (.ref C_InvalidKey)))
    (XB_InvalidKey : xcB K veM "ValueError.__new__" C_InvalidKey = true) (IC_InvalidKey : PySem.W.findIn K (.ref C_InvalidKey) "__init__" = some (some (.ref f_InvalidKey))) (TI_InvalidKey : PySem.W.typeIn K (.ref f_InvalidKey) = some (.type "function")) (LI_InvalidKey : K.lookup f_InvalidKey = some ⟨oc_InvalidKey, od_InvalidKey, .func (PySem.W.fnOf "__init__" "InvalidKey.__init__" (defArgs si_InvalidKey) (defBody si_InvalidKey) (defScope si_InvalidKey) .none kV_InvalidKey dc_InvalidKey pm_InvalidKey an_InvalidKey cd_InvalidKey ct_InvalidKey), sl_InvalidKey⟩) (CI_InvalidKey : PySem.W.codeIn K cd_InvalidKey "InvalidKey.__init__" = true) (KI_InvalidKey : PySem.W.keepIn K (.ref f_InvalidKey) = true)
    (AC_InvalidStep : PySem.W.nsIn K mainGlobals "InvalidStep" = some (some (.ref C_InvalidStep)))
    (XB_InvalidStep : xcB K veM "ValueError.__new__" C_InvalidStep = true) (IC_InvalidStep : PySem.W.findIn K (.ref C_InvalidStep) "__init__" = some (some (.ref f_InvalidStep))) (TI_InvalidStep : PySem.W.typeIn K (.ref f_InvalidStep) = some (.type "function")) (LI_InvalidStep : K.lookup f_InvalidStep = some ⟨oc_InvalidStep, od_InvalidStep, .func (PySem.W.fnOf "__init__" "InvalidStep.__init__" (defArgs si_InvalidStep) (defBody si_InvalidStep) (defScope si_InvalidStep) .none kV_InvalidStep dc_InvalidStep pm_InvalidStep an_InvalidStep cd_InvalidStep ct_InvalidStep), sl_InvalidStep⟩) (CI_InvalidStep : PySem.W.codeIn K cd_InvalidStep "InvalidStep.__init__" = true) (KI_InvalidStep : PySem.W.keepIn K (.ref f_InvalidStep) = true)
    (AC_InvalidTest : PySem.W.nsIn K mainGlobals "InvalidTest" = some (some (.ref C_InvalidTest)))
    (XB_InvalidTest : xcB K veM "ValueError.__new__" C_InvalidTest = true) (IC_InvalidTest : PySem.W.findIn K (.ref C_InvalidTest) "__init__" = some (some (.ref f_InvalidTest))) (TI_InvalidTest : PySem.W.typeIn K (.ref f_InvalidTest) = some (.type "function")) (LI_InvalidTest : K.lookup f_InvalidTest = some ⟨oc_InvalidTest, od_InvalidTest, .func (PySem.W.fnOf "__init__" "InvalidTest.__init__" (defArgs si_InvalidTest) (defBody si_InvalidTest) (defScope si_InvalidTest) .none kV_InvalidTest dc_InvalidTest pm_InvalidTest an_InvalidTest cd_InvalidTest ct_InvalidTest), sl_InvalidTest⟩) (CI_InvalidTest : PySem.W.codeIn K cd_InvalidTest "InvalidTest.__init__" = true) (KI_InvalidTest : PySem.W.keepIn K (.ref f_InvalidTest) = true)
    (AC_InvalidText : PySem.W.nsIn K mainGlobals "InvalidText" = some (some (.ref C_InvalidText)))
    (XB_InvalidText : xcB K veM "ValueError.__new__" C_InvalidText = true) (IC_InvalidText : PySem.W.findIn K (.ref C_InvalidText) "__init__" = some (some (.ref f_InvalidText))) (TI_InvalidText : PySem.W.typeIn K (.ref f_InvalidText) = some (.type "function")) (LI_InvalidText : K.lookup f_InvalidText = some ⟨oc_InvalidText, od_InvalidText, .func (PySem.W.fnOf "__init__" "InvalidText.__init__" (defArgs si_InvalidText) (defBody si_InvalidText) (defScope si_InvalidText) .none kV_InvalidText dc_InvalidText pm_InvalidText an_InvalidText cd_InvalidText ct_InvalidText), sl_InvalidText⟩) (CI_InvalidText : PySem.W.codeIn K cd_InvalidText "InvalidText.__init__" = true) (KI_InvalidText : PySem.W.keepIn K (.ref f_InvalidText) = true)
    (AC_TooMany : PySem.W.nsIn K mainGlobals "TooMany" = some (some (.ref C_TooMany)))
    (XB_TooMany : xcB K veM "ValueError.__new__" C_TooMany = true) (IC_TooMany : PySem.W.findIn K (.ref C_TooMany) "__init__" = some (some (.ref f_TooMany))) (TI_TooMany : PySem.W.typeIn K (.ref f_TooMany) = some (.type "function")) (LI_TooMany : K.lookup f_TooMany = some ⟨oc_TooMany, od_TooMany, .func (PySem.W.fnOf "__init__" "TooMany.__init__" (defArgs si_TooMany) (defBody si_TooMany) (defScope si_TooMany) .none kV_TooMany dc_TooMany pm_TooMany an_TooMany cd_TooMany ct_TooMany), sl_TooMany⟩) (CI_TooMany : PySem.W.codeIn K cd_TooMany "TooMany.__init__" = true) (KI_TooMany : PySem.W.keepIn K (.ref f_TooMany) = true)
    (AC_NothingLeft : PySem.W.nsIn K mainGlobals "NothingLeft" = some (some (.ref C_NothingLeft)))
    (XB_NothingLeft : xcB K ieM "IndexError.__new__" C_NothingLeft = true) (IC_NothingLeft : PySem.W.findIn K (.ref C_NothingLeft) "__init__" = some (some (.ref f_NothingLeft))) (TI_NothingLeft : PySem.W.typeIn K (.ref f_NothingLeft) = some (.type "function")) (LI_NothingLeft : K.lookup f_NothingLeft = some ⟨oc_NothingLeft, od_NothingLeft, .func (PySem.W.fnOf "__init__" "NothingLeft.__init__" (defArgs si_NothingLeft) (defBody si_NothingLeft) (defScope si_NothingLeft) .none kV_NothingLeft dc_NothingLeft pm_NothingLeft an_NothingLeft cd_NothingLeft ct_NothingLeft), sl_NothingLeft⟩) (CI_NothingLeft : PySem.W.codeIn K cd_NothingLeft "NothingLeft.__init__" = true) (KI_NothingLeft : PySem.W.keepIn K (.ref f_NothingLeft) = true)
    (Yt_STAGES : PySem.W.nsIn K mainGlobals "STAGES" = some (some (.ref p_STAGES))) (Wt_STAGES : K.lookup p_STAGES = some ⟨.type "dict", none, .dict #[⟨hh_STAGES_0, .str "first" tt_STAGES_0, .ref uq_STAGES_0⟩, ⟨hh_STAGES_1, .str "second" tt_STAGES_1, .ref uq_STAGES_1⟩, ⟨hh_STAGES_2, .str "cut" tt_STAGES_2, .ref uq_STAGES_2⟩, ⟨hh_STAGES_3, .str "behind" tt_STAGES_3, .ref uq_STAGES_3⟩] nn_STAGES, #[]⟩) (Vt_STAGES : PySem.W.KeysLit w.params [⟨hh_STAGES_0, .str "first" tt_STAGES_0, .ref uq_STAGES_0⟩, ⟨hh_STAGES_1, .str "second" tt_STAGES_1, .ref uq_STAGES_1⟩, ⟨hh_STAGES_2, .str "cut" tt_STAGES_2, .ref uq_STAGES_2⟩, ⟨hh_STAGES_3, .str "behind" tt_STAGES_3, .ref uq_STAGES_3⟩]) (Ut_STAGES : (p_STAGES == sysModules) = false)
    (Wq_STAGES_0 : K.lookup uq_STAGES_0 = some ⟨.type "tuple", ud_STAGES_0, .seq #[.str "keep" tq_STAGES_0_0, .str "join" tq_STAGES_0_1, .str "left" tq_STAGES_0_2, .str "sort" tq_STAGES_0_3, .str "once" tq_STAGES_0_4, .str "near" tq_STAGES_0_5, .str "all" tq_STAGES_0_6, .str "twice" tq_STAGES_0_7, .str "fan" tq_STAGES_0_8, .str "cut" tq_STAGES_0_9] un_STAGES_0, us_STAGES_0⟩)
    (Wq_STAGES_1 : K.lookup uq_STAGES_1 = some ⟨.type "tuple", ud_STAGES_1, .seq #[.str "twice" tq_STAGES_1_0, .str "fan" tq_STAGES_1_1, .str "cut" tq_STAGES_1_2] un_STAGES_1, us_STAGES_1⟩)
    (Wq_STAGES_2 : K.lookup uq_STAGES_2 = some ⟨.type "tuple", ud_STAGES_2, .seq #[.str "once" tq_STAGES_2_0, .str "near" tq_STAGES_2_1, .str "all" tq_STAGES_2_2, .str "twice" tq_STAGES_2_3] un_STAGES_2, us_STAGES_2⟩)
    (Wq_STAGES_3 : K.lookup uq_STAGES_3 = some ⟨.type "tuple", ud_STAGES_3, .seq #[.str "near" tq_STAGES_3_0, .str "all" tq_STAGES_3_1, .str "twice" tq_STAGES_3_2] un_STAGES_3, us_STAGES_3⟩)
    (Yt_CUTS_steps : PySem.W.nsIn K mainGlobals "CUTS_steps" = some (some (.ref p_CUTS_steps))) (Wt_CUTS_steps : K.lookup p_CUTS_steps = some ⟨.type "dict", none, .dict #[⟨hh_CUTS_steps_0, .str "rounds" tt_CUTS_steps_0, .ref ua_CUTS_steps_0⟩, ⟨hh_CUTS_steps_1, .str "throw" tt_CUTS_steps_1, .ref a12⟩, ⟨hh_CUTS_steps_2, .str "mark" tt_CUTS_steps_2, .ref ua_CUTS_steps_2⟩, ⟨hh_CUTS_steps_3, .str "before" tt_CUTS_steps_3, .ref ua_CUTS_steps_3⟩, ⟨hh_CUTS_steps_4, .str "share" tt_CUTS_steps_4, .ref ua_CUTS_steps_4⟩, ⟨hh_CUTS_steps_5, .str "groups" tt_CUTS_steps_5, .ref ua_CUTS_steps_5⟩] nn_CUTS_steps, #[]⟩) (Vt_CUTS_steps : PySem.W.KeysLit w.params [⟨hh_CUTS_steps_0, .str "rounds" tt_CUTS_steps_0, .ref ua_CUTS_steps_0⟩, ⟨hh_CUTS_steps_1, .str "throw" tt_CUTS_steps_1, .ref a12⟩, ⟨hh_CUTS_steps_2, .str "mark" tt_CUTS_steps_2, .ref ua_CUTS_steps_2⟩, ⟨hh_CUTS_steps_3, .str "before" tt_CUTS_steps_3, .ref ua_CUTS_steps_3⟩, ⟨hh_CUTS_steps_4, .str "share" tt_CUTS_steps_4, .ref ua_CUTS_steps_4⟩, ⟨hh_CUTS_steps_5, .str "groups" tt_CUTS_steps_5, .ref ua_CUTS_steps_5⟩]) (Ut_CUTS_steps : (p_CUTS_steps == sysModules) = false)
    (Yt_STANDS : PySem.W.nsIn K mainGlobals "STANDS" = some (some (.ref p_STANDS))) (Wt_STANDS : K.lookup p_STANDS = some ⟨.type "dict", none, .dict #[⟨hh_STANDS_0, .str "keep" tt_STANDS_0, .ref ua_STANDS_0⟩, ⟨hh_STANDS_1, .str "join" tt_STANDS_1, .ref ua_STANDS_1⟩, ⟨hh_STANDS_2, .str "left" tt_STANDS_2, .ref ua_STANDS_2⟩, ⟨hh_STANDS_3, .str "sort" tt_STANDS_3, .ref ua_STANDS_3⟩, ⟨hh_STANDS_4, .str "once" tt_STANDS_4, .ref ua_STANDS_4⟩, ⟨hh_STANDS_5, .str "near" tt_STANDS_5, .ref ua_STANDS_5⟩, ⟨hh_STANDS_6, .str "all" tt_STANDS_6, .ref ua_STANDS_6⟩, ⟨hh_STANDS_7, .str "twice" tt_STANDS_7, .ref ua_STANDS_7⟩, ⟨hh_STANDS_8, .str "fan" tt_STANDS_8, .ref ua_STANDS_8⟩, ⟨hh_STANDS_9, .str "cut" tt_STANDS_9, .ref a11⟩] nn_STANDS, #[]⟩) (Vt_STANDS : PySem.W.KeysLit w.params [⟨hh_STANDS_0, .str "keep" tt_STANDS_0, .ref ua_STANDS_0⟩, ⟨hh_STANDS_1, .str "join" tt_STANDS_1, .ref ua_STANDS_1⟩, ⟨hh_STANDS_2, .str "left" tt_STANDS_2, .ref ua_STANDS_2⟩, ⟨hh_STANDS_3, .str "sort" tt_STANDS_3, .ref ua_STANDS_3⟩, ⟨hh_STANDS_4, .str "once" tt_STANDS_4, .ref ua_STANDS_4⟩, ⟨hh_STANDS_5, .str "near" tt_STANDS_5, .ref ua_STANDS_5⟩, ⟨hh_STANDS_6, .str "all" tt_STANDS_6, .ref ua_STANDS_6⟩, ⟨hh_STANDS_7, .str "twice" tt_STANDS_7, .ref ua_STANDS_7⟩, ⟨hh_STANDS_8, .str "fan" tt_STANDS_8, .ref ua_STANDS_8⟩, ⟨hh_STANDS_9, .str "cut" tt_STANDS_9, .ref a11⟩]) (Ut_STANDS : (p_STANDS == sysModules) = false)
    (KEp : kV33 = .ref KDp) (KNs : PySem.W.nsIn K KDp "sides" = some (some (.ref e_sides))) (KNu : PySem.W.nsIn K KDp "unique" = some (some (.ref e_unique)))
    (We_sides : K.lookup e_sides = some ⟨.type "tuple", de_sides, .seq #[] ne_sides, se_sides⟩)
    (We_unique : K.lookup e_unique = some ⟨.type "tuple", de_unique, .seq #[] ne_unique, se_unique⟩)
    (KC : cd26 = .ref c_law) (LC : K.lookup c_law = some ⟨ec_law, dc_law, .fields vc_law, sc0_law⟩) (VC : vc_law[11]? = some (.ref P_law)) (NC : K.lookup P_law = none) (HC : PySem.W.codeHdIn K c_law P_law = true)
    (XQ_InvalidColumn : xqB K C_InvalidColumn C_LotsError C_Missing C_NothingLeft ["at"] = true)
    (XQ_InvalidSide : xqB K C_InvalidSide C_LotsError C_Missing C_NothingLeft ["at"] = true)
    (XQ_InvalidKey : xqB K C_InvalidKey C_LotsError C_Missing C_NothingLeft ["given"] = true)
    (XQ_InvalidStep : xqB K C_InvalidStep C_LotsError C_Missing C_NothingLeft ["at"] = true)
    (XQ_InvalidTest : xqB K C_InvalidTest C_LotsError C_Missing C_NothingLeft ["given"] = true)
    (XQ_InvalidText : xqB K C_InvalidText C_LotsError C_Missing C_NothingLeft ["line"] = true)
    (XQ_TooMany : xqB K C_TooMany C_LotsError C_Missing C_NothingLeft ["most"] = true)
    (XQ_NothingLeft : xqB K C_NothingLeft C_LotsError C_Missing C_NothingLeft [] = true)
    (Z0 : PySem.W.nsIn K mainGlobals "abs" = some none)
    (Z1 : PySem.W.nsIn K mainGlobals "all" = some none)
    (Z2 : PySem.W.nsIn K mainGlobals "any" = some none)
    (Z3 : PySem.W.nsIn K mainGlobals "bool" = some none)
    (Z4 : PySem.W.nsIn K mainGlobals "enumerate" = some none)
    (Z5 : PySem.W.nsIn K mainGlobals "int" = some none)
    (Z6 : PySem.W.nsIn K mainGlobals "isinstance" = some none)
    (Z7 : PySem.W.nsIn K mainGlobals "len" = some none)
    (Z8 : PySem.W.nsIn K mainGlobals "list" = some none)
    (Z9 : PySem.W.nsIn K mainGlobals "range" = some none)
    (Z10 : PySem.W.nsIn K mainGlobals "set" = some none)
    (Z11 : PySem.W.nsIn K mainGlobals "str" = some none)
    (Z12 : PySem.W.nsIn K mainGlobals "tuple" = some none)
    (Z13 : PySem.W.nsIn K mainGlobals "zip" = some none)
    (Y0 : PySem.W.nsIn K mainGlobals "LETTERS" = some (some (.str "abcdefghijklmnopqrstuvwxyz" t_LETTERS)))
    (Y1 : PySem.W.nsIn K mainGlobals "LONGEST_NAME" = some (some (.int 6 t_LONGEST_NAME)))
    (Y2 : PySem.W.nsIn K mainGlobals "MOST_COLUMNS" = some (some (.int 6 t_MOST_COLUMNS)))
    (Y3 : PySem.W.nsIn K mainGlobals "MOST_TICKS" = some (some (.int 2 t_MOST_TICKS)))
    (Y4 : PySem.W.nsIn K mainGlobals "MOST_SIDES" = some (some (.int 3 t_MOST_SIDES)))
    (Y5 : PySem.W.nsIn K mainGlobals "MOST_OF_SIDE" = some (some (.int 3 t_MOST_OF_SIDE)))
    (Y6 : PySem.W.nsIn K mainGlobals "MOST_TAGS" = some (some (.int 3 t_MOST_TAGS)))
    (Y7 : PySem.W.nsIn K mainGlobals "KINDS" = some (some (.ref p_KINDS))) (W_KINDS : K.lookup p_KINDS = some ⟨.type "tuple", dd_KINDS, .seq #[.str "name" tk_KINDS_0, .str "tick" tk_KINDS_1, .str "worth" tk_KINDS_2] n_KINDS, sl_KINDS⟩) :
    ∃ T : Top K w mg, T.a_law = fa ∧ ∀ (s : Shared) (v : Value), BindsTo s T.d_law ⟨[v], []⟩ [("_law_script", v)] := by
  have e : a26 = fa := (Value.ref.inj (Option.some.inj (hfa.symm.trans (PySem.W.mg_of X G A26)))).symm
  subst e
  exact ⟨{
    C_Standing := C_Standing,
    mc_Standing := PySem.W.mg_of X G OA_Standing,
    cl_Standing := ⟨Oga_Standing, Ohd_Standing, Opo_Standing, Osa_Standing⟩, mk_Standing := Omk_Standing, kp_Standing := Okp_Standing,
    n_Standing_kinds := On_Standing_kinds,
    n_Standing_worths := On_Standing_worths,
    n_Standing_anchors := On_Standing_anchors,
    n_Standing_bounded := On_Standing_bounded,
    n_Standing_free := On_Standing_free,
    n_Standing_joined := On_Standing_joined,
    n_Standing_stage := On_Standing_stage,
    n_Standing_onces := On_Standing_onces,
    n_Standing_doublings := On_Standing_doublings,
    n_Standing_mixed := On_Standing_mixed,
    C_Program := C_Program,
    mc_Program := PySem.W.mg_of X G OA_Program,
    cl_Program := ⟨Oga_Program, Ohd_Program, Opo_Program, Osa_Program⟩, mk_Program := Omk_Program, kp_Program := Okp_Program,
    n_Program__main := On_Program__main,
    n_Program__sides := On_Program__sides,
    n_Program__unique := On_Program__unique,
    n_Program__ahead := On_Program__ahead,
    n_Program__steps := On_Program__steps,
    n_Program__cut_at := On_Program__cut_at,
    n_Program__kinds := On_Program__kinds,
    n_Program__many := On_Program__many,
    cr_Program := ⟨Or1_Program, Or2_Program⟩,
    tk_Program_MOST_STEPS := tk_Program_MOST_STEPS, cv_Program_MOST_STEPS := ⟨Oc_Program_MOST_STEPS, ⟨_, rfl⟩⟩,
    tk_Program_MOST_LOOKS := tk_Program_MOST_LOOKS, cv_Program_MOST_LOOKS := ⟨Oc_Program_MOST_LOOKS, ⟨_, rfl⟩⟩,
    a_is_name := a0, d_is_name := PySem.W.fnOf "is_name" "is_name" (defArgs s_is_name) (defBody s_is_name) (defScope s_is_name) .none kV0 dc0 pm0 an0 cd0 ct0, F_is_name := fun_mk (st := s_is_name) L0 C0 K0, m_is_name := PySem.W.mg_of X G A0, b_is_name := (fun_mk (st := s_is_name) L0 C0 K0).binds (ps := ["value"]) fun _ _ _ _ _ _ us hl => match us, hl with | [_], _ => rfl,
    a_is_number := a1, d_is_number := PySem.W.fnOf "is_number" "is_number" (defArgs s_is_number) (defBody s_is_number) (defScope s_is_number) .none kV1 dc1 pm1 an1 cd1 ct1, F_is_number := fun_mk (st := s_is_number) L1 C1 K1, m_is_number := PySem.W.mg_of X G A1, b_is_number := (fun_mk (st := s_is_number) L1 C1 K1).binds (ps := ["value", "least", "most"]) fun _ _ _ _ _ _ us hl => match us, hl with | [_, _, _], _ => rfl,
    a_is_column := a2, d_is_column := PySem.W.fnOf "is_column" "is_column" (defArgs s_is_column) (defBody s_is_column) (defScope s_is_column) .none kV2 dc2 pm2 an2 cd2 ct2, F_is_column := fun_mk (st := s_is_column) L2 C2 K2, m_is_column := PySem.W.mg_of X G A2, b_is_column := (fun_mk (st := s_is_column) L2 C2 K2).binds (ps := ["value"]) fun _ _ _ _ _ _ us hl => match us, hl with | [_], _ => rfl,
    a_is_tags := a3, d_is_tags := PySem.W.fnOf "is_tags" "is_tags" (defArgs s_is_tags) (defBody s_is_tags) (defScope s_is_tags) .none kV3 dc3 pm3 an3 cd3 ct3, F_is_tags := fun_mk (st := s_is_tags) L3 C3 K3, m_is_tags := PySem.W.mg_of X G A3, b_is_tags := (fun_mk (st := s_is_tags) L3 C3 K3).binds (ps := ["value"]) fun _ _ _ _ _ _ us hl => match us, hl with | [_], _ => rfl,
    a_is_column_of := a4, d_is_column_of := PySem.W.fnOf "is_column_of" "is_column_of" (defArgs s_is_column_of) (defBody s_is_column_of) (defScope s_is_column_of) .none kV4 dc4 pm4 an4 cd4 ct4, F_is_column_of := fun_mk (st := s_is_column_of) L4 C4 K4, m_is_column_of := PySem.W.mg_of X G A4, b_is_column_of := (fun_mk (st := s_is_column_of) L4 C4 K4).binds (ps := ["value", "kinds"]) fun _ _ _ _ _ _ us hl => match us, hl with | [_, _], _ => rfl,
    a_wrong_column := a5, d_wrong_column := PySem.W.fnOf "wrong_column" "wrong_column" (defArgs s_wrong_column) (defBody s_wrong_column) (defScope s_wrong_column) .none kV5 dc5 pm5 an5 cd5 ct5, F_wrong_column := fun_mk (st := s_wrong_column) L5 C5 K5, m_wrong_column := PySem.W.mg_of X G A5, b_wrong_column := (fun_mk (st := s_wrong_column) L5 C5 K5).binds (ps := ["main"]) fun _ _ _ _ _ _ us hl => match us, hl with | [_], _ => rfl,
    a_is_side := a6, d_is_side := PySem.W.fnOf "is_side" "is_side" (defArgs s_is_side) (defBody s_is_side) (defScope s_is_side) .none kV6 dc6 pm6 an6 cd6 ct6, F_is_side := fun_mk (st := s_is_side) L6 C6 K6, m_is_side := PySem.W.mg_of X G A6, b_is_side := (fun_mk (st := s_is_side) L6 C6 K6).binds (ps := ["value"]) fun _ _ _ _ _ _ us hl => match us, hl with | [_], _ => rfl,
    a_wrong_side := a7, d_wrong_side := PySem.W.fnOf "wrong_side" "wrong_side" (defArgs s_wrong_side) (defBody s_wrong_side) (defScope s_wrong_side) .none kV7 dc7 pm7 an7 cd7 ct7, F_wrong_side := fun_mk (st := s_wrong_side) L7 C7 K7, m_wrong_side := PySem.W.mg_of X G A7, b_wrong_side := (fun_mk (st := s_wrong_side) L7 C7 K7).binds (ps := ["sides", "main"]) fun _ _ _ _ _ _ us hl => match us, hl with | [_, _], _ => rfl,
    a_is_key := a8, d_is_key := PySem.W.fnOf "is_key" "is_key" (defArgs s_is_key) (defBody s_is_key) (defScope s_is_key) .none kV8 dc8 pm8 an8 cd8 ct8, F_is_key := fun_mk (st := s_is_key) L8 C8 K8, m_is_key := PySem.W.mg_of X G A8, b_is_key := (fun_mk (st := s_is_key) L8 C8 K8).binds (ps := ["value", "main"]) fun _ _ _ _ _ _ us hl => match us, hl with | [_, _], _ => rfl,
    a_is_anchor := a9, d_is_anchor := PySem.W.fnOf "is_anchor" "is_anchor" (defArgs s_is_anchor) (defBody s_is_anchor) (defScope s_is_anchor) .none kV9 dc9 pm9 an9 cd9 ct9, F_is_anchor := fun_mk (st := s_is_anchor) L9 C9 K9, m_is_anchor := PySem.W.mg_of X G A9, b_is_anchor := (fun_mk (st := s_is_anchor) L9 C9 K9).binds (ps := ["kind"]) fun _ _ _ _ _ _ us hl => match us, hl with | [_], _ => rfl,
    a_columns_of_side := a10, d_columns_of_side := PySem.W.fnOf "columns_of_side" "columns_of_side" (defArgs s_columns_of_side) (defBody s_columns_of_side) (defScope s_columns_of_side) .none kV10 dc10 pm10 an10 cd10 ct10, F_columns_of_side := fun_mk (st := s_columns_of_side) L10 C10 K10, m_columns_of_side := PySem.W.mg_of X G A10, b_columns_of_side := (fun_mk (st := s_columns_of_side) L10 C10 K10).binds (ps := ["side"]) fun _ _ _ _ _ _ us hl => match us, hl with | [_], _ => rfl,
    a_cut_stands := a11, d_cut_stands := PySem.W.fnOf "_cut_stands" "_cut_stands" (defArgs s_cut_stands) (defBody s_cut_stands) (defScope s_cut_stands) .none kV11 dc11 pm11 an11 cd11 ct11, F_cut_stands := fun_mk (st := s_cut_stands) L11 C11 K11, m_cut_stands := PySem.W.mg_of X G A11, b_cut_stands := (fun_mk (st := s_cut_stands) L11 C11 K11).binds (ps := ["standing", "step"]) fun _ _ _ _ _ _ us hl => match us, hl with | [_, _], _ => rfl,
    a_throw_stands := a12, d_throw_stands := PySem.W.fnOf "_throw_stands" "_throw_stands" (defArgs s_throw_stands) (defBody s_throw_stands) (defScope s_throw_stands) .none kV12 dc12 pm12 an12 cd12 ct12, F_throw_stands := fun_mk (st := s_throw_stands) L12 C12 K12, m_throw_stands := PySem.W.mg_of X G A12, b_throw_stands := (fun_mk (st := s_throw_stands) L12 C12 K12).binds (ps := ["standing", "given"]) fun _ _ _ _ _ _ us hl => match us, hl with | [_, _], _ => rfl,
    a_count_looks := a13, d_count_looks := PySem.W.fnOf "_count_looks" "_count_looks" (defArgs s_count_looks) (defBody s_count_looks) (defScope s_count_looks) .none kV13 dc13 pm13 an13 cd13 ct13, F_count_looks := fun_mk (st := s_count_looks) L13 C13 K13, m_count_looks := PySem.W.mg_of X G A13, b_count_looks := (fun_mk (st := s_count_looks) L13 C13 K13).binds (ps := ["main", "steps", "sides"]) fun _ _ _ _ _ _ us hl => match us, hl with | [_, _, _], _ => rfl,
    a_count_tags := a14, d_count_tags := PySem.W.fnOf "_count_tags" "_count_tags" (defArgs s_count_tags) (defBody s_count_tags) (defScope s_count_tags) .none kV14 dc14 pm14 an14 cd14 ct14, F_count_tags := fun_mk (st := s_count_tags) L14 C14 K14, m_count_tags := PySem.W.mg_of X G A14, b_count_tags := (fun_mk (st := s_count_tags) L14 C14 K14).binds (ps := ["columns"]) fun _ _ _ _ _ _ us hl => match us, hl with | [_], _ => rfl,
    a_box := a15, d_box := PySem.W.fnOf "_law_box" "_law_box" (defArgs s_box) (defBody s_box) (defScope s_box) .none kV15 dc15 pm15 an15 cd15 ct15, F_box := fun_mk (st := s_box) L15 C15 K15, m_box := PySem.W.mg_of X G A15, b_box := (fun_mk (st := s_box) L15 C15 K15).binds (ps := ["_law_script"]) fun _ _ _ _ _ _ us hl => match us, hl with | [_], _ => rfl,
    a_pull := a16, d_pull := PySem.W.fnOf "_law_pull" "_law_pull" (defArgs s_pull) (defBody s_pull) (defScope s_pull) .none kV16 dc16 pm16 an16 cd16 ct16, F_pull := fun_mk (st := s_pull) L16 C16 K16, m_pull := PySem.W.mg_of X G A16, b_pull := (fun_mk (st := s_pull) L16 C16 K16).binds (ps := ["_law_box_here", "_law_many"]) fun _ _ _ _ _ _ us hl => match us, hl with | [_, _], _ => rfl,
    a_of := a17, d_of := PySem.W.fnOf "_law_of" "_law_of" (defArgs s_of) (defBody s_of) (defScope s_of) .none kV17 dc17 pm17 an17 cd17 ct17, F_of := fun_mk (st := s_of) L17 C17 K17, m_of := PySem.W.mg_of X G A17, b_of := (fun_mk (st := s_of) L17 C17 K17).binds (ps := ["_law_box_here", "_law_some"]) fun _ _ _ _ _ _ us hl => match us, hl with | [_, _], _ => rfl,
    a_names := a18, d_names := PySem.W.fnOf "_law_names" "_law_names" (defArgs s_names) (defBody s_names) (defScope s_names) .none kV18 dc18 pm18 an18 cd18 ct18, F_names := fun_mk (st := s_names) L18 C18 K18, m_names := PySem.W.mg_of X G A18, b_names := (fun_mk (st := s_names) L18 C18 K18).binds (ps := ["_law_box_here", "_law_many"]) fun _ _ _ _ _ _ us hl => match us, hl with | [_, _], _ => rfl,
    a_same := a19, d_same := PySem.W.fnOf "_law_same" "_law_same" (defArgs s_same) (defBody s_same) (defScope s_same) .none kV19 dc19 pm19 an19 cd19 ct19, F_same := fun_mk (st := s_same) L19 C19 K19, m_same := PySem.W.mg_of X G A19, b_same := (fun_mk (st := s_same) L19 C19 K19).binds (ps := ["_law_found", "_law_due"]) fun _ _ _ _ _ _ us hl => match us, hl with | [_, _], _ => rfl,
    a_field := a20, d_field := PySem.W.fnOf "_law_field" "_law_field" (defArgs s_field) (defBody s_field) (defScope s_field) .none kV20 dc20 pm20 an20 cd20 ct20, F_field := fun_mk (st := s_field) L20 C20 K20, m_field := PySem.W.mg_of X G A20, b_field := (fun_mk (st := s_field) L20 C20 K20).binds (ps := ["_law_e"]) fun _ _ _ _ _ _ us hl => match us, hl with | [_], _ => rfl,
    a_got := a21, d_got := PySem.W.fnOf "_law_got" "_law_got" (defArgs s_got) (defBody s_got) (defScope s_got) .none kV21 dc21 pm21 an21 cd21 ct21, F_got := fun_mk (st := s_got) L21 C21 K21, m_got := PySem.W.mg_of X G A21, b_got := (fun_mk (st := s_got) L21 C21 K21).binds (ps := ["_law_ask"]) fun _ _ _ _ _ _ us hl => match us, hl with | [_], _ => rfl,
    a_all_got := a22, d_all_got := PySem.W.fnOf "_law_all_got" "_law_all_got" (defArgs s_all_got) (defBody s_all_got) (defScope s_all_got) .none kV22 dc22 pm22 an22 cd22 ct22, F_all_got := fun_mk (st := s_all_got) L22 C22 K22, m_all_got := PySem.W.mg_of X G A22, b_all_got := (fun_mk (st := s_all_got) L22 C22 K22).binds (ps := ["_law_asks"]) fun _ _ _ _ _ _ us hl => match us, hl with | [_], _ => rfl,
    a_mixed := a23, d_mixed := PySem.W.fnOf "_law_mixed" "_law_mixed" (defArgs s_mixed) (defBody s_mixed) (defScope s_mixed) .none kV23 dc23 pm23 an23 cd23 ct23, F_mixed := fun_mk (st := s_mixed) L23 C23 K23, m_mixed := PySem.W.mg_of X G A23, b_mixed := (fun_mk (st := s_mixed) L23 C23 K23).binds (ps := ["_law_box_here", "_law_some"]) fun _ _ _ _ _ _ us hl => match us, hl with | [_, _], _ => rfl,
    a_main := a24, d_main := PySem.W.fnOf "_law_main" "_law_main" (defArgs s_main) (defBody s_main) (defScope s_main) .none kV24 dc24 pm24 an24 cd24 ct24, F_main := fun_mk (st := s_main) L24 C24 K24, m_main := PySem.W.mg_of X G A24, b_main := (fun_mk (st := s_main) L24 C24 K24).binds (ps := ["_law_box_here", "_law_words"]) fun _ _ _ _ _ _ us hl => match us, hl with | [_, _], _ => rfl,
    a_bad_column := a25, d_bad_column := PySem.W.fnOf "_law_bad_column" "_law_bad_column" (defArgs s_bad_column) (defBody s_bad_column) (defScope s_bad_column) .none kV25 dc25 pm25 an25 cd25 ct25, F_bad_column := fun_mk (st := s_bad_column) L25 C25 K25, m_bad_column := PySem.W.mg_of X G A25, b_bad_column := (fun_mk (st := s_bad_column) L25 C25 K25).binds (ps := ["_law_box_here", "_law_column", "_law_words"]) fun _ _ _ _ _ _ us hl => match us, hl with | [_, _, _], _ => rfl,
    a_law := a26, d_law := PySem.W.fnOf "law" "law" (defArgs s_law) (defBody s_law) (defScope s_law) .none kV26 dc26 pm26 an26 cd26 ct26, F_law := fun_mk (st := s_law) L26 C26 K26, m_law := PySem.W.mg_of X G A26, b_law := (fun_mk (st := s_law) L26 C26 K26).binds (ps := ["_law_script"]) fun _ _ _ _ _ _ us hl => match us, hl with | [_], _ => rfl,
    a_Standing___init__ := a27, d_Standing___init__ := PySem.W.fnOf "__init__" "Standing.__init__" (defArgs s_Standing___init__) (defBody s_Standing___init__) (defScope s_Standing___init__) .none kV27 dc27 pm27 an27 cd27 ct27, F_Standing___init__ := fun_mk (st := s_Standing___init__) L27 C27 K27, M_Standing___init__ := ⟨A27, I27, K27⟩, b_Standing___init__ := (fun_mk (st := s_Standing___init__) L27 C27 K27).binds (ps := ["self", "main", "sides", "unique"]) fun _ _ _ _ _ _ us hl => match us, hl with | [_, _, _, _], _ => rfl,
    a_Standing_strays := a28, d_Standing_strays := PySem.W.fnOf "strays" "Standing.strays" (defArgs s_Standing_strays) (defBody s_Standing_strays) (defScope s_Standing_strays) .none kV28 dc28 pm28 an28 cd28 ct28, F_Standing_strays := fun_mk (st := s_Standing_strays) L28 C28 K28, M_Standing_strays := ⟨A28, I28, K28⟩, b_Standing_strays := (fun_mk (st := s_Standing_strays) L28 C28 K28).binds (ps := ["self", "names"]) fun _ _ _ _ _ _ us hl => match us, hl with | [_, _], _ => rfl,
    a_Standing_takes := a29, d_Standing_takes := PySem.W.fnOf "takes" "Standing.takes" (defArgs s_Standing_takes) (defBody s_Standing_takes) (defScope s_Standing_takes) .none kV29 dc29 pm29 an29 cd29 ct29, F_Standing_takes := fun_mk (st := s_Standing_takes) L29 C29 K29, M_Standing_takes := ⟨A29, I29, K29⟩, b_Standing_takes := (fun_mk (st := s_Standing_takes) L29 C29 K29).binds (ps := ["self", "step"]) fun _ _ _ _ _ _ us hl => match us, hl with | [_, _], _ => rfl,
    a_Standing_take := a30, d_Standing_take := PySem.W.fnOf "take" "Standing.take" (defArgs s_Standing_take) (defBody s_Standing_take) (defScope s_Standing_take) .none kV30 dc30 pm30 an30 cd30 ct30, F_Standing_take := fun_mk (st := s_Standing_take) L30 C30 K30, M_Standing_take := ⟨A30, I30, K30⟩, b_Standing_take := (fun_mk (st := s_Standing_take) L30 C30 K30).binds (ps := ["self", "step"]) fun _ _ _ _ _ _ us hl => match us, hl with | [_, _], _ => rfl,
    a_Standing__stage_behind := a31, d_Standing__stage_behind := PySem.W.fnOf "_stage_behind" "Standing._stage_behind" (defArgs s_Standing__stage_behind) (defBody s_Standing__stage_behind) (defScope s_Standing__stage_behind) .none kV31 dc31 pm31 an31 cd31 ct31, F_Standing__stage_behind := fun_mk (st := s_Standing__stage_behind) L31 C31 K31, M_Standing__stage_behind := ⟨A31, I31, K31⟩, b_Standing__stage_behind := (fun_mk (st := s_Standing__stage_behind) L31 C31 K31).binds (ps := ["self", "word"]) fun _ _ _ _ _ _ us hl => match us, hl with | [_, _], _ => rfl,
    a_Standing_is_behind := a32, d_Standing_is_behind := PySem.W.fnOf "is_behind" "Standing.is_behind" (defArgs s_Standing_is_behind) (defBody s_Standing_is_behind) (defScope s_Standing_is_behind) .none kV32 dc32 pm32 an32 cd32 ct32, F_Standing_is_behind := fun_mk (st := s_Standing_is_behind) L32 C32 K32, M_Standing_is_behind := ⟨A32, I32, K32⟩, b_Standing_is_behind := (fun_mk (st := s_Standing_is_behind) L32 C32 K32).binds (ps := ["self"]) fun _ _ _ _ _ _ us hl => match us, hl with | [_], _ => rfl,
    a_Program___init__ := a33, d_Program___init__ := PySem.W.fnOf "__init__" "Program.__init__" (defArgs s_Program___init__) (defBody s_Program___init__) (defScope s_Program___init__) .none kV33 dc33 pm33 an33 cd33 ct33, F_Program___init__ := fun_mk (st := s_Program___init__) L33 C33 K33, M_Program___init__ := ⟨A33, I33, K33⟩,
    a_Program__take_steps := a34, d_Program__take_steps := PySem.W.fnOf "_take_steps" "Program._take_steps" (defArgs s_Program__take_steps) (defBody s_Program__take_steps) (defScope s_Program__take_steps) .none kV34 dc34 pm34 an34 cd34 ct34, F_Program__take_steps := fun_mk (st := s_Program__take_steps) L34 C34 K34, M_Program__take_steps := ⟨A34, I34, K34⟩, b_Program__take_steps := (fun_mk (st := s_Program__take_steps) L34 C34 K34).binds (ps := ["self", "steps"]) fun _ _ _ _ _ _ us hl => match us, hl with | [_, _], _ => rfl,
    a_Program_main := a35, d_Program_main := PySem.W.fnOf "main" "Program.main" (defArgs s_Program_main) (defBody s_Program_main) (defScope s_Program_main) .none kV35 dc35 pm35 an35 cd35 ct35, F_Program_main := fun_mk (st := s_Program_main) L35 C35 K35, pr_Program_main := pr35, M_Program_main := ⟨A35, I35, PT35, ⟨_, PR35⟩⟩, b_Program_main := (fun_mk (st := s_Program_main) L35 C35 K35).binds (ps := ["self"]) fun _ _ _ _ _ _ us hl => match us, hl with | [_], _ => rfl,
    C_LotsError := C_LotsError, mc_LotsError := PySem.W.mg_of X G AC_LotsError,
    C_Missing := C_Missing, mc_Missing := PySem.W.mg_of X G AC_Missing,
    C_InvalidColumn := C_InvalidColumn, mc_InvalidColumn := PySem.W.mg_of X G AC_InvalidColumn,
    x_InvalidColumn := xc_ve XB_InvalidColumn, f_InvalidColumn := f_InvalidColumn, di_InvalidColumn := PySem.W.fnOf "__init__" "InvalidColumn.__init__" (defArgs si_InvalidColumn) (defBody si_InvalidColumn) (defScope si_InvalidColumn) .none kV_InvalidColumn dc_InvalidColumn pm_InvalidColumn an_InvalidColumn cd_InvalidColumn ct_InvalidColumn, iC_InvalidColumn := IC_InvalidColumn, tI_InvalidColumn := TI_InvalidColumn, Fi_InvalidColumn := fun_mk (st := si_InvalidColumn) LI_InvalidColumn CI_InvalidColumn KI_InvalidColumn, bi_InvalidColumn := (fun_mk (st := si_InvalidColumn) LI_InvalidColumn CI_InvalidColumn KI_InvalidColumn).binds (ps := ["self", "at"]) fun _ _ _ _ _ _ us hl => match us, hl with | [_, _], _ => rfl,
    C_InvalidSide := C_InvalidSide, mc_InvalidSide := PySem.W.mg_of X G AC_InvalidSide,
    x_InvalidSide := xc_ve XB_InvalidSide, f_InvalidSide := f_InvalidSide, di_InvalidSide := PySem.W.fnOf "__init__" "InvalidSide.__init__" (defArgs si_InvalidSide) (defBody si_InvalidSide) (defScope si_InvalidSide) .none kV_InvalidSide dc_InvalidSide pm_InvalidSide an_InvalidSide cd_InvalidSide ct_InvalidSide, iC_InvalidSide := IC_InvalidSide, tI_InvalidSide := TI_InvalidSide, Fi_InvalidSide := fun_mk (st := si_InvalidSide) LI_InvalidSide CI_InvalidSide KI_InvalidSide, bi_InvalidSide := (fun_mk (st := si_InvalidSide) LI_InvalidSide CI_InvalidSide KI_InvalidSide).binds (ps := ["self", "at"]) fun _ _ _ _ _ _ us hl => match us, hl with | [_, _], _ => rfl,
    C_InvalidKey := C_InvalidKey, mc_InvalidKey := PySem.W.mg_of X G AC_InvalidKey,
    x_InvalidKey := xc_ve XB_InvalidKey, f_InvalidKey := f_InvalidKey, di_InvalidKey := PySem.W.fnOf "__init__" "InvalidKey.__init__" (defArgs si_InvalidKey) (defBody si_InvalidKey) (defScope si_InvalidKey) .none kV_InvalidKey dc_InvalidKey pm_InvalidKey an_InvalidKey cd_InvalidKey ct_InvalidKey, iC_InvalidKey := IC_InvalidKey, tI_InvalidKey := TI_InvalidKey, Fi_InvalidKey := fun_mk (st := si_InvalidKey) LI_InvalidKey CI_InvalidKey KI_InvalidKey, bi_InvalidKey := (fun_mk (st := si_InvalidKey) LI_InvalidKey CI_InvalidKey KI_InvalidKey).binds (ps := ["self", "given"]) fun _ _ _ _ _ _ us hl => match us, hl with | [_, _], _ => rfl,
    C_InvalidStep := C_InvalidStep, mc_InvalidStep := PySem.W.mg_of X G AC_InvalidStep,
    x_InvalidStep := xc_ve XB_InvalidStep, f_InvalidStep := f_InvalidStep, di_InvalidStep := PySem.W.fnOf "__init__" "InvalidStep.__init__" (defArgs si_InvalidStep) (defBody si_InvalidStep) (defScope si_InvalidStep) .none kV_InvalidStep dc_InvalidStep pm_InvalidStep an_InvalidStep cd_InvalidStep ct_InvalidStep, iC_InvalidStep := IC_InvalidStep, tI_InvalidStep := TI_InvalidStep, Fi_InvalidStep := fun_mk (st := si_InvalidStep) LI_InvalidStep CI_InvalidStep KI_InvalidStep, bi_InvalidStep := (fun_mk (st := si_InvalidStep) LI_InvalidStep CI_InvalidStep KI_InvalidStep).binds (ps := ["self", "at"]) fun _ _ _ _ _ _ us hl => match us, hl with | [_, _], _ => rfl,
    C_InvalidTest := C_InvalidTest, mc_InvalidTest := PySem.W.mg_of X G AC_InvalidTest,
    x_InvalidTest := xc_ve XB_InvalidTest, f_InvalidTest := f_InvalidTest, di_InvalidTest := PySem.W.fnOf "__init__" "InvalidTest.__init__" (defArgs si_InvalidTest) (defBody si_InvalidTest) (defScope si_InvalidTest) .none kV_InvalidTest dc_InvalidTest pm_InvalidTest an_InvalidTest cd_InvalidTest ct_InvalidTest, iC_InvalidTest := IC_InvalidTest, tI_InvalidTest := TI_InvalidTest, Fi_InvalidTest := fun_mk (st := si_InvalidTest) LI_InvalidTest CI_InvalidTest KI_InvalidTest, bi_InvalidTest := (fun_mk (st := si_InvalidTest) LI_InvalidTest CI_InvalidTest KI_InvalidTest).binds (ps := ["self", "given"]) fun _ _ _ _ _ _ us hl => match us, hl with | [_, _], _ => rfl,
    C_InvalidText := C_InvalidText, mc_InvalidText := PySem.W.mg_of X G AC_InvalidText,
    x_InvalidText := xc_ve XB_InvalidText, f_InvalidText := f_InvalidText, di_InvalidText := PySem.W.fnOf "__init__" "InvalidText.__init__" (defArgs si_InvalidText) (defBody si_InvalidText) (defScope si_InvalidText) .none kV_InvalidText dc_InvalidText pm_InvalidText an_InvalidText cd_InvalidText ct_InvalidText, iC_InvalidText := IC_InvalidText, tI_InvalidText := TI_InvalidText, Fi_InvalidText := fun_mk (st := si_InvalidText) LI_InvalidText CI_InvalidText KI_InvalidText, bi_InvalidText := (fun_mk (st := si_InvalidText) LI_InvalidText CI_InvalidText KI_InvalidText).binds (ps := ["self", "line"]) fun _ _ _ _ _ _ us hl => match us, hl with | [_, _], _ => rfl,
    C_TooMany := C_TooMany, mc_TooMany := PySem.W.mg_of X G AC_TooMany,
    x_TooMany := xc_ve XB_TooMany, f_TooMany := f_TooMany, di_TooMany := PySem.W.fnOf "__init__" "TooMany.__init__" (defArgs si_TooMany) (defBody si_TooMany) (defScope si_TooMany) .none kV_TooMany dc_TooMany pm_TooMany an_TooMany cd_TooMany ct_TooMany, iC_TooMany := IC_TooMany, tI_TooMany := TI_TooMany, Fi_TooMany := fun_mk (st := si_TooMany) LI_TooMany CI_TooMany KI_TooMany, bi_TooMany := (fun_mk (st := si_TooMany) LI_TooMany CI_TooMany KI_TooMany).binds (ps := ["self", "most"]) fun _ _ _ _ _ _ us hl => match us, hl with | [_, _], _ => rfl,
    C_NothingLeft := C_NothingLeft, mc_NothingLeft := PySem.W.mg_of X G AC_NothingLeft,
    x_NothingLeft := xc_ie XB_NothingLeft, f_NothingLeft := f_NothingLeft, di_NothingLeft := PySem.W.fnOf "__init__" "NothingLeft.__init__" (defArgs si_NothingLeft) (defBody si_NothingLeft) (defScope si_NothingLeft) .none kV_NothingLeft dc_NothingLeft pm_NothingLeft an_NothingLeft cd_NothingLeft ct_NothingLeft, iC_NothingLeft := IC_NothingLeft, tI_NothingLeft := TI_NothingLeft, Fi_NothingLeft := fun_mk (st := si_NothingLeft) LI_NothingLeft CI_NothingLeft KI_NothingLeft, bi_NothingLeft := (fun_mk (st := si_NothingLeft) LI_NothingLeft CI_NothingLeft KI_NothingLeft).binds (ps := ["self"]) fun _ _ _ _ _ _ us hl => match us, hl with | [_], _ => rfl,
    p_STAGES := p_STAGES, c_STAGES := PySem.W.mg_of X G Yt_STAGES, g_STAGES := ⟨_, _, ⟨Wt_STAGES, Vt_STAGES, Ut_STAGES⟩, (.cons ⟨⟨_, rfl⟩, .ref _, rfl, fun _ => Rep.tup (vs := [.str "keep", .str "join", .str "left", .str "sort", .str "once", .str "near", .str "all", .str "twice", .str "fan", .str "cut"]) (.inr ⟨_, _, _, Wq_STAGES_0, rfl, rfl, (by show 10 ≤ sizeLine; decide), (.cons ⟨_, rfl⟩ (.cons ⟨_, rfl⟩ (.cons ⟨_, rfl⟩ (.cons ⟨_, rfl⟩ (.cons ⟨_, rfl⟩ (.cons ⟨_, rfl⟩ (.cons ⟨_, rfl⟩ (.cons ⟨_, rfl⟩ (.cons ⟨_, rfl⟩ (.cons ⟨_, rfl⟩ .nil))))))))))⟩) (.cons (.str _ (by decide +kernel)) (.cons (.str _ (by decide +kernel)) (.cons (.str _ (by decide +kernel)) (.cons (.str _ (by decide +kernel)) (.cons (.str _ (by decide +kernel)) (.cons (.str _ (by decide +kernel)) (.cons (.str _ (by decide +kernel)) (.cons (.str _ (by decide +kernel)) (.cons (.str _ (by decide +kernel)) (.cons (.str _ (by decide +kernel)) .nil)))))))))) (by show 10 ≤ sizeLine; decide)⟩ (.cons ⟨⟨_, rfl⟩, .ref _, rfl, fun _ => Rep.tup (vs := [.str "twice", .str "fan", .str "cut"]) (.inr ⟨_, _, _, Wq_STAGES_1, rfl, rfl, (by show 3 ≤ sizeLine; decide), (.cons ⟨_, rfl⟩ (.cons ⟨_, rfl⟩ (.cons ⟨_, rfl⟩ .nil)))⟩) (.cons (.str _ (by decide +kernel)) (.cons (.str _ (by decide +kernel)) (.cons (.str _ (by decide +kernel)) .nil))) (by show 3 ≤ sizeLine; decide)⟩ (.cons ⟨⟨_, rfl⟩, .ref _, rfl, fun _ => Rep.tup (vs := [.str "once", .str "near", .str "all", .str "twice"]) (.inr ⟨_, _, _, Wq_STAGES_2, rfl, rfl, (by show 4 ≤ sizeLine; decide), (.cons ⟨_, rfl⟩ (.cons ⟨_, rfl⟩ (.cons ⟨_, rfl⟩ (.cons ⟨_, rfl⟩ .nil))))⟩) (.cons (.str _ (by decide +kernel)) (.cons (.str _ (by decide +kernel)) (.cons (.str _ (by decide +kernel)) (.cons (.str _ (by decide +kernel)) .nil)))) (by show 4 ≤ sizeLine; decide)⟩ (.cons ⟨⟨_, rfl⟩, .ref _, rfl, fun _ => Rep.tup (vs := [.str "near", .str "all", .str "twice"]) (.inr ⟨_, _, _, Wq_STAGES_3, rfl, rfl, (by show 3 ≤ sizeLine; decide), (.cons ⟨_, rfl⟩ (.cons ⟨_, rfl⟩ (.cons ⟨_, rfl⟩ .nil)))⟩) (.cons (.str _ (by decide +kernel)) (.cons (.str _ (by decide +kernel)) (.cons (.str _ (by decide +kernel)) .nil))) (by show 3 ≤ sizeLine; decide)⟩ .nil))))⟩,
    ua_CUTS_steps_0 := ua_CUTS_steps_0,
    ua_CUTS_steps_2 := ua_CUTS_steps_2,
    ua_CUTS_steps_3 := ua_CUTS_steps_3,
    ua_CUTS_steps_4 := ua_CUTS_steps_4,
    ua_CUTS_steps_5 := ua_CUTS_steps_5,
    p_CUTS_steps := p_CUTS_steps, c_CUTS_steps := PySem.W.mg_of X G Yt_CUTS_steps, g_CUTS_steps := ⟨_, _, ⟨Wt_CUTS_steps, Vt_CUTS_steps, Ut_CUTS_steps⟩, (.cons ⟨⟨_, rfl⟩, .ref _, rfl, fun _ => .raw _⟩ (.cons ⟨⟨_, rfl⟩, .ref _, rfl, fun _ => .raw _⟩ (.cons ⟨⟨_, rfl⟩, .ref _, rfl, fun _ => .raw _⟩ (.cons ⟨⟨_, rfl⟩, .ref _, rfl, fun _ => .raw _⟩ (.cons ⟨⟨_, rfl⟩, .ref _, rfl, fun _ => .raw _⟩ (.cons ⟨⟨_, rfl⟩, .ref _, rfl, fun _ => .raw _⟩ .nil))))))⟩,
    ua_STANDS_0 := ua_STANDS_0,
    ua_STANDS_1 := ua_STANDS_1,
    ua_STANDS_2 := ua_STANDS_2,
    ua_STANDS_3 := ua_STANDS_3,
    ua_STANDS_4 := ua_STANDS_4,
    ua_STANDS_5 := ua_STANDS_5,
    ua_STANDS_6 := ua_STANDS_6,
    ua_STANDS_7 := ua_STANDS_7,
    ua_STANDS_8 := ua_STANDS_8,
    p_STANDS := p_STANDS, c_STANDS := PySem.W.mg_of X G Yt_STANDS, g_STANDS := ⟨_, _, ⟨Wt_STANDS, Vt_STANDS, Ut_STANDS⟩, (.cons ⟨⟨_, rfl⟩, .ref _, rfl, fun _ => .raw _⟩ (.cons ⟨⟨_, rfl⟩, .ref _, rfl, fun _ => .raw _⟩ (.cons ⟨⟨_, rfl⟩, .ref _, rfl, fun _ => .raw _⟩ (.cons ⟨⟨_, rfl⟩, .ref _, rfl, fun _ => .raw _⟩ (.cons ⟨⟨_, rfl⟩, .ref _, rfl, fun _ => .raw _⟩ (.cons ⟨⟨_, rfl⟩, .ref _, rfl, fun _ => .raw _⟩ (.cons ⟨⟨_, rfl⟩, .ref _, rfl, fun _ => .raw _⟩ (.cons ⟨⟨_, rfl⟩, .ref _, rfl, fun _ => .raw _⟩ (.cons ⟨⟨_, rfl⟩, .ref _, rfl, fun _ => .raw _⟩ (.cons ⟨⟨_, rfl⟩, .ref _, rfl, fun _ => .raw _⟩ .nil))))))))))⟩,
    e_sides := e_sides, et_sides := fun H => .inr ⟨_, _, _, We_sides, rfl, rfl, (by show 0 ≤ sizeLine; decide), .nil⟩,
    e_unique := e_unique, et_unique := fun H => .inr ⟨_, _, _, We_unique, rfl, rfl, (by show 0 ≤ sizeLine; decide), .nil⟩,
    fd_Program := ⟨⟨_, _, _, _, _, _, _, _, _, _, rfl, L33, C33, .inl ⟨rfl, rfl⟩, .inr ⟨KDp, KEp, fun q hq => by rcases List.mem_cons.mp hq with rfl | hq; exact ⟨_, KNs, rfl⟩; rw [List.mem_singleton.mp hq]; exact ⟨_, KNu, rfl⟩⟩⟩, K33⟩,
    c_law := c_law, P_law := P_law, k_law := KC, Lc_law := ⟨_, _, _, _, LC, VC⟩, Nc_law := NC, Hc_law := HC,
    xq_InvalidColumn := XQ_InvalidColumn,
    xq_InvalidSide := XQ_InvalidSide,
    xq_InvalidKey := XQ_InvalidKey,
    xq_InvalidStep := XQ_InvalidStep,
    xq_InvalidTest := XQ_InvalidTest,
    xq_InvalidText := XQ_InvalidText,
    xq_TooMany := XQ_TooMany,
    xq_NothingLeft := XQ_NothingLeft,
    z_abs := PySem.W.mg_none_of X G Z0,
    z_all := PySem.W.mg_none_of X G Z1,
    z_any := PySem.W.mg_none_of X G Z2,
    z_bool := PySem.W.mg_none_of X G Z3,
    z_enumerate := PySem.W.mg_none_of X G Z4,
    z_int := PySem.W.mg_none_of X G Z5,
    z_isinstance := PySem.W.mg_none_of X G Z6,
    z_len := PySem.W.mg_none_of X G Z7,
    z_list := PySem.W.mg_none_of X G Z8,
    z_range := PySem.W.mg_none_of X G Z9,
    z_set := PySem.W.mg_none_of X G Z10,
    z_str := PySem.W.mg_none_of X G Z11,
    z_tuple := PySem.W.mg_none_of X G Z12,
    z_zip := PySem.W.mg_none_of X G Z13,
    t_LETTERS := t_LETTERS, c_LETTERS := PySem.W.mg_of X G Y0, r_LETTERS := ⟨_, rfl⟩,
    t_LONGEST_NAME := t_LONGEST_NAME, c_LONGEST_NAME := PySem.W.mg_of X G Y1, r_LONGEST_NAME := ⟨_, rfl⟩,
    t_MOST_COLUMNS := t_MOST_COLUMNS, c_MOST_COLUMNS := PySem.W.mg_of X G Y2, r_MOST_COLUMNS := ⟨_, rfl⟩,
    t_MOST_TICKS := t_MOST_TICKS, c_MOST_TICKS := PySem.W.mg_of X G Y3, r_MOST_TICKS := ⟨_, rfl⟩,
    t_MOST_SIDES := t_MOST_SIDES, c_MOST_SIDES := PySem.W.mg_of X G Y4, r_MOST_SIDES := ⟨_, rfl⟩,
    t_MOST_OF_SIDE := t_MOST_OF_SIDE, c_MOST_OF_SIDE := PySem.W.mg_of X G Y5, r_MOST_OF_SIDE := ⟨_, rfl⟩,
    t_MOST_TAGS := t_MOST_TAGS, c_MOST_TAGS := PySem.W.mg_of X G Y6, r_MOST_TAGS := ⟨_, rfl⟩,
    p_KINDS := p_KINDS, c_KINDS := PySem.W.mg_of X G Y7, r_KINDS := rfl, q_KINDS := fun H => .inr ⟨_, _, _, W_KINDS, rfl, rfl, (by show 3 ≤ sizeLine; decide), (.cons ⟨_, rfl⟩ (.cons ⟨_, rfl⟩ (.cons ⟨_, rfl⟩ .nil)))⟩ }, rfl, fun s v => .of_eq rfl⟩
/-- the end of a law that makes lambdas -/
theorem all_mk {l : PySem.W.OpenLaw} {w : World} {K : PySem.W.Frag} {mg : Str → Option Value} {fa : Addr} {h : Heap} (KX : K.In h) (own : LamX.OwnTab K fa h)
    (hT : ∃ T : Top K w mg, T.a_law = fa ∧ ∀ (s : Shared) (v : Value), BindsTo s T.d_law ⟨[v], []⟩ [("_law_script", v)]) : LamX.LawAtS l w K CX0 40 63 "_law_script" mg fa h := by
  obtain ⟨T, rfl, hb⟩ := hT
  obtain ⟨e, dd, vs, sl, h1, h2⟩ := T.Lc_law
  obtain ⟨oc, od, kV, doc, pm, an, cdv, ct, osl, e1, lk, hcd⟩ := T.F_law.ex
  refine ⟨T.d_law, [(T.c_law, T.P_law)], spLaw K T.P_law, fun p hp => ?_, fun p hp => ?_, fun p hp => ?_, hb, fun H a ns hl _ ht hS => ?_, fun base hK hN hTB => ok_law T (hTB (T.c_law, T.P_law) List.mem_cons_self)⟩
  · obtain rfl := List.mem_singleton.mp hp
    exact own _ _ _ _ _ _ _ _ lk rfl T.k_law h1 h2
  · obtain rfl := List.mem_singleton.mp hp
    exact T.Nc_law
  · obtain rfl := List.mem_singleton.mp hp
    exact PySem.W.codeHd_of_K KX T.Hc_law
  · exact ⟨a, ns, rfl, hS, hl, ht (T.c_law, T.P_law) List.mem_cons_self, fun _ => rfl⟩
theorem walk {l : PySem.W.OpenLaw} {q : Program} {loose : List Str} {XP : (Str → Option Value) → Heap → Prop} {YP : World → Heap → Prop} {d : DefRec} {K : Params → PySem.W.Frag} (hn : l.most = some 63) (hdf : d.params.defaults = [])
    (hrec : ((PyProof.Rows.recsOf q).any fun e => e.name == d.name) = true) (hY : ∀ (w : World) (h : Heap), YP w h → (K w.params).In h)
    (F : ∀ (w : World) (mg : Str → Option Value) (fa : Addr) (h : Heap), YP w h → (K w.params).In h → h.Ns mainGlobals mg → mg d.name = some (.ref fa) → LamX.OwnTab (K w.params) fa h → LamX.LawAtS l w (K w.params) CX0 40 63 "_law_script" mg fa h) :
    PySem.W.WalkO q loose XP YP l.row.toRowW d [] (fun f vs => PySem.call f vs) :=
  LamX.walk_ofOwn (n := 63) (k := 40) (x := "_law_script") (CX := fun _ => CX0) hn (by decide) hdf ⟨rfl, by decide, by decide⟩ hrec hY F fun _ _ _ _ _ z => z
end Bl
open PySem PySem.W PyProof.Rows
set_option maxRecDepth 100000 in
set_option maxHeartbeats 0 in
theorem PySem.Challenge.cw_bothlots_k05_columns_refused_holds : PySem.Challenge.rw_bothlots_k05_columns_refused.Holds := by
  refine Bl.pre ?_
  refine HandSHeadRun.head_any (r := Bl.headR) (q := Bl.headQ) (H := Bl.hH) (ob := Bl.hOb) (M := 9000) (loose := Bl.headN) (kwd := []) (fun s => List.map_congr_left fun a _ => HandSHeadRun.getT_eq s a) (by kernel_rfl) (fun s => by kernel_rfl) (fun w => byRow2 "special-get-raises" Bl.run0 Bl.run1 w) (by rfl) (by rfl) (by rfl) (by rfl) Bl.said (by decide +kernel) Bl.bareR ?hw ?hc
  case hw => w_witness2
  k_fill
  first
    | refine Bl.walk (l := PySem.Challenge.rw_bothlots_k05_columns_refused) rfl rfl ?R (fun w h Y => PySem.W.km_in_of Y) ?F
    | refine Bl.walk (l := PySem.Challenge.rw_bothlots_k05_columns_refused) rfl rfl ?R (fun w h Y => PySem.W.kIn_of Y) ?F
  case R => decide +kernel
  case F =>
    intro w mg fa h Y KX G hmg own
    refine Bl.all_mk KX own ?H
    refine' Bl.top_mk KX G hmg ?OA_Standing ?Oga_Standing ?Ohd_Standing ?Opo_Standing ?Osa_Standing ?Omk_Standing ?Okp_Standing ?On_Standing_kinds ?On_Standing_worths ?On_Standing_anchors ?On_Standing_bounded ?On_Standing_free ?On_Standing_joined ?On_Standing_stage ?On_Standing_onces ?On_Standing_doublings ?On_Standing_mixed ?OA_Program ?Oga_Program ?Ohd_Program ?Opo_Program ?Osa_Program ?Omk_Program ?Okp_Program ?On_Program__main ?On_Program__sides ?On_Program__unique ?On_Program__ahead ?On_Program__steps ?On_Program__cut_at ?On_Program__kinds ?On_Program__many ?Or1_Program ?Or2_Program ?Oc_Program_MOST_STEPS ?Oc_Program_MOST_LOOKS ?A0 ?L0 ?C0 ?K0 ?A1 ?L1 ?C1 ?K1 ?A2 ?L2 ?C2 ?K2 ?A3 ?L3 ?C3 ?K3 ?A4 ?L4 ?C4 ?K4 ?A5 ?L5 ?C5 ?K5 ?A6 ?L6 ?C6 ?K6 ?A7 ?L7 ?C7 ?K7 ?A8 ?L8 ?C8 ?K8 ?A9 ?L9 ?C9 ?K9 ?A10 ?L10 ?C10 ?K10 ?A11 ?L11 ?C11 ?K11 ?A12 ?L12 ?C12 ?K12 ?A13 ?L13 ?C13 ?K13 ?A14 ?L14 ?C14 ?K14 ?A15 ?L15 ?C15 ?K15 ?A16 ?L16 ?C16 ?K16 ?A17 ?L17 ?C17 ?K17 ?A18 ?L18 ?C18 ?K18 ?A19 ?L19 ?C19 ?K19 ?A20 ?L20 ?C20 ?K20 ?A21 ?L21 ?C21 ?K21 ?A22 ?L22 ?C22 ?K22 ?A23 ?L23 ?C23 ?K23 ?A24 ?L24 ?C24 ?K24 ?A25 ?L25 ?C25 ?K25 ?A26 ?L26 ?C26 ?K26 ?A27 ?I27 ?L27 ?C27 ?K27 ?A28 ?I28 ?L28 ?C28 ?K28 ?A29 ?I29 ?L29 ?C29 ?K29 ?A30 ?I30 ?L30 ?C30 ?K30 ?A31 ?I31 ?L31 ?C31 ?K31 ?A32 ?I32 ?L32 ?C32 ?K32 ?A33 ?I33 ?L33 ?C33 ?K33 ?A34 ?I34 ?L34 ?C34 ?K34 ?A35 ?I35 ?PT35 ?PR35 ?L35 ?C35 ?K35 ?AC_LotsError ?AC_Missing ?AC_InvalidColumn ?XB_InvalidColumn ?IC_InvalidColumn ?TI_InvalidColumn ?LI_InvalidColumn ?CI_InvalidColumn ?KI_InvalidColumn ?AC_InvalidSide ?XB_InvalidSide ?IC_InvalidSide ?TI_InvalidSide ?LI_InvalidSide ?CI_InvalidSide ?KI_InvalidSide ?AC_InvalidKey ?XB_InvalidKey ?IC_InvalidKey ?TI_InvalidKey ?LI_InvalidKey ?CI_InvalidKey ?KI_InvalidKey ?AC_InvalidStep ?XB_InvalidStep ?IC_InvalidStep ?TI_InvalidStep ?LI_InvalidStep ?CI_InvalidStep ?KI_InvalidStep ?AC_InvalidTest ?XB_InvalidTest ?IC_InvalidTest ?TI_InvalidTest ?LI_InvalidTest ?CI_InvalidTest ?KI_InvalidTest ?AC_InvalidText ?XB_InvalidText ?IC_InvalidText ?TI_InvalidText ?LI_InvalidText ?CI_InvalidText ?KI_InvalidText ?AC_TooMany ?XB_TooMany ?IC_TooMany ?TI_TooMany ?LI_TooMany ?CI_TooMany ?KI_TooMany ?AC_NothingLeft ?XB_NothingLeft ?IC_NothingLeft ?TI_NothingLeft ?LI_NothingLeft ?CI_NothingLeft ?KI_NothingLeft ?Yt_STAGES ?Wt_STAGES ?Vt_STAGES ?Ut_STAGES ?Wq_STAGES_0 ?Wq_STAGES_1 ?Wq_STAGES_2 ?Wq_STAGES_3 ?Yt_CUTS_steps ?Wt_CUTS_steps ?Vt_CUTS_steps ?Ut_CUTS_steps ?Yt_STANDS ?Wt_STANDS ?Vt_STANDS ?Ut_STANDS ?KEp ?KNs ?KNu ?We_sides ?We_unique ?KC ?LC ?VC ?NC ?HC ?XQ_InvalidColumn ?XQ_InvalidSide ?XQ_InvalidKey ?XQ_InvalidStep ?XQ_InvalidTest ?XQ_InvalidText ?XQ_TooMany ?XQ_NothingLeft ?Z0 ?Z1 ?Z2 ?Z3 ?Z4 ?Z5 ?Z6 ?Z7 ?Z8 ?Z9 ?Z10 ?Z11 ?Z12 ?Z13 ?Y0 ?Y1 ?Y2 ?Y3 ?Y4 ?Y5 ?Y6 ?Y7 ?W_KINDS
    (case OA_Standing => k_is)
    (case Oga_Standing => k_is)
    (case Ohd_Standing => k_is)
    (case Opo_Standing => k_is)
    (case Osa_Standing => k_is)
    (case Omk_Standing => k_is)
    (case Okp_Standing => k_is)
    (case On_Standing_kinds => k_is)
    (case On_Standing_worths => k_is)
    (case On_Standing_anchors => k_is)
    (case On_Standing_bounded => k_is)
    (case On_Standing_free => k_is)
    (case On_Standing_joined => k_is)
    (case On_Standing_stage => k_is)
    (case On_Standing_onces => k_is)
    (case On_Standing_doublings => k_is)
    (case On_Standing_mixed => k_is)
    (case OA_Program => k_is)
    (case Oga_Program => k_is)
    (case Ohd_Program => k_is)
    (case Opo_Program => k_is)
    (case Osa_Program => k_is)
    (case Omk_Program => k_is)
    (case Okp_Program => k_is)
    (case On_Program__main => k_is)
    (case On_Program__sides => k_is)
    (case On_Program__unique => k_is)
    (case On_Program__ahead => k_is)
    (case On_Program__steps => k_is)
    (case On_Program__cut_at => k_is)
    (case On_Program__kinds => k_is)
    (case On_Program__many => k_is)
    (case Or1_Program => k_is)
    (case Or2_Program => k_is)
    (case Oc_Program_MOST_STEPS => k_is)
    (case Oc_Program_MOST_LOOKS => k_is)
    (case A0 => k_is)
    (case L0 => k_is)
    (case C0 => k_is)
    (case K0 => k_is)
    (case A1 => k_is)
    (case L1 => k_is)
    (case C1 => k_is)
    (case K1 => k_is)
    (case A2 => k_is)
    (case L2 => k_is)
    (case C2 => k_is)
    (case K2 => k_is)
    (case A3 => k_is)
    (case L3 => k_is)
    (case C3 => k_is)
    (case K3 => k_is)
    (case A4 => k_is)
    (case L4 => k_is)
    (case C4 => k_is)
    (case K4 => k_is)
    (case A5 => k_is)
    (case L5 => k_is)
    (case C5 => k_is)
    (case K5 => k_is)
    (case A6 => k_is)
    (case L6 => k_is)
    (case C6 => k_is)
    (case K6 => k_is)
    (case A7 => k_is)
    (case L7 => k_is)
    (case C7 => k_is)
    (case K7 => k_is)
    (case A8 => k_is)
    (case L8 => k_is)
    (case C8 => k_is)
    (case K8 => k_is)
    (case A9 => k_is)
    (case L9 => k_is)
    (case C9 => k_is)
    (case K9 => k_is)
    (case A10 => k_is)
    (case L10 => k_is)
    (case C10 => k_is)
    (case K10 => k_is)
    (case A11 => k_is)
    (case L11 => k_is)
    (case C11 => k_is)
    (case K11 => k_is)
    (case A12 => k_is)
    (case L12 => k_is)
    (case C12 => k_is)
    (case K12 => k_is)
    (case A13 => k_is)
    (case L13 => k_is)
    (case C13 => k_is)
    (case K13 => k_is)
    (case A14 => k_is)
    (case L14 => k_is)
    (case C14 => k_is)
    (case K14 => k_is)
    (case A15 => k_is)
    (case L15 => k_is)
    (case C15 => k_is)
    (case K15 => k_is)
    (case A16 => k_is)
    (case L16 => k_is)
    (case C16 => k_is)
    (case K16 => k_is)
    (case A17 => k_is)
    (case L17 => k_is)
    (case C17 => k_is)
    (case K17 => k_is)
    (case A18 => k_is)
    (case L18 => k_is)
    (case C18 => k_is)
    (case K18 => k_is)
    (case A19 => k_is)
    (case L19 => k_is)
    (case C19 => k_is)
    (case K19 => k_is)
    (case A20 => k_is)
    (case L20 => k_is)
    (case C20 => k_is)
    (case K20 => k_is)
    (case A21 => k_is)
    (case L21 => k_is)
    (case C21 => k_is)
    (case K21 => k_is)
    (case A22 => k_is)
    (case L22 => k_is)
    (case C22 => k_is)
    (case K22 => k_is)
    (case A23 => k_is)
    (case L23 => k_is)
    (case C23 => k_is)
    (case K23 => k_is)
    (case A24 => k_is)
    (case L24 => k_is)
    (case C24 => k_is)
    (case K24 => k_is)
    (case A25 => k_is)
    (case L25 => k_is)
    (case C25 => k_is)
    (case K25 => k_is)
    (case A26 => k_is)
    (case L26 => k_is)
    (case C26 => k_is)
    (case K26 => k_is)
    (case A27 => k_is)
    (case I27 => k_is)
    (case L27 => k_is)
    (case C27 => k_is)
    (case K27 => k_is)
    (case A28 => k_is)
    (case I28 => k_is)
    (case L28 => k_is)
    (case C28 => k_is)
    (case K28 => k_is)
    (case A29 => k_is)
    (case I29 => k_is)
    (case L29 => k_is)
    (case C29 => k_is)
    (case K29 => k_is)
    (case A30 => k_is)
    (case I30 => k_is)
    (case L30 => k_is)
    (case C30 => k_is)
    (case K30 => k_is)
    (case A31 => k_is)
    (case I31 => k_is)
    (case L31 => k_is)
    (case C31 => k_is)
    (case K31 => k_is)
    (case A32 => k_is)
    (case I32 => k_is)
    (case L32 => k_is)
    (case C32 => k_is)
    (case K32 => k_is)
    (case A33 => k_is)
    (case I33 => k_is)
    (case L33 => k_is)
    (case C33 => k_is)
    (case K33 => k_is)
    (case A34 => k_is)
    (case I34 => k_is)
    (case L34 => k_is)
    (case C34 => k_is)
    (case K34 => k_is)
    (case A35 => k_is)
    (case I35 => k_is)
    (case PT35 => k_is)
    (case PR35 => k_is)
    (case L35 => k_is)
    (case C35 => k_is)
    (case K35 => k_is)
    (case AC_LotsError => k_is)
    (case AC_Missing => k_is)
    (case AC_InvalidColumn => k_is)
    (case XB_InvalidColumn => kernel_rfl)
    (case IC_InvalidColumn => k_is)
    (case TI_InvalidColumn => k_is)
    (case LI_InvalidColumn => k_is)
    (case CI_InvalidColumn => k_is)
    (case KI_InvalidColumn => k_is)
    (case AC_InvalidSide => k_is)
    (case XB_InvalidSide => kernel_rfl)
    (case IC_InvalidSide => k_is)
    (case TI_InvalidSide => k_is)
    (case LI_InvalidSide => k_is)
    (case CI_InvalidSide => k_is)
    (case KI_InvalidSide => k_is)
    (case AC_InvalidKey => k_is)
    (case XB_InvalidKey => kernel_rfl)
    (case IC_InvalidKey => k_is)
    (case TI_InvalidKey => k_is)
    (case LI_InvalidKey => k_is)
    (case CI_InvalidKey => k_is)
    (case KI_InvalidKey => k_is)
    (case AC_InvalidStep => k_is)
    (case XB_InvalidStep => kernel_rfl)
    (case IC_InvalidStep => k_is)
    (case TI_InvalidStep => k_is)
    (case LI_InvalidStep => k_is)
    (case CI_InvalidStep => k_is)
    (case KI_InvalidStep => k_is)
    (case AC_InvalidTest => k_is)
    (case XB_InvalidTest => kernel_rfl)
    (case IC_InvalidTest => k_is)
    (case TI_InvalidTest => k_is)
    (case LI_InvalidTest => k_is)
    (case CI_InvalidTest => k_is)
    (case KI_InvalidTest => k_is)
    (case AC_InvalidText => k_is)
    (case XB_InvalidText => kernel_rfl)
    (case IC_InvalidText => k_is)
    (case TI_InvalidText => k_is)
    (case LI_InvalidText => k_is)
    (case CI_InvalidText => k_is)
    (case KI_InvalidText => k_is)
    (case AC_TooMany => k_is)
    (case XB_TooMany => kernel_rfl)
    (case IC_TooMany => k_is)
    (case TI_TooMany => k_is)
    (case LI_TooMany => k_is)
    (case CI_TooMany => k_is)
    (case KI_TooMany => k_is)
    (case AC_NothingLeft => k_is)
    (case XB_NothingLeft => kernel_rfl)
    (case IC_NothingLeft => k_is)
    (case TI_NothingLeft => k_is)
    (case LI_NothingLeft => k_is)
    (case CI_NothingLeft => k_is)
    (case KI_NothingLeft => k_is)
    (case Yt_STAGES => k_is)
    (case Wt_STAGES => k_is)
    (case Vt_STAGES => exact ⟨⟨_, _, rfl, rfl⟩, ⟨⟨_, _, rfl, rfl⟩, ⟨⟨_, _, rfl, rfl⟩, ⟨⟨_, _, rfl, rfl⟩, True.intro⟩⟩⟩⟩)
    (case Ut_STAGES => first | rfl | decide +kernel)
    (case Wq_STAGES_0 => k_is)
    (case Wq_STAGES_1 => k_is)
    (case Wq_STAGES_2 => k_is)
    (case Wq_STAGES_3 => k_is)
    (case Yt_CUTS_steps => k_is)
    (case Wt_CUTS_steps => k_is)
    (case Vt_CUTS_steps => exact ⟨⟨_, _, rfl, rfl⟩, ⟨⟨_, _, rfl, rfl⟩, ⟨⟨_, _, rfl, rfl⟩, ⟨⟨_, _, rfl, rfl⟩, ⟨⟨_, _, rfl, rfl⟩, ⟨⟨_, _, rfl, rfl⟩, True.intro⟩⟩⟩⟩⟩⟩)
    (case Ut_CUTS_steps => first | rfl | decide +kernel)
    (case Yt_STANDS => k_is)
    (case Wt_STANDS => k_is)
    (case Vt_STANDS => exact ⟨⟨_, _, rfl, rfl⟩, ⟨⟨_, _, rfl, rfl⟩, ⟨⟨_, _, rfl, rfl⟩, ⟨⟨_, _, rfl, rfl⟩, ⟨⟨_, _, rfl, rfl⟩, ⟨⟨_, _, rfl, rfl⟩, ⟨⟨_, _, rfl, rfl⟩, ⟨⟨_, _, rfl, rfl⟩, ⟨⟨_, _, rfl, rfl⟩, ⟨⟨_, _, rfl, rfl⟩, True.intro⟩⟩⟩⟩⟩⟩⟩⟩⟩⟩)
    (case Ut_STANDS => first | rfl | decide +kernel)
    (case KEp => rfl)
    (case KNs => k_is)
    (case KNu => k_is)
    (case We_sides => k_is)
    (case We_unique => k_is)
    (case KC => rfl)
    (case LC => k_is)
    (case VC => rfl)
    (case NC => kernel_rfl)
    (case HC => kernel_rfl)
    (case XQ_InvalidColumn => kernel_rfl)
    (case XQ_InvalidSide => kernel_rfl)
    (case XQ_InvalidKey => kernel_rfl)
    (case XQ_InvalidStep => kernel_rfl)
    (case XQ_InvalidTest => kernel_rfl)
    (case XQ_InvalidText => kernel_rfl)
    (case XQ_TooMany => kernel_rfl)
    (case XQ_NothingLeft => kernel_rfl)
    (case Z0 => k_is)
    (case Z1 => k_is)
    (case Z2 => k_is)
    (case Z3 => k_is)
    (case Z4 => k_is)
    (case Z5 => k_is)
    (case Z6 => k_is)
    (case Z7 => k_is)
    (case Z8 => k_is)
    (case Z9 => k_is)
    (case Z10 => k_is)
    (case Z11 => k_is)
    (case Z12 => k_is)
    (case Z13 => k_is)
    (case Y0 => k_is)
    (case Y1 => k_is)
    (case Y2 => k_is)
    (case Y3 => k_is)
    (case Y4 => k_is)
    (case Y5 => k_is)
    (case Y6 => k_is)
    (case Y7 => k_is)
    (case W_KINDS => k_is)

