import PyProof.Rows.All
import Wide.All
import OpenK.AllK
import Wide.FinOn
import HandS.ForMost
import HandS.Codes
import HandS.IsInst
import HandS.TupAny
import HandS.Style
import HandS.Walk
import HandS.Zip
import HandS.EndBits
import HandS.Dict
import PyProof.CollectIter
import PyProof.WalksMore
import HandS.More
import PySem.Challenge.RW_bothlots_k02_tests_told
set_option Elab.async false
set_option maxRecDepth 100000
set_option maxHeartbeats 4000000
/-! the box of draws, kept apart from all else; data by its shape -/
namespace Bl
open PySem L2
theorem same_new {H : Hp} {p : Addr} (h : H p = none) (o : HO) : Same H (upd H p o) := fun b u q => by
  rw [upd_ne (ne_of_none q h)]
  exact q
theorem Same.tup {K : PySem.W.Frag} {H H' : Hp} {a : Addr} {xs : List V} (e : Same H H') (h : SqT K H a xs) : SqT K H' a xs := by
  rcases h with (h | ⟨o, h⟩) | h
  · exact .inl (.inl (e _ _ h))
  · exact .inl (.inr ⟨o, e _ _ h⟩)
  · exact .inr h
/-- the heap without what stands at p -/
def hide (p : Addr) (H : Hp) : Hp := fun b => if b = p then none else H b
theorem hide_ne {p b : Addr} {H : Hp} (h : b ≠ p) : hide p H b = H b := if_neg h
theorem hide_at {p : Addr} {H : Hp} : hide p H p = none := if_pos rfl
theorem hide_le {p : Addr} {H : Hp} : Same (hide p H) H := fun b o h => by
  by_cases e : b = p
  · subst e
    rw [hide_at] at h
    cases h
  · rw [hide_ne e] at h
    exact h
theorem hide_upd {p : Addr} {H : Hp} {o : HO} : hide p (upd H p o) = hide p H := by
  funext b
  by_cases e : b = p
  · rw [e, hide_at, hide_at]
  · rw [hide_ne e, hide_ne e, upd_ne e]
theorem hide_new {p q : Addr} {H : Hp} {o : HO} (h : q ≠ p) : hide p (upd H q o) = upd (hide p H) q o := by
  funext b
  by_cases e : b = p
  · rw [e, hide_at, upd_ne (Ne.symm h), hide_at]
  · rw [hide_ne e]
    by_cases f : b = q
    · rw [f, upd_same, upd_same]
    · rw [upd_ne f, upd_ne f, hide_ne e]
theorem hide_free {p q : Addr} {H : Hp} (h : H q = none) : hide p H q = none := by
  by_cases e : q = p
  · rw [e, hide_at]
  · rw [hide_ne e]
    exact h
theorem hide_mono {p : Addr} {H H' : Hp} (e : Same H H') : Same (hide p H) (hide p H') := fun b o h => by
  by_cases f : b = p
  · subst f
    rw [hide_at] at h
    cases h
  · rw [hide_ne f] at h ⊢
    exact e b o h
/-- all that was tracked, but what stands at p, is as it was -/
abbrev But (p : Addr) (H H' : Hp) : Prop := Same (hide p H) (hide p H')
theorem But.put {p : Addr} {H H1 : Hp} {o : HO} (a : But p H H1) : But p H (upd H1 p o) := by
  unfold But
  rw [hide_upd]
  exact a
theorem But.of {p : Addr} {H H1 : Hp} (a : Same H H1) : But p H H1 := hide_mono a
theorem But.new {p q : Addr} {H H1 : Hp} (a : But p H H1) (h : H1 q = none) (o : HO) : But p H (upd H1 q o) := Same.trans a (hide_mono (same_new h o))
/-- the law's box of draws -/
def boxL (l : Addr) (i w m c : Int) : List V := [.ref l, .int i, .int w, .int m, .int c]
structure BoxAt (H : Hp) (p l : Addr) : Prop where
  ex : ∃ (ns : List Int) (i w m c : Int), H p = some (.lst (boxL l i w m c)) ∧ hide p H l = some (.lst (ns.map V.int)) ∧ 0 ≤ i ∧ 0 ≤ m ∧ m < 2147483629
theorem BoxAt.mono {H H' : Hp} {p l : Addr} (b : BoxAt H p l) (e : Same H H') : BoxAt H' p l := by
  obtain ⟨ns, i, w, m, c, hp, hl, r⟩ := b
  exact ⟨ns, i, w, m, c, e _ _ hp, hide_mono e _ _ hl, r⟩
theorem BoxAt.new {H : Hp} {p q l : Addr} (b : BoxAt H p l) (h : H q = none) (o : HO) : BoxAt (upd H q o) p l := b.mono (same_new h o)
theorem BoxAt.ne {H : Hp} {p q l : Addr} (b : BoxAt H p l) (h : H q = none) : q ≠ p := by
  obtain ⟨ns, i, w, m, c, hp, _⟩ := b
  exact (ne_of_none hp h).symm
theorem BoxAt.nl {H : Hp} {p q l : Addr} (b : BoxAt H p l) (h : H q = none) : q ≠ l := by
  obtain ⟨ns, i, w, m, c, hp, hl, _⟩ := b
  exact (ne_of_none (hide_le _ _ hl) h).symm
/-- an object that is neither the box nor its cells may change -/
theorem BoxAt.mut {H : Hp} {p q l : Addr} (b : BoxAt H p l) (h : q ≠ p) (h2 : q ≠ l) (o : HO) : BoxAt (upd H q o) p l := by
  obtain ⟨ns, i, w, m, c, hp, hl, r⟩ := b
  exact ⟨ns, i, w, m, c, by rw [upd_ne h.symm]; exact hp, by rw [hide_new h, upd_ne h2.symm]; exact hl, r⟩
/-- an object that was not there may change -/
theorem But.mut {p q : Addr} {H H1 : Hp} (a : But p H H1) (h : H q = none) (o : HO) : But p H (upd H1 q o) := fun b u e => by
  have n1 : b ≠ p := by
    rintro rfl
    rw [hide_at] at e
    cases e
  have e1 := a b u e
  rw [hide_ne n1] at e e1 ⊢
  rw [upd_ne (ne_of_none e h)]
  exact e1
theorem Same.mut {q : Addr} {H H1 : Hp} (a : Same H H1) (h : H q = none) (o : HO) : Same H (upd H1 q o) := fun b u e => by
  rw [upd_ne (ne_of_none e h)]
  exact a b u e
/-- a new object is no box -/
theorem hid_same {p q : Addr} {H : Hp} {o : HO} (h : q ≠ p) : hide p (upd H q o) q = some o := by
  rw [hide_ne h, upd_same]

/-! what the draws promise -/
def spPull (K : PySem.W.Frag) : Sp := fun vs H Q _ => ∃ (p l : Addr) (n : Int), vs = [.ref p, .int n] ∧ BoxAt H p l ∧ 0 < n ∧ n < 1073741824 ∧
  ∀ (d : Int) (H' : Hp), 0 ≤ d → d < n → BoxAt H' p l → But p H H' → Q (.int d) H'
def spBox (K : PySem.W.Frag) : Sp := fun vs H Q _ => ∃ (a : Addr) (ns : List Int), vs = [.ref a] ∧ SqL K H a (ns.map V.int) ∧ ns.length ≤ 63 ∧
  ∀ (p l : Addr) (H' : Hp), H p = none → BoxAt H' p l → Same H H' → Q (.ref p) H'
/-- an item of a list, of a tuple, of a text -/
def spOf (K : PySem.W.Frag) : Sp := fun vs H Q _ => ∃ (p l : Addr) (v : V), vs = [.ref p, v] ∧ BoxAt H p l ∧
  ((∃ a xs, v = .ref a ∧ (SqL K (hide p H) a xs ∨ SqT K (hide p H) a xs) ∧ 0 < xs.length ∧ xs.length < 1000000 ∧ ∀ (i : Nat) (x : V) (H' : Hp), xs[i]? = some x → BoxAt H' p l → But p H H' → Q x H') ∨
    ∃ z : Str, v = .str z ∧ 0 < z.length ∧ z.length < 1000000 ∧ ∀ (c : Nat) (H' : Hp), c ∈ z.cps.toList → BoxAt H' p l → But p H H' → Q (.str ⟨#[c]⟩) H')

/-! small things -/
theorem atI_int {ns : List Int} {i : Int} (h0 : 0 ≤ i) (h : i < ns.length) : ∃ v : Int, atI (ns.map V.int) i = some (.int v) := by
  obtain ⟨n, rfl⟩ := Int.eq_ofNat_of_zero_le h0
  have hk : n < ns.length := by omega
  exact ⟨ns[n], atI_nat (by rw [List.getElem?_map, List.getElem?_eq_getElem hk] <;> rfl)⟩
theorem atI_some {xs : List V} {i : Int} (h0 : 0 ≤ i) (h : i < xs.length) : ∃ (n : Nat) (v : V), xs[n]? = some v ∧ atI xs i = some v := by
  obtain ⟨n, rfl⟩ := Int.eq_ofNat_of_zero_le h0
  have hk : n < xs.length := by omega
  exact ⟨n, xs[n], List.getElem?_eq_getElem hk, atI_nat (List.getElem?_eq_getElem hk)⟩
theorem mod_lt' {a b : Int} (h : 0 < b) : 0 ≤ a % b ∧ a % b < b := ⟨Int.emod_nonneg a (by omega), Int.emod_lt_of_pos a h⟩
theorem small {n : Nat} (h : n ≤ 1000000) : n ≤ sizeLine := Nat.le_trans h (by decide)
theorem small' {n : Nat} (h : n < 1000000) : n < sizeLine := Nat.lt_of_lt_of_le h (by decide)
theorem cutV_63 {ns : List Int} (h : ns.length ≤ 63) : cutV (ns.map V.int) none (some 63) = ns.map V.int := by
  unfold cutV
  rw [HT.sIx_none, show ((some 63 : Option Int)) = some ((63 : Nat) : Int) from rfl, HT.sIx_nat, List.length_map, List.drop_zero, List.take_of_length_le (by rw [List.length_map]; omega)]

/-! data -/
mutual
theorem Dp.mono {K : PySem.W.Frag} {H H' : Hp} (e : Same H H') : ∀ (d : PyData) (v : V), Dp K H v d → Dp K H' v d
  | .none, _, h => by cases h; exact .non
  | .bool _, _, h => by cases h; exact .bl _
  | .int _, _, h => by cases h; exact .int _
  | .str _, _, h => by cases h; exact .str _
  | .list ds, _, h => by
    cases h with
    | lst hs ha => exact .lst (e.seq hs) (DpAll.mono e ds _ ha)
  | .tuple ds, _, h => by
    cases h with
    | tup hs ha => exact .tup (Same.tup e hs) (DpAll.mono e ds _ ha)
  | .dict _, _, h => by cases h
theorem DpAll.mono {K : PySem.W.Frag} {H H' : Hp} (e : Same H H') : ∀ (ds : List PyData) (vs : List V), DpAll K H vs ds → DpAll K H' vs ds
  | [], _, h => by cases h; exact .nil
  | d :: ds, _, h => by
    cases h with
    | cons h1 h2 => exact .cons (Dp.mono e d _ h1) (DpAll.mono e ds _ h2)
end
theorem DpAll.len {K : PySem.W.Frag} {H : Hp} : ∀ {ds : List PyData} {vs : List V}, DpAll K H vs ds → vs.length = ds.length
  | [], _, h => by cases h; rfl
  | _ :: _, _, h => by
    cases h with
    | cons _ h2 => rw [List.length_cons, List.length_cons, DpAll.len h2]
theorem DpAll.get {K : PySem.W.Frag} {H : Hp} : ∀ {ds : List PyData} {vs : List V} {i : Nat} {v : V}, DpAll K H vs ds → vs[i]? = some v → ∃ d, ds[i]? = some d ∧ Dp K H v d
  | [], _, _, _, h, e => by cases h; simp at e
  | d :: ds, _, 0, v, h, e => by
    cases h with
    | cons h1 h2 =>
      simp at e
      subst e
      exact ⟨d, rfl, h1⟩
  | d :: ds, _, i + 1, v, h, e => by
    cases h with
    | cons h1 h2 => exact DpAll.get (i := i) h2 (by simpa using e)
theorem DpAll.app {K : PySem.W.Frag} {H : Hp} : ∀ {ds es : List PyData} {vs us : List V}, DpAll K H vs ds → DpAll K H us es → DpAll K H (vs ++ us) (ds ++ es)
  | [], _, _, _, h, k => by cases h; exact k
  | _ :: _, _, _, _, h, k => by
    cases h with
    | cons h1 h2 => exact .cons h1 (DpAll.app h2 k)
theorem tyL {K : PySem.W.Frag} {H : Hp} {a : Addr} {xs : List V} (h : SqL K H a xs) : TyX K H (.ref a) (.type "list") := by
  rcases h with (h | ⟨o, h⟩) | ⟨o, _, _, h, hc, _⟩
  · exact .base (.lst h)
  · exact .base (.frz h)
  · exact .kList h hc
theorem tyT {K : PySem.W.Frag} {H : Hp} {a : Addr} {xs : List V} (h : SqT K H a xs) : TyX K H (.ref a) (.type "tuple") := by
  rcases h with (h | ⟨o, h⟩) | ⟨o, _, _, h, hc, _⟩
  · exact .base (.tup h)
  · exact .fTuple h
  · exact .kTuple h hc
/-- the built-in type's name -/
def tyN : PyData → String
  | .none => "NoneType"
  | .bool _ => "bool"
  | .int _ => "int"
  | .str _ => "str"
  | .list _ => "list"
  | .tuple _ => "tuple"
  | .dict _ => "dict"
theorem Dp.ty {K : PySem.W.Frag} {H : Hp} : ∀ {d : PyData} {v : V}, Dp K H v d → TyX K H v (.type (tyN d))
  | .none, _, h => by cases h; exact .base .non
  | .bool _, _, h => by cases h; exact .base (.bl _)
  | .int _, _, h => by cases h; exact .base (.int _)
  | .str _, _, h => by cases h; exact .base (.str _)
  | .list ds, _, h => by
    cases h with
    | lst hs _ => exact tyL hs
  | .tuple ds, _, h => by
    cases h with
    | tup hs _ => exact tyT hs
  | .dict _, _, h => by cases h
def isD (T : String) (d : PyData) : Bool := (kitB (tyN d) T).getD false
theorem kit_d {K : PySem.W.Frag} {T : String} {d : PyData} (h : ∀ d : PyData, (kitB (tyN d) T).isSome = true) : PySem.W.kitOne K (.type (tyN d)) (.type T) = some (isD T d) := by
  refine kit_ty ?_
  have := h d
  unfold isD
  cases e : kitB (tyN d) T with
  | none => rw [e] at this; cases this
  | some b => rfl
theorem some_str (d : PyData) : (kitB (tyN d) "str").isSome = true := by cases d <;> (dsimp only [tyN]; decide +kernel)
theorem some_int (d : PyData) : (kitB (tyN d) "int").isSome = true := by cases d <;> (dsimp only [tyN]; decide +kernel)
theorem some_bool (d : PyData) : (kitB (tyN d) "bool").isSome = true := by cases d <;> (dsimp only [tyN]; decide +kernel)
theorem some_list (d : PyData) : (kitB (tyN d) "list").isSome = true := by cases d <;> (dsimp only [tyN]; decide +kernel)
theorem some_tuple (d : PyData) : (kitB (tyN d) "tuple").isSome = true := by cases d <;> (dsimp only [tyN]; decide +kernel)
theorem isStr_eq (d : PyData) : isD "str" d = (match d with | .str _ => true | _ => false) := by cases d <;> (dsimp only [isD, tyN]; decide +kernel)
theorem isInt_eq (d : PyData) : isD "int" d = (match d with | .int _ => true | .bool _ => true | _ => false) := by cases d <;> (dsimp only [isD, tyN]; decide +kernel)
theorem isBool_eq (d : PyData) : isD "bool" d = (match d with | .bool _ => true | _ => false) := by cases d <;> (dsimp only [isD, tyN]; decide +kernel)
theorem isList_eq (d : PyData) : isD "list" d = (match d with | .list _ => true | _ => false) := by cases d <;> (dsimp only [isD, tyN]; decide +kernel)
theorem isTuple_eq (d : PyData) : isD "tuple" d = (match d with | .tuple _ => true | _ => false) := by cases d <;> (dsimp only [isD, tyN]; decide +kernel)
/-- nested less than n deep, without dicts -/
def Fits : Nat → PyData → Prop
  | 0, _ => False
  | _ + 1, .none => True
  | _ + 1, .bool _ => True
  | _ + 1, .int _ => True
  | _ + 1, .str _ => True
  | n + 1, .list ds => ds.length < 1000000 ∧ ∀ d ∈ ds, Fits n d
  | n + 1, .tuple ds => ds.length < 1000000 ∧ ∀ d ∈ ds, Fits n d
  | _ + 1, .dict _ => False
/-- names -/
def alpha : List Nat := [97, 98, 99, 100, 101, 102, 103, 104, 105, 106, 107, 108, 109, 110, 111, 112, 113, 114, 115, 116, 117, 118, 119, 120, 121, 122]
def nameB (z : Str) : Bool := decide (1 ≤ z.length) && decide (z.length ≤ 6) && z.cps.toList.all (fun c => decide (c ∈ alpha))
def nameD : PyData → Bool
  | .str z => nameB z
  | _ => false
theorem alpha_eq : ("abcdefghijklmnopqrstuvwxyz" : Str).cps.toList = alpha := by decide +kernel
/-- what two same data are told -/
def spSame (K : PySem.W.Frag) (n : Nat) : Sp := fun vs H Q _ => ∃ (x y : V) (d : PyData), vs = [x, y] ∧ Dp K H x d ∧ Dp K H y d ∧ Fits n d ∧ ∀ H', Same H H' → Q (.bl true) H'
def spIsName (K : PySem.W.Frag) : Sp := fun vs H Q _ => ∃ (v : V) (d : PyData), vs = [v] ∧ Dp K H v d ∧ (∀ z, d = .str z → z.length ≤ 100000) ∧ ∀ H', Same H H' → Q (.bl (nameD d)) H'
def numD (lo hi : Int) : PyData → Bool
  | .int i => decide (lo ≤ i) && decide (i ≤ hi)
  | _ => false
def spIsNumber (K : PySem.W.Frag) : Sp := fun vs H Q _ => ∃ (v : V) (d : PyData) (lo hi : Int), vs = [v, .int lo, .int hi] ∧ Dp K H v d ∧ ∀ H', Same H H' → Q (.bl (numD lo hi d)) H'
/-- the odd values of the laws -/
def odds : List PyData := [.none, .bool true, .bool false, .str "", .str "A", .str "a1", .str "sevenst", .int (-1), .int 7, .tuple [.int 1, .str "a"], .list [.int 1], .tuple [], .int (10 ^ 14)]
def spOdd (K : PySem.W.Frag) : Sp := fun vs H Q _ => ∃ (p l q : Addr) (ys : List V) (ds : List PyData), vs = [.ref p, .ref q] ∧ BoxAt H p l ∧ H q = some (.lst ys) ∧ q ≠ p ∧ DpAll K (hide p H) ys ds ∧ ds.length ≤ 100 ∧
  ∀ (v : V) (d : PyData) (H' : Hp), d ∈ odds ++ ds → Dp K (hide p H') v d → BoxAt H' p l → But p H H' → Q v H'
end Bl

/-! names drawn: the words, as lists of code points -/
namespace Bl
open PySem L2
open SX (S)
def own : List Nat := [111, 119, 110]
def name4 : List Nat := [110, 97, 109, 101]
def tick4 : List Nat := [116, 105, 99, 107]
def worth5 : List Nat := [119, 111, 114, 116, 104]
theorem own_eq : ("own" : Str) = S own := by decide +kernel
theorem name4_eq : ("name" : Str) = S name4 := by decide +kernel
theorem tick4_eq : ("tick" : Str) = S tick4 := by decide +kernel
theorem worth5_eq : ("worth" : Str) = S worth5 := by decide +kernel
structure NameL (z : List Nat) : Prop where
  pos : 1 ≤ z.length
  six : z.length ≤ 6
  low : ∀ c ∈ z, c ∈ alpha
  no : z ≠ own ∧ z ≠ name4 ∧ z ≠ tick4 ∧ z ≠ worth5
theorem NameL.nameB {z : List Nat} (h : NameL z) : nameB (S z) = true := by
  unfold Bl.nameB
  rw [SX.S_len, decide_eq_true h.pos, decide_eq_true h.six, Bool.true_and, Bool.true_and, List.all_eq_true]
  intro c hc
  exact decide_eq_true (h.low c (by simpa [S] using hc))
theorem cut_pre {a : List Nat} {k : Nat} (h : k ≤ a.length) : cutS (S a) none (some (k : Int)) = S (a.take k) := by
  unfold cutS
  rw [HT.sIx_none, HT.sIx_nat, SX.S_len, List.drop_zero, Nat.sub_zero, Nat.min_eq_left h]
theorem cut_suf {a : List Nat} {k : Nat} (h : k ≤ a.length) : cutS (S a) (some (k : Int)) none = S (a.drop k) := by
  unfold cutS
  rw [HT.sIx_none, HT.sIx_nat, SX.S_len, Nat.min_eq_left h]
  have e : ((S a).cps.toList.drop k).take (a.length - k) = a.drop k := by
    show (a.toArray.toList.drop k).take (a.length - k) = a.drop k
    rw [List.toList_toArray, List.take_of_length_le (by rw [List.length_drop]; exact Nat.le_refl _)]
  rw [e]
theorem cutV_pre {xs : List V} {k : Nat} : cutV xs none (some (k : Int)) = xs.take k := by
  unfold cutV
  rw [HT.sIx_none, HT.sIx_nat, List.drop_zero, Nat.sub_zero]
  by_cases h : k ≤ xs.length
  · rw [Nat.min_eq_left h]
  · rw [Nat.min_eq_right (by omega), List.take_of_length_le (Nat.le_refl _), List.take_of_length_le (by omega)]
theorem alpha_len : alpha.length = 26 := rfl
theorem alpha_nd : alpha.Nodup := by decide
theorem str_ascii : ("abcdefghijklmnopqrstuvwxyz" : Str) = S alpha := by decide +kernel
/-- the k-th word -/
def wd (st : List Nat) (sp f k : Nat) : List Nat := st.take sp ++ alpha.getD ((f + 7 * k) % 26) 0 :: st.drop sp
theorem wd_len {st : List Nat} {sp f k : Nat} : (wd st sp f k).length = st.length + 1 := by
  unfold wd
  rw [List.length_append, List.length_cons, List.length_take, List.length_drop]
  omega
theorem alpha_at (i : Nat) (h : i < 26) : alpha[i]? = some (alpha.getD i 0) := by
  have h2 : i < alpha.length := h
  rw [List.getD_eq_getElem?_getD, List.getElem?_eq_getElem h2]
  rfl
theorem alpha_mem (i : Nat) (h : i < 26) : alpha.getD i 0 ∈ alpha := List.mem_of_getElem? (alpha_at i h)
theorem wd_low {st : List Nat} {sp f k : Nat} (hs : ∀ c ∈ st, c ∈ alpha) : ∀ c ∈ wd st sp f k, c ∈ alpha := by
  intro c hc
  unfold wd at hc
  rcases List.mem_append.mp hc with h | h
  · exact hs c (List.mem_of_mem_take h)
  · rcases List.mem_cons.mp h with h | h
    · rw [h]
      exact alpha_mem _ (Nat.mod_lt _ (by decide))
    · exact hs c (List.mem_of_mem_drop h)
theorem wd_inj {st : List Nat} {sp f k j : Nat} (hk : k < 8) (hj : j < 8) (e : wd st sp f k = wd st sp f j) : k = j := by
  unfold wd at e
  have e1 := List.append_cancel_left e
  have e2 : alpha.getD ((f + 7 * k) % 26) 0 = alpha.getD ((f + 7 * j) % 26) 0 := (List.cons.inj e1).1
  have h1 : (f + 7 * k) % 26 < 26 := Nat.mod_lt _ (by decide)
  have h2 : (f + 7 * j) % 26 < 26 := Nat.mod_lt _ (by decide)
  have e3 : alpha[(f + 7 * k) % 26]? = alpha[(f + 7 * j) % 26]? := by rw [alpha_at _ h1, alpha_at _ h2, e2]
  have e4 : (f + 7 * k) % 26 = (f + 7 * j) % 26 := (List.getElem?_inj (by show _ < 26; exact h1) alpha_nd).mp e3
  omega
theorem nd_map {α : Type} {g : Nat → α} : ∀ n : Nat, (∀ i j, i < n → j < n → g i = g j → i = j) → ((List.range n).map g).Nodup := by
  intro n h
  rw [List.Nodup, List.pairwise_map]
  refine List.Pairwise.imp_of_mem ?_ (List.nodup_range (n := n))
  intro a b ha hb hab e
  exact hab (h a b (List.mem_range.mp ha) (List.mem_range.mp hb) e)
theorem one_out {α : Type} [DecidableEq α] (o : α) : ∀ {l : List α}, l.Nodup → l.length ≤ (l.filter fun z => decide (z ≠ o)).length + 1
  | [], _ => Nat.zero_le _
  | z :: l, h => by
    have h2 := List.nodup_cons.mp h
    by_cases e : z = o
    · subst e
      have e2 : (l.filter fun y => decide (y ≠ z)) = l := List.filter_eq_self.mpr fun y hy => decide_eq_true (by rintro rfl; exact h2.1 hy)
      rw [List.filter_cons_of_neg (by simp), e2, List.length_cons]
      exact Nat.le_refl _
    · rw [List.filter_cons_of_pos (by simpa using e), List.length_cons, List.length_cons]
      have := one_out o h2.2
      omega
/-- the list of the forbidden words, as the law writes it -/
def bads : List V := [.str "own", .str "name", .str "tick", .str "worth"]
theorem inV_bads (z : List Nat) : inV (.str (S z)) bads = decide (z = own ∨ z = name4 ∨ z = tick4 ∨ z = worth5) := by
  have h : ∀ (o : List Nat), eqV (.str (S o)) (.str (S z)) = decide (z = o) := fun o => by
    show (S o == S z) = decide (z = o)
    rw [SX.S_beq_eq]
    by_cases e : o = z
    · rw [decide_eq_true e, decide_eq_true e.symm]
    · rw [decide_eq_false e, decide_eq_false (Ne.symm e)]
  show (eqV (.str "own") (.str (S z)) || (eqV (.str "name") (.str (S z)) || (eqV (.str "tick") (.str (S z)) || (eqV (.str "worth") (.str (S z)) || false)))) = _
  rw [own_eq, name4_eq, tick4_eq, worth5_eq, h, h, h, h, Bool.or_false, Bool.decide_or, Bool.decide_or, Bool.decide_or]
def keepB (z : List Nat) : Bool := !decide (z = own ∨ z = name4 ∨ z = tick4 ∨ z = worth5)
theorem keep_own {z : List Nat} (h : z.length = 1 ∨ z.length = 2 ∨ z.length = 3 ∨ z.length = 6) : keepB z = decide (z ≠ own) := by
  unfold keepB
  have h1 : z ≠ name4 := by rintro rfl; revert h; decide
  have h2 : z ≠ tick4 := by rintro rfl; revert h; decide
  have h3 : z ≠ worth5 := by rintro rfl; revert h; decide
  simp [h1, h2, h3]
/-- the words drawn, those let, the first n of them -/
def wds (st : List Nat) (sp f n : Nat) : List (List Nat) := (List.range n).map (wd st sp f)
theorem wds_names {st : List Nat} {sp f n : Nat} (hn : n ≤ 5) (hs : ∀ c ∈ st, c ∈ alpha) (hl : st.length = 0 ∨ st.length = 1 ∨ st.length = 2 ∨ st.length = 5) :
    (((wds st sp f (n + 2)).filter keepB).take n).length = n ∧ (∀ z ∈ ((wds st sp f (n + 2)).filter keepB).take n, NameL z) ∧ (((wds st sp f (n + 2)).filter keepB).take n).Nodup ∧
      (∀ z ∈ ((wds st sp f (n + 2)).filter keepB).take n, z.length = st.length + 1) := by
  have hlen : ∀ z ∈ wds st sp f (n + 2), z.length = st.length + 1 := fun z hz => by
    obtain ⟨k, _, rfl⟩ := List.mem_map.mp hz
    exact wd_len
  have nd : (wds st sp f (n + 2)).Nodup := nd_map _ fun i j hi hj e => wd_inj (by omega) (by omega) e
  have ef : (wds st sp f (n + 2)).filter keepB = (wds st sp f (n + 2)).filter fun z => decide (z ≠ own) :=
    List.filter_congr fun z hz => keep_own (by rw [hlen z hz]; omega)
  have h1 := one_out own nd
  have h2 : (wds st sp f (n + 2)).length = n + 2 := by unfold wds; rw [List.length_map, List.length_range]
  have mem : ∀ z ∈ ((wds st sp f (n + 2)).filter keepB).take n, z ∈ wds st sp f (n + 2) ∧ keepB z = true := fun z hz => List.mem_filter.mp (List.mem_of_mem_take hz)
  refine ⟨?_, fun z hz => ?_, (nd.sublist List.filter_sublist).sublist (List.take_sublist _ _), fun z hz => hlen z (mem z hz).1⟩
  · rw [List.length_take, ef]
    omega
  · obtain ⟨hm, hk⟩ := mem z hz
    have hlz := hlen z hm
    obtain ⟨k, _, rfl⟩ := List.mem_map.mp hm
    refine ⟨by omega, by omega, wd_low hs, ?_⟩
    unfold keepB at hk
    simpa using hk
theorem joinL_one : ∀ cs : List Nat, TL.joinL [] (cs.map fun c => [c]) = cs
  | [] => rfl
  | [c] => rfl
  | c :: d :: r => by
    show [c] ++ ([] ++ TL.joinL [] ((d :: r).map fun c => [c])) = c :: d :: r
    rw [joinL_one (d :: r)]
    rfl
theorem join_one (cs : List Nat) : Txt.join ("" : Str) (cs.map fun c => S [c]) = S cs := by
  have e : (cs.map fun c => S [c]) = (cs.map fun c => [c]).map S := by rw [List.map_map]; rfl
  rw [e, show ("" : Str) = S [] by decide +kernel, SX.join_S, joinL_one]
def nameV (z : List Nat) : V := .str (S z)
/-- n names -/
def spNames (K : PySem.W.Frag) : Sp := fun vs H Q _ => ∃ (p l : Addr) (n : Nat), vs = [.ref p, .int (n : Int)] ∧ BoxAt H p l ∧ 1 ≤ n ∧ n ≤ 5 ∧
  ∀ (q : Addr) (zs : List (List Nat)) (H' : Hp), zs.length = n → (∀ z ∈ zs, NameL z) → zs.Nodup → (∃ m, ∀ z ∈ zs, z.length = m) → hide p H q = none → q ≠ p → H' q = some (.lst (zs.map nameV)) → BoxAt H' p l → But p H H' → Q (.ref q) H'
end Bl

/-! tests of rows: their shape, what they say of a row -/
namespace Bl
open PySem L2
open SX (S)
inductive Tst where
  | is (c t : List Nat) | has (s : List Nat) | neg (a : Tst) | two (o : Bool) (a b : Tst)
def Tst.deep : Tst → Nat
  | .is _ _ => 1
  | .has _ => 1
  | .neg a => a.deep + 1
  | .two _ a b => max a.deep b.deep + 1
def twoS (o : Bool) : Str := if o then "and" else "or"
def Tst.toD : Tst → PyData
  | .is c t => .tuple [.str "is", .str (S c), .str (S t)]
  | .has s => .tuple [.str "has", .str (S s)]
  | .neg a => .tuple [.str "not", a.toD]
  | .two o a b => .tuple [.str (twoS o), a.toD, b.toD]
/-- made of these columns, this tag, this side -/
def Tst.over (cs : List (List Nat)) (t s : List Nat) : Tst → Prop
  | .is c u => c ∈ cs ∧ u = t
  | .has r => r = s
  | .neg a => a.over cs t s
  | .two _ a b => a.over cs t s ∧ b.over cs t s
theorem Tst.deep_pos : ∀ t : Tst, 1 ≤ t.deep
  | .is _ _ => Nat.le_refl 1
  | .has _ => Nat.le_refl 1
  | .neg _ => Nat.succ_le_succ (Nat.zero_le _)
  | .two _ _ _ => Nat.succ_le_succ (Nat.zero_le _)
def rowV (kvs : List (Key × V)) (k : List Nat) : V := (valV kvs (Sum.inr (S k))).getD .non
def holdB (kvs : List (Key × V)) : Tst → Bool
  | .is c t => decide (rowV kvs c = .str (S t))
  | .has s => decide (rowV kvs s = .bl true)
  | .neg a => !holdB kvs a
  | .two o a b => if o then holdB kvs a && holdB kvs b else holdB kvs a || holdB kvs b
/-- what is asked of the row: columns hold texts or nothing, sides bools or nothing -/
def RowOk (kvs : List (Key × V)) : Tst → Prop
  | .is c _ => rowV kvs c = .non ∨ (∃ b, rowV kvs c = .bl b) ∨ ∃ z, rowV kvs c = .str z
  | .has s => valV kvs (Sum.inr (S s)) = none ∨ ∃ b, valV kvs (Sum.inr (S s)) = some (.bl b)
  | .neg a => RowOk kvs a
  | .two _ a b => RowOk kvs a ∧ RowOk kvs b
theorem iteFk {b : Bool} {A B : Prop} (hb : b = false) (h : B) : if b = true then A else B := by
  rw [hb, if_neg Bool.false_ne_true]
  exact h
theorem iteTk {b : Bool} {A B : Prop} (hb : b = true) (h : A) : if b = true then A else B := by
  rw [hb, if_pos rfl]
  exact h
/-- a tuple's items by their shape -/
theorem Dp.tup2 {K : PySem.W.Frag} {H : Hp} {v : V} {d e : PyData} (h : Dp K H v (.tuple [d, e])) : ∃ a x y, v = .ref a ∧ SqT K H a [x, y] ∧ Dp K H x d ∧ Dp K H y e := by
  cases h with
  | tup hs ha =>
    cases ha with
    | cons h1 h2 =>
      cases h2 with
      | cons h3 h4 =>
        cases h4
        exact ⟨_, _, _, rfl, hs, h1, h3⟩
theorem Dp.tup3 {K : PySem.W.Frag} {H : Hp} {v : V} {d e f : PyData} (h : Dp K H v (.tuple [d, e, f])) : ∃ a x y z, v = .ref a ∧ SqT K H a [x, y, z] ∧ Dp K H x d ∧ Dp K H y e ∧ Dp K H z f := by
  cases h with
  | tup hs ha =>
    cases ha with
    | cons h1 h2 =>
      cases h2 with
      | cons h3 h4 =>
        cases h4 with
        | cons h5 h6 =>
          cases h6
          exact ⟨_, _, _, _, rfl, hs, h1, h3, h5⟩
theorem Dp.str1 {K : PySem.W.Frag} {H : Hp} {v : V} {z : Str} (h : Dp K H v (.str z)) : v = .str z := by
  cases h
  rfl
/-- is True, of a bool or None -/
def rIsNB : R2 := fun x y H Q => ∃ b : Bool, y = .bl b ∧ (x = .non ∧ Q (.bl false) H ∨ ∃ a, x = .bl a ∧ Q (.bl (decide (a = b))) H)
theorem op_isNB {X : Cx} : OpR X (compareOp .Is) rIsNB := by
  intro pins s σ H x y v u Q I rx ry h
  obtain ⟨b, rfl, ⟨rfl, q⟩ | ⟨a, rfl, q⟩⟩ := h
  · cases (show v = Value.none from rx)
    cases (show u = Value.bool b from ry)
    exact PySem.wpAny_is_other rfl (fun z => nomatch z) ⟨.bl false, H, I, rfl, q⟩
  · exact op_isBl pins s σ H _ _ v u Q I rx ry ⟨a, b, rfl, rfl, q⟩
def spHolds (K : PySem.W.Frag) (n : Nat) : Sp := fun vs H Q _ => ∃ (v : V) (t : Tst) (d : Addr) (kvs : List (Key × V)), vs = [v, .ref d] ∧ Dp K H v t.toD ∧ H d = some (.dK kvs) ∧ t.deep ≤ n ∧ RowOk kvs t ∧
  ∀ H', Same H H' → Q (.bl (holdB kvs t)) H'
def spFree (K : PySem.W.Frag) (n : Nat) : Sp := fun vs H Q _ => ∃ (p l q : Addr) (w0 w1 w2 w3 w4 : List Nat) (d : Nat), vs = [.ref p, .ref q, .int (d : Int)] ∧ BoxAt H p l ∧ hide p H q = some (.lst [nameV w0, nameV w1, nameV w2, nameV w3, nameV w4]) ∧
  w0.length ≤ 1000 ∧ w2.length ≤ 1000 ∧ 1 ≤ d ∧ d ≤ n ∧ ∀ (v : V) (t : Tst) (H' : Hp), t.deep = d → t.over [w0, w1, w2 ++ 46 :: w0] w3 w4 → Dp K (hide p H') v t.toD → BoxAt H' p l → But p H H' → Q v H'
end Bl

/-! my own rule: a, *b = a tuple -/
namespace Bl
open PySem L2 PyProof.Rows
theorem iter_tupiter {prog : Program} {w : World} {A : Around} {E : Value → Shared → Prop} {s : Shared} {it t : Addr} {i : Nat} {Q : Value → Shared → Prop} (hit : IsTupIter s.heap it t i) (h : Q (.ref it) s) : wpAny (model prog w) A (pyIter (.ref it)) Q E s := by
  refine wpAny_pyIter_slot hit.typeIs F.slot_tuple_iterator_iter (wpAny_call_entry F.slot_tuple_iterator_iter hit.typeIs F.entry_tuple_iterator_iter ?_ (F.args_tuple_iterator_iter_1 _))
  show wpAny _ _ (ret (.ref it)) _ _ s
  exact wpAny_pure ⟨_, rfl, "tuple_iterator", _, hit.typeIs, F.slot_tuple_iterator_next.lookup, h⟩
theorem tup_at {h h' : Heap} {a : Addr} {items : Array Value} (x : IsTup h a items) (e : ∀ o, h.get? a = some o → h'.get? a = some o) : IsTup h' a items := let ⟨o, ho, r⟩ := x; ⟨o, e _ ho, r⟩
theorem tupiter_at {h h' : Heap} {a t : Addr} {i : Nat} (x : IsTupIter h a t i) (e : ∀ o, h.get? a = some o → h'.get? a = some o) : IsTupIter h' a t i := let ⟨o, ho, r⟩ := x; ⟨o, e _ ho, r⟩
theorem walks_from1 {prog : Program} {w : World} {A : Around} (hh : A.handled = none) (I ax : Addr) (hne : ax ≠ I) (items : Array Value) (h1 : 1 ≤ items.size) :
    Walks prog w A I [I, ax] [I] (items.size - 1) (fun i v => items[i + 1]? = some v) (fun i h => IsTupIter h I ax (i + 1) ∧ IsTup h ax items) where
  sub := fun b hb => by simp at hb; simp [hb]
  frame := fun _ _ _ st hk => ⟨tupiter_at st.1 fun o e => hk I (by simp) o e, tup_at st.2 fun o e => hk ax (by simp) o e⟩
  item := fun i s Q E hi st hQ => by
    have hlt : i + 1 < items.size := by omega
    refine next_tuple_item st.1 st.2 (x := items[i + 1]) (by simp [hlt]) fun h' hit' hs' => ?_
    exact hQ _ h' s.toks (by simp [hlt]) ⟨hit', st.2.extBut hs'.extBut hne⟩ fun b o hb e => hs'.extBut b o (fun h => hb (by simp [h])) e
  done := fun s Q E st hQ => next_tuple_end hh st.1 st.2 (by rw [show items.size - 1 + 1 = items.size by omega]; simp) fun h' he' => hQ h' s.toks fun b o hb e => he' b o (fun h => hb (by simp [h])) e
  self := fun _ _ _ _ st hQ => iter_tupiter st.1 hQ
theorem items_tail {items : Array Value} {acc : Array Value} (h1 : 1 ≤ items.size) (h : ItemsOf (fun i v => items[i + 1]? = some v) acc (items.size - 1)) : acc.toList = items.toList.drop 1 := by
  obtain ⟨hs, hv⟩ := h
  apply List.ext_getElem?
  intro j
  rw [List.getElem?_drop, Array.getElem?_toList, Array.getElem?_toList, Nat.add_comm]
  by_cases hj : j < acc.size
  · have e : acc[j]? = some acc[j] := by simp [hj]
    rw [e]
    exact (hv j _ e).symm
  · rw [Array.getElem?_eq_none (by omega), Array.getElem?_eq_none (by omega)]
/-- what is asked: the tuple has a first item; a new list of the others -/
def gStar1 (K : PySem.W.Frag) (t u : TG) : TG := fun v σ H Q => ∃ a x xs, v = .ref a ∧ SqT K H a (x :: xs) ∧ ∀ p, H p = none → t x σ (upd H p (.lst xs)) fun σ1 H1 => u (.ref p) σ1 H1 Q
theorem pg_star1 {X : Cx} {e1 e2 : Expr} {k : Nat} {pos q : Pos} {t u : TG} (hc : X.calm = true) (h1 : PG X e1 t) (h2 : PG X e2 u)
    (hn : assignEach [e1, .Starred e2 q] X.env = [(false, assign e1 X.env), (true, assign e2 X.env)] := by rfl) : PG X (.Tuple [e1, .Starred e2 q] k pos) (gStar1 X.K t u) := by
  refine ⟨fun pins s σ H v w Q I r hw => ?_⟩
  obtain ⟨a, x, xs, rfl, hs, hw⟩ := hw
  obtain rfl : w = Value.ref a := r
  obtain ⟨its, rv, ht, hz⟩ := I.tuple hs
  obtain ⟨y, ys, rfl, rx, rxs⟩ : ∃ y ys, its = y :: ys ∧ RelV x y ∧ Vals xs ys := by
    cases rv with
    | cons p q => exact ⟨_, _, rfl, p, q⟩
  have hh := I.ok.hd hc
  have hlt : a ≠ s.heap.objs.size := by obtain ⟨o, ho, _⟩ := ht; exact Nat.ne_of_lt (Heap.lt_size ho)
  rw [assign_Tuple, hn]
  refine wpAny_bind (wpAny_standAt ?_)
  unfold unpack
  refine wpAny_bind (wpAny_holding ?_)
  show wpAny _ _ (unpackItems (.ref a) 2 (some 1)) _ _ s
  unfold unpackItems
  refine wpAny_bind ?_
  unfold notIterableAtAll
  refine wpAny_bind (wpAny_specialOf ht.typeIs slot_tuple_iter.lookup ?_)
  refine wpAny_pure ?_
  simp only [Bool.false_eq_true, if_false]
  refine wpAny_bind (wpAny_holding (iter_tuple ht ?_))
  refine wpAny_bind (wpAny_holding (draw_tuple hlt 1 0 _ _ ⟨_, Heap.get?_push_size _ rfl, rfl, rfl⟩ (ht.push _) (by simp) fun h₁ hit₁ hs₁ => ?_))
  have hfirst : List.take 1 (List.drop 0 (y :: ys).toArray.toList) = [y] := by simp
  rw [hfirst]
  rw [if_neg (by simp)]
  have hk₁ : ∀ b o, b ≠ s.heap.objs.size → s.heap.get? b = some o → h₁.get? b = some o := fun b o hb e => hs₁.extBut b o hb (Heap.get?_push_of_some _ e)
  have ht₁ : IsTup h₁ a (y :: ys).toArray := (ht.push _).extBut hs₁.extBut hlt
  have hsz₁ : s.heap.objs.size < h₁.objs.size := by
    obtain ⟨o, ho, _⟩ := hit₁
    exact Heap.lt_size ho
  have hax₁ : a < h₁.objs.size := by
    obtain ⟨o, ho, _⟩ := ht₁
    exact Heap.lt_size ho
  have hysl : ys.length ≤ sizeLine := by
    have h3 := rxs.length
    have h4 : (x :: xs).length ≤ sizeLine := hz
    rw [List.length_cons] at h4
    omega
  refine wpAny_bind (wpAny_holding (wpAny_collect_iter (T := "tuple_iterator") (.inr (.inr (.inr rfl))) (Walks.toS (walks_from1 (A := X.A.in1) hh s.heap.objs.size a hlt (y :: ys).toArray (by simp)))
    (fun i s' st => st.1.typeIs) ⟨hit₁, ht₁⟩ (fun b hb => ?_) (by simp) (fun s' acc hm hacc => ?_) (by simpa using hysl)))
  · simp at hb
    rcases hb with rfl | rfl
    · exact hsz₁
    · exact hax₁
  have hacc' : acc.toList = ys := by
    rw [items_tail (by simp) hacc]
    simp
  have hnl : acc.toList.length = ys.length := by rw [hacc']
  rw [hacc']
  obtain ⟨hk₂, hg, hd, ho, htk⟩ := hm
  obtain ⟨h₂, g₂, d₂, t₂, o₂⟩ := s'
  dsimp only at hk₂ hg hd ho htk
  subst hg hd ho
  have hk : ∀ b o, s.heap.get? b = some o → h₂.get? b = some o := fun b o e => hk₂ b o (by simpa using Nat.ne_of_lt (Heap.lt_size e)) (hk₁ b o (Nat.ne_of_lt (Heap.lt_size e)) e)
  have I3 : Inv X pins σ H { s with heap := h₂, toks := t₂ } := I.kept hk
  have hxl : xs.length ≤ sizeLine := by rw [rxs.length]; exact hysl
  have I2 := I3.lnew (t' := t₂) rxs hxl
  rw [if_neg (by simp)]
  have hpn : H h₂.objs.size = none := I3.fresh
  have q := hw _ hpn
  show wpAny _ _ (newList (ys.take ys.length) >>= fun l => pure ([y] ++ [l] ++ ys.drop ys.length)) _ _ _
  rw [List.take_length, List.drop_length]
  refine wpAny_bind (wpAny_newObj_type ?_ hysl)
  refine wpAny_pure ?_
  show wpAny _ _ (assignInOrder [assign e1 X.env, assign e2 X.env] [y, Value.ref h₂.objs.size]) _ _ _
  refine assignInOrder_cons (thn (h1.run _ _ _ _ _ _ _ I2 rx q) fun _ s4 ⟨σ4, H4, I4, q4⟩ => ?_)
  refine assignInOrder_cons (thn (h2.run _ _ _ _ (.ref h₂.objs.size) _ _ I4 rfl q4) fun _ s5 ⟨σ5, H5, I5, q5⟩ => ?_)
  exact assignInOrder_nil ⟨σ5, H5, I5, q5⟩
end Bl

/-! what is a test, of any data -/
namespace Bl
open PySem L2
open SX (S)
def dot : Str := "."
theorem dot_eq : ("." : Str) = S [46] := by decide +kernel
def colB (z : Str) : Bool := decide ((Txt.split z ".").length ≤ 2) && (Txt.split z ".").all nameB
def colD : PyData → Bool
  | .str z => colB z
  | _ => false
theorem split_dot (a : List Nat) : Txt.split (S a) "." = (TL.spl [46] 0 [] a).map S := by
  rw [dot_eq]
  exact SX.split_S (by decide) (by decide)
theorem spl_len {s : List Nat} : ∀ (l : List Nat) (k : Nat) (acc : List Nat), ∀ p ∈ TL.spl s k acc l, p.length ≤ acc.length + l.length
  | [], k, acc, p, h => by
    have e : TL.spl s k acc [] = [acc] := by cases k <;> rfl
    rw [e] at h
    obtain rfl := List.mem_singleton.mp h
    exact Nat.le_add_right _ _
  | c :: r, k + 1, acc, p, h => by
    have h' : p ∈ TL.spl s k acc r := h
    have := spl_len r k acc p h'
    rw [List.length_cons]
    omega
  | c :: r, 0, acc, p, h => by
    have h' : p ∈ (if TL.pre s (c :: r) = true then acc :: TL.spl s (s.length - 1) [] r else TL.spl s 0 (acc ++ [c]) r) := h
    rw [List.length_cons]
    by_cases hp : TL.pre s (c :: r) = true
    · rw [if_pos hp] at h'
      rcases List.mem_cons.mp h' with rfl | h'
      · exact Nat.le_add_right _ _
      · have := spl_len r _ [] p h'
        rw [List.length_nil] at this
        omega
    · rw [if_neg hp] at h'
      have := spl_len r _ _ p h'
      rw [List.length_append] at this
      have e1 : [c].length = 1 := rfl
      omega
theorem split_len {z y : Str} (h : y ∈ Txt.split z ".") : y.length ≤ z.length := by
  rw [← SX.S_tl z, split_dot] at h
  obtain ⟨l, hl, rfl⟩ := List.mem_map.mp h
  have := spl_len _ _ _ _ hl
  rw [SX.S_len]
  rw [List.length_nil, Nat.zero_add, Array.length_toList] at this
  exact this
theorem split_one {a : List Nat} (h : 46 ∉ a) : Txt.split (S a) "." = [S a] := by
  rw [split_dot, show TL.spl [46] 0 [] a = [a] from SX.spl_join (c := 46) (sep := []) (parts := [a]) (by simp) (by simpa using h)]
  rfl
theorem split_two {a b : List Nat} (h : 46 ∉ a) (k : 46 ∉ b) : Txt.split (S (a ++ 46 :: b)) "." = [S a, S b] := by
  rw [split_dot, show TL.spl [46] 0 [] (a ++ 46 :: b) = [a, b] from SX.spl_join (c := 46) (sep := []) (parts := [a, b]) (by simp) (by simp [h, k])]
  rfl
theorem no_dot {z : List Nat} (h : NameL z) : 46 ∉ z := fun hm => absurd (h.low 46 hm) (by decide)
theorem col_one {z : List Nat} (h : NameL z) : colB (S z) = true := by
  unfold colB
  rw [split_one (no_dot h)]
  simp [NameL.nameB h]
theorem col_two {y z : List Nat} (h : NameL y) (k : NameL z) : colB (S (y ++ 46 :: z)) = true := by
  unfold colB
  rw [split_two (no_dot h) (no_dot k)]
  simp [NameL.nameB h, NameL.nameB k]
/-- how many tests stand behind a first word -/
def partsN (h : Str) : Option Nat := if h = "not" then some 1 else if h = "and" then some 2 else if h = "or" then some 2 else none
def atD (f : PyData → Bool) (ds : List PyData) (i : Nat) : Bool := match ds[i]? with
  | some d => f d
  | none => false
def leafB (h : Str) (rest : List PyData) : Bool :=
  if h = "has" then decide (rest.length = 1) && atD nameD rest 0 else decide (h = "is") && (decide (rest.length = 2) && (atD colD rest 0 && atD nameD rest 1))
def isT : Nat → PyData → Bool
  | 0, _ => false
  | n + 1, .tuple (.str h :: rest) => match partsN h with
    | some k => decide (rest.length = k) && rest.all (isT n)
    | none => leafB h rest
  | _ + 1, _ => false
/-- texts and tuples of some size, n deep -/
def Sm : Nat → PyData → Prop
  | 0, _ => True
  | _ + 1, .str z => z.length ≤ 100000
  | n + 1, .tuple ds => ds.length ≤ 1000 ∧ ∀ d ∈ ds, Sm n d
  | _ + 1, _ => True
def spIsCol (K : PySem.W.Frag) : Sp := fun vs H Q _ => ∃ (v : V) (d : PyData), vs = [v] ∧ Dp K H v d ∧ (∀ z, d = .str z → z.length ≤ 100000) ∧ ∀ H', Same H H' → Q (.bl (colD d)) H'
def spIsT (K : PySem.W.Frag) (n : Nat) : Sp := fun vs H Q _ => ∃ (v : V) (d : PyData) (m : Nat), vs = [v, .int (m : Int)] ∧ m < n ∧ Dp K H v d ∧ Sm (m + 1) d ∧ ∀ H', Same H H' → Q (.bl (isT m d)) H'
theorem pn_not : partsN "not" = some 1 := by decide +kernel
theorem pn_and : partsN "and" = some 2 := by decide +kernel
theorem pn_or : partsN "or" = some 2 := by decide +kernel
theorem pn_is : partsN "is" = none := by decide +kernel
theorem pn_has : partsN "has" = none := by decide +kernel
theorem pn_two (o : Bool) : partsN (twoS o) = some 2 := by cases o <;> decide +kernel
theorem is_has : ¬ (("is" : Str) = "has") := by decide +kernel
theorem isT_parts {h : Str} {k : Nat} (n : Nat) (rest : List PyData) (e : partsN h = some k) : isT (n + 1) (.tuple (.str h :: rest)) = (decide (rest.length = k) && rest.all (isT n)) := by
  show (match partsN h with | some k => _ | none => leafB h rest) = _
  rw [e]
theorem isT_leaf {h : Str} (n : Nat) (rest : List PyData) (e : partsN h = none) : isT (n + 1) (.tuple (.str h :: rest)) = leafB h rest := by
  show (match partsN h with | some k => _ | none => leafB h rest) = _
  rw [e]
theorem isT_is (n : Nat) (a b : PyData) : isT (n + 1) (.tuple [.str "is", a, b]) = (colD a && nameD b) := by
  rw [isT_leaf n _ pn_is]
  unfold leafB
  rw [if_neg is_has]
  simp [atD]
theorem isT_has (n : Nat) (a : PyData) : isT (n + 1) (.tuple [.str "has", a]) = nameD a := by
  rw [isT_leaf n _ pn_has]
  unfold leafB
  rw [if_pos rfl]
  simp [atD]
/-- a drawn test is one, if it is not too deep -/
structure Words (w0 w1 w2 w3 w4 : List Nat) : Prop where
  a : NameL w0
  b : NameL w1
  c : NameL w2
  d : NameL w3
  e : NameL w4
theorem Words.col {w0 w1 w2 w3 w4 : List Nat} (W : Words w0 w1 w2 w3 w4) {c : List Nat} (h : c ∈ [w0, w1, w2 ++ 46 :: w0]) : colB (S c) = true ∧ c.length ≤ 13 := by
  have h0 := W.a.six
  have h1 := W.b.six
  have h2 := W.c.six
  rcases List.mem_cons.mp h with rfl | h
  · exact ⟨col_one W.a, by omega⟩
  rcases List.mem_cons.mp h with rfl | h
  · exact ⟨col_one W.b, by omega⟩
  obtain rfl := List.mem_singleton.mp h
  refine ⟨col_two W.c W.a, ?_⟩
  rw [List.length_append, List.length_cons]
  omega
theorem isT_over {w0 w1 w2 w3 w4 : List Nat} (W : Words w0 w1 w2 w3 w4) : ∀ (n : Nat) (t : Tst), t.over [w0, w1, w2 ++ 46 :: w0] w3 w4 → isT n t.toD = decide (t.deep ≤ n)
  | 0, t, _ => by
    have := t.deep_pos
    exact (decide_eq_false (by omega)).symm
  | n + 1, .is c t, h => by
    obtain ⟨hc, rfl⟩ := h
    show isT (n + 1) (.tuple [.str "is", .str (S c), .str (S t)]) = _
    rw [isT_is]
    show (colB (S c) && nameB (S t)) = decide (1 ≤ n + 1)
    rw [(W.col hc).1, NameL.nameB W.d, decide_eq_true (by omega)]
    rfl
  | n + 1, .has s, h => by
    obtain rfl : s = w4 := h
    show isT (n + 1) (.tuple [.str "has", .str (S s)]) = _
    rw [isT_has]
    show nameB (S s) = decide (1 ≤ n + 1)
    rw [NameL.nameB W.e, decide_eq_true (by omega)]
  | n + 1, .neg t, h => by
    show isT (n + 1) (.tuple [.str "not", t.toD]) = decide (t.deep + 1 ≤ n + 1)
    rw [isT_parts n _ pn_not, List.all_cons, List.all_nil, isT_over W n t h]
    simp
  | n + 1, .two o t u, h => by
    show isT (n + 1) (.tuple [.str (twoS o), t.toD, u.toD]) = decide (max t.deep u.deep + 1 ≤ n + 1)
    rw [isT_parts n _ (pn_two o), List.all_cons, List.all_cons, List.all_nil, isT_over W n t h.1, isT_over W n u h.2]
    have e2 : decide (max t.deep u.deep + 1 ≤ n + 1) = (decide (t.deep ≤ n) && decide (u.deep ≤ n)) := by
      by_cases h1 : t.deep ≤ n
      · by_cases h2 : u.deep ≤ n
        · rw [decide_eq_true h1, decide_eq_true h2, decide_eq_true (by omega)]
          rfl
        · rw [decide_eq_false h2, decide_eq_false (by omega), Bool.and_false]
      · rw [decide_eq_false h1, decide_eq_false (by omega), Bool.false_and]
    rw [e2]
    simp
theorem Sm_over {w0 w1 w2 w3 w4 : List Nat} (W : Words w0 w1 w2 w3 w4) : ∀ (n : Nat) (t : Tst), t.over [w0, w1, w2 ++ 46 :: w0] w3 w4 → Sm n t.toD
  | 0, _, _ => True.intro
  | 1, .is _ _, _ => ⟨by show 3 ≤ 1000; decide, fun _ _ => True.intro⟩
  | 1, .has _, _ => ⟨by show 2 ≤ 1000; decide, fun _ _ => True.intro⟩
  | n + 2, .is c t, h => by
    obtain ⟨hc, rfl⟩ := h
    refine ⟨by show 3 ≤ 1000; decide, fun d hd => ?_⟩
    rcases List.mem_cons.mp hd with rfl | hd
    · show ("is" : Str).length ≤ 100000
      decide +kernel
    rcases List.mem_cons.mp hd with rfl | hd
    · show (S c).length ≤ 100000
      rw [SX.S_len]
      have := (W.col hc).2
      omega
    obtain rfl := List.mem_singleton.mp hd
    show (S t).length ≤ 100000
    rw [SX.S_len]
    have := W.d.six
    omega
  | n + 2, .has s, h => by
    obtain rfl : s = w4 := h
    refine ⟨by show 2 ≤ 1000; decide, fun d hd => ?_⟩
    rcases List.mem_cons.mp hd with rfl | hd
    · show ("has" : Str).length ≤ 100000
      decide +kernel
    obtain rfl := List.mem_singleton.mp hd
    show (S s).length ≤ 100000
    rw [SX.S_len]
    have := W.e.six
    omega
  | n + 1, .neg t, h => by
    refine ⟨by show 2 ≤ 1000; decide, fun d hd => ?_⟩
    rcases List.mem_cons.mp hd with rfl | hd
    · cases n with
      | zero => exact True.intro
      | succ n =>
        show ("not" : Str).length ≤ 100000
        decide +kernel
    obtain rfl := List.mem_singleton.mp hd
    exact Sm_over W n t h
  | n + 1, .two o t u, h => by
    refine ⟨by show 3 ≤ 1000; decide, fun d hd => ?_⟩
    rcases List.mem_cons.mp hd with rfl | hd
    · cases n with
      | zero => exact True.intro
      | succ n =>
        show (twoS o).length ≤ 100000
        cases o <;> decide +kernel
    rcases List.mem_cons.mp hd with rfl | hd
    · exact Sm_over W n t h.1
    obtain rfl := List.mem_singleton.mp hd
    exact Sm_over W n u h.2
/-! the written table of first words -/
def PartsAt (K : PySem.W.Frag) (w : World) (p : Addr) : Prop := ∃ es n, KDict K w p es n ∧ ∀ z : Str, ∃ r, PySem.W.nsIn K p z = some r ∧ (match partsN z with
  | some k => ∃ t, r = some (.int (k : Int) t)
  | none => r = none)
section
variable {X : Cx} {p : Addr}
theorem op_in_parts (h : PartsAt X.K X.w p) : OpR X (compareOp .In) (fun x y H Q => ∃ z, x = .str z ∧ y = .ref p ∧ Q (.bl (partsN z).isSome) H) := by
  intro pins s σ H x y v u Q I rx ry h2
  obtain ⟨z, rfl, rfl, q⟩ := h2
  obtain ⟨es, n, D, hz⟩ := h
  obtain ⟨r, hr, hk⟩ := hz z
  have e : (partsN z).isSome = r.isSome := by
    cases e : partsN z with
    | none =>
      rw [e] at hk
      rw [hk]
      rfl
    | some k =>
      rw [e] at hk
      obtain ⟨t, rfl⟩ := hk
      rfl
  rw [e] at q
  exact op_in_kd D pins s σ H _ _ v u Q I rx ry ⟨z, r, rfl, rfl, hr, q⟩
theorem ix_parts (h : PartsAt X.K X.w p) : IxR X (fun x y H Q => ∃ z, ∃ k : Nat, x = .ref p ∧ y = .str z ∧ partsN z = some k ∧ Q (.int k) H) := by
  intro value slice pins s σ H x y v u Q I rx ry h2 hs
  obtain ⟨z, k, rfl, rfl, hp, q⟩ := h2
  obtain ⟨es, n, D, hz⟩ := h
  obtain ⟨r, hr, hk⟩ := hz z
  rw [hp] at hk
  obtain ⟨t, rfl⟩ := hk
  exact ix_kdict value slice pins s σ H _ _ v u Q I rx ry ⟨p, z, .int k, rfl, rfl, ⟨es, n, _, D.at_, D.lit, hr, ⟨t, rfl⟩⟩, q⟩ hs
end
theorem parts_mk {K : PySem.W.Frag} {w : World} {p : Addr} {n : Nat} {h0 h1 h2 : Int} {t0 t1 t2 u0 u1 u2 : Tok}
    (L : K.lookup p = some ⟨.type "dict", none, .dict #[⟨h0, .str "not" t0, .int 1 u0⟩, ⟨h1, .str "and" t1, .int 2 u1⟩, ⟨h2, .str "or" t2, .int 2 u2⟩] n, #[]⟩)
    (V : PySem.W.KeysLit w.params [⟨h0, .str "not" t0, .int 1 u0⟩, ⟨h1, .str "and" t1, .int 2 u1⟩, ⟨h2, .str "or" t2, .int 2 u2⟩]) (hs : (p == sysModules) = false) : PartsAt K w p := by
  refine ⟨_, n, ⟨L, V, hs⟩, fun z => ?_⟩
  unfold PySem.W.nsIn
  rw [L]
  have hb : ∀ a b : Str, (a == b) = decide (b = a) := fun a b => by
    by_cases e : b = a
    · rw [decide_eq_true e, e]
      exact beq_self_eq_true _
    · rw [decide_eq_false e]
      exact beq_eq_false_iff_ne.mpr (Ne.symm e)
  by_cases e0 : z = "not"
  · subst e0
    rw [pn_not]
    exact ⟨some (.int 1 u0), by simp [List.find?, Value.isStr], u0, rfl⟩
  by_cases e1 : z = "and"
  · subst e1
    rw [pn_and]
    have n1 : (("not" : Str) == "and") = false := by decide +kernel
    exact ⟨some (.int 2 u1), by simp [List.find?, Value.isStr, n1], u1, rfl⟩
  by_cases e2 : z = "or"
  · subst e2
    rw [pn_or]
    have n1 : (("not" : Str) == "or") = false := by decide +kernel
    have n2 : (("and" : Str) == "or") = false := by decide +kernel
    exact ⟨some (.int 2 u2), by simp [List.find?, Value.isStr, n1, n2], u2, rfl⟩
  have e3 : partsN z = none := by
    unfold partsN
    rw [if_neg e0, if_neg e1, if_neg e2]
  rw [e3]
  have n0 : (("not" : Str) == z) = false := by rw [hb]; exact decide_eq_false e0
  have n1 : (("and" : Str) == z) = false := by rw [hb]; exact decide_eq_false e1
  have n2 : (("or" : Str) == z) = false := by rw [hb]; exact decide_eq_false e2
  exact ⟨none, by simp [List.find?, Value.isStr, n0, n1, n2, DictEntry.refKey], rfl⟩
end Bl

/-! bent tests -/
namespace Bl
open PySem L2
open SX (S)
def Tst.items : Tst → List PyData
  | .is c t => [.str "is", .str (S c), .str (S t)]
  | .has s => [.str "has", .str (S s)]
  | .neg a => [.str "not", a.toD]
  | .two o a b => [.str (twoS o), a.toD, b.toD]
theorem Tst.toD_items : ∀ t : Tst, t.toD = .tuple t.items
  | .is _ _ => rfl
  | .has _ => rfl
  | .neg _ => rfl
  | .two _ _ _ => rfl
def Tst.leaf : Tst → Bool
  | .is _ _ => true
  | .has _ => true
  | _ => false
def Bad (d : PyData) : Prop := ∀ m, isT m d = false
def SmAll (d : PyData) : Prop := ∀ m, Sm m d
def odd7 : List PyData := [.none, .str "A", .int 3, .str "", .tuple [], .str "a.b.c", .list [.str "is"]]
def strLen : PyData → Nat
  | .str x => x.length
  | _ => 0
theorem odd7_all : odd7.all (fun d => !nameD d && !colD d && decide (strLen d ≤ 100)) = true := by decide +kernel
theorem odd7_bad {d : PyData} (h : d ∈ odd7) : nameD d = false ∧ colD d = false := by
  have := List.all_eq_true.mp odd7_all d h
  simp only [Bool.and_eq_true, decide_eq_true_eq, Bool.not_eq_true'] at this
  exact this.1
theorem smAll_str {z : Str} (h : z.length ≤ 100000) : SmAll (.str z)
  | 0 => True.intro
  | _ + 1 => h
theorem smAll_tup {ds : List PyData} (h : ds.length ≤ 1000) (k : ∀ d ∈ ds, SmAll d) : SmAll (.tuple ds)
  | 0 => True.intro
  | n + 1 => ⟨h, fun d hd => k d hd n⟩
theorem smAll_list {ds : List PyData} : SmAll (.list ds)
  | 0 => True.intro
  | _ + 1 => True.intro
theorem odd7_sm {d : PyData} (h : d ∈ odd7) : SmAll d := by
  unfold odd7 at h
  simp only [List.mem_cons, List.not_mem_nil, or_false] at h
  rcases h with rfl | rfl | rfl | rfl | rfl | rfl | rfl
  · exact fun m => by cases m <;> exact True.intro
  · exact smAll_str (by decide +kernel)
  · exact fun m => by cases m <;> exact True.intro
  · exact smAll_str (by decide +kernel)
  · exact smAll_tup (by decide) (fun d hd => nomatch hd)
  · exact smAll_str (by decide +kernel)
  · exact smAll_list
theorem bad_list (ds : List PyData) : Bad (.list ds)
  | 0 => rfl
  | _ + 1 => rfl
theorem bad_len {h : Str} {k : Nat} {rest : List PyData} (e : partsN h = some k) (hl : rest.length ≠ k) : Bad (.tuple (.str h :: rest))
  | 0 => rfl
  | n + 1 => by
    rw [isT_parts n rest e, decide_eq_false hl, Bool.false_and]
theorem bad_all {h : Str} {k : Nat} {rest : List PyData} {d : PyData} (e : partsN h = some k) (hd : d ∈ rest) (hb : Bad d) : Bad (.tuple (.str h :: rest))
  | 0 => rfl
  | n + 1 => by
    rw [isT_parts n rest e]
    have : rest.all (isT n) = false := by
      rw [List.all_eq_false]
      exact ⟨d, hd, by rw [hb n]; exact Bool.false_ne_true⟩
    rw [this, Bool.and_false]
theorem bad_leaf {h : Str} {rest : List PyData} (e : partsN h = none) (hl : leafB h rest = false) : Bad (.tuple (.str h :: rest))
  | 0 => rfl
  | n + 1 => by rw [isT_leaf n rest e, hl]
theorem leaf_is (rest : List PyData) : leafB "is" rest = (decide (rest.length = 2) && (atD colD rest 0 && atD nameD rest 1)) := by
  unfold leafB
  rw [if_neg is_has, decide_eq_true rfl, Bool.true_and]
theorem leaf_has (rest : List PyData) : leafB "has" rest = (decide (rest.length = 1) && atD nameD rest 0) := by
  unfold leafB
  rw [if_pos rfl]
/-- one item more -/
theorem bad4 (x : PyData) : ∀ t : Tst, Bad (.tuple (t.items ++ [x]))
  | .is _ _ => bad_leaf (rest := [_, _, x]) pn_is (by rw [leaf_is]; rfl)
  | .has _ => bad_leaf (rest := [_, x]) pn_has (by rw [leaf_has]; rfl)
  | .neg _ => bad_len (rest := [_, x]) pn_not (by show ¬ 2 = 1; decide)
  | .two o _ _ => bad_len (rest := [_, _, x]) (pn_two o) (by show ¬ 3 = 2; decide)
/-- one item less -/
theorem bad5 : ∀ t : Tst, Bad (.tuple (t.items.take (t.items.length - 1)))
  | .is _ _ => bad_leaf (rest := [_]) pn_is (by rw [leaf_is]; rfl)
  | .has _ => bad_leaf (rest := []) pn_has (by rw [leaf_has]; rfl)
  | .neg _ => bad_len (rest := []) pn_not (by show ¬ 0 = 1; decide)
  | .two o _ _ => bad_len (rest := [_]) (pn_two o) (by show ¬ 1 = 2; decide)
/-- another thing for the first item behind the word -/
theorem bad0 {x : PyData} (h : nameD x = false ∧ colD x = false) : ∀ t : Tst, t.leaf = true → Bad (.tuple (t.items.take 1 ++ [x] ++ t.items.drop 2))
  | .is _ _, _ => bad_leaf (rest := [x, _]) pn_is (by rw [leaf_is]; show (true && (colD x && _)) = false; rw [h.2]; rfl)
  | .has _, _ => bad_leaf (rest := [x]) pn_has (by rw [leaf_has]; show (true && nameD x) = false; rw [h.1]; rfl)
theorem DpAll.take {K : PySem.W.Frag} {H : Hp} : ∀ {ds : List PyData} {vs : List V} (n : Nat), DpAll K H vs ds → DpAll K H (vs.take n) (ds.take n)
  | _, _, 0, _ => .nil
  | [], _, _ + 1, h => by cases h; exact .nil
  | _ :: _, _, n + 1, h => by
    cases h with
    | cons h1 h2 => exact .cons h1 (DpAll.take n h2)
theorem DpAll.drop {K : PySem.W.Frag} {H : Hp} : ∀ {ds : List PyData} {vs : List V} (n : Nat), DpAll K H vs ds → DpAll K H (vs.drop n) (ds.drop n)
  | _, _, 0, h => h
  | [], _, _ + 1, h => by cases h; exact .nil
  | _ :: _, _, n + 1, h => by
    cases h with
    | cons h1 h2 => exact DpAll.drop n h2
theorem cutV_suf {xs : List V} {k : Nat} (h : k ≤ xs.length) : cutV xs (some (k : Int)) none = xs.drop k := by
  unfold cutV
  rw [HT.sIx_none, HT.sIx_nat, Nat.min_eq_left h, List.take_of_length_le (by rw [List.length_drop]; exact Nat.le_refl _)]
theorem cutV_neg1 {xs : List V} : cutV xs none (some (-1)) = xs.take (xs.length - 1) := by
  unfold cutV
  rw [HT.sIx_none, List.drop_zero, Nat.sub_zero]
  have e : HT.sIx xs.length xs.length (some (-1)) = xs.length - 1 := by
    show (if (-1 : Int) < 0 then ((-1 : Int) + (xs.length : Int)).toNat else min (-1 : Int).toNat xs.length) = xs.length - 1
    rw [if_pos (by decide)]
    omega
  rw [e]
theorem slA_to {K : PySem.W.Frag} {H : Hp} {a : Addr} {xs : List V} {lo hi : Option Int} {Q : VK} (h : SqT K H a xs) (k : ∀ r H', Same H H' → SqT K H' r (cutV xs lo hi) → Q (.ref r) H') : rSlA K (.ref a) lo hi H Q :=
  ⟨a, xs, rfl, h, fun hw => by
    refine k a H (Same.refl _) ?_
    have e : cutV xs lo hi = xs := by
      unfold cutV
      rw [hw.1, hw.2, List.drop_zero, Nat.sub_zero, List.take_length]
    rw [e]
    exact h, fun _ p hp => k p _ (same_new hp _) (SqT.of upd_same)⟩
theorem catA_to {K : PySem.W.Frag} {H : Hp} {a b : Addr} {xs ys : List V} {Q : VK} (h1 : SqT K H a xs) (h2 : SqT K H b ys) (hl : xs.length + ys.length ≤ sizeLine)
    (k : ∀ r H', Same H H' → SqT K H' r (xs ++ ys) → Q (.ref r) H') : rCatA K (.ref a) (.ref b) H Q :=
  ⟨a, b, xs, ys, rfl, rfl, h1, h2, hl, fun e => by
    subst e
    exact k b H (Same.refl _) h2, fun _ e => by
    subst e
    exact k a H (Same.refl _) (by rw [List.append_nil]; exact h1), fun _ _ p hp => k p _ (same_new hp _) (SqT.of upd_same)⟩
theorem sqT_hid {K : PySem.W.Frag} {H : Hp} {p l r : Addr} {xs : List V} (b : BoxAt H p l) (h : SqT K H r xs) : SqT K (hide p H) r xs := by
  obtain ⟨ns, i, w, m, c, hp, _⟩ := b
  rcases h with (h | ⟨o, h⟩) | h
  · exact .inl (.inl (by rw [hide_ne (by rintro rfl; rw [hp] at h; cases h)]; exact h))
  · exact .inl (.inr ⟨o, by rw [hide_ne (by rintro rfl; rw [hp] at h; cases h)]; exact h⟩)
  · exact .inr h
def spBent (K : PySem.W.Frag) (n : Nat) : Sp := fun vs H Q _ => ∃ (p l : Addr) (v u : V) (w0 w1 w2 w3 w4 : List Nat) (t : Tst), vs = [.ref p, v, u] ∧ BoxAt H p l ∧ Words w0 w1 w2 w3 w4 ∧ t.over [w0, w1, w2 ++ 46 :: w0] w3 w4 ∧ t.deep ≤ n ∧
  Dp K (hide p H) v t.toD ∧ ∀ (r : V) (d : PyData) (H' : Hp), Bad d → SmAll d → Dp K (hide p H') r d → BoxAt H' p l → But p H H' → Q r H'
theorem part_of {cs : List (List Nat)} {g s : List Nat} : ∀ {t : Tst} {k : Nat} {d : PyData}, t.leaf = false → 1 ≤ k → t.items[k]? = some d → t.over cs g s → ∃ t' : Tst, d = t'.toD ∧ t'.over cs g s ∧ t'.deep + 1 ≤ t.deep
  | .neg a, 1, _, _, _, e, h => ⟨a, (Option.some.inj e).symm, h, Nat.le_refl _⟩
  | .two _ a b, 1, _, _, _, e, h => ⟨a, (Option.some.inj e).symm, h.1, by show a.deep + 1 ≤ max a.deep b.deep + 1; omega⟩
  | .two _ a b, 2, _, _, _, e, h => ⟨b, (Option.some.inj e).symm, h.2, by show b.deep + 1 ≤ max a.deep b.deep + 1; omega⟩
theorem bad_part {x : PyData} (hx : Bad x) : ∀ {t : Tst} {k : Nat}, t.leaf = false → 1 ≤ k → k < t.items.length → Bad (.tuple (t.items.take k ++ [x] ++ t.items.drop (k + 1)))
  | .neg _, 1, _, _, _ => bad_all (rest := [x]) pn_not List.mem_cons_self hx
  | .two o _ _, 1, _, _, _ => bad_all (rest := [x, _]) (pn_two o) List.mem_cons_self hx
  | .two o _ _, 2, _, _, _ => bad_all (rest := [_, x]) (pn_two o) (List.mem_cons_of_mem _ List.mem_cons_self) hx
  | .neg _, k + 2, _, _, h => absurd h (by show ¬ k + 2 < 2; omega)
  | .two _ _ _, k + 3, _, _, h => absurd h (by show ¬ k + 3 < 3; omega)
def heads : List V := [.str "and", .str "or", .str "not"]
theorem head_in {K : PySem.W.Frag} {H : Hp} : ∀ {t : Tst} {xs : List V}, DpAll K H xs t.items → ∃ h : Str, xs[0]? = some (.str h) ∧ inV (.str h) heads = !t.leaf
  | .is _ _, _, h => by
    cases h with
    | cons h1 _ =>
      obtain rfl := Dp.str1 h1
      exact ⟨_, rfl, (by decide +kernel : inV (.str "is") heads = false)⟩
  | .has _, _, h => by
    cases h with
    | cons h1 _ =>
      obtain rfl := Dp.str1 h1
      exact ⟨_, rfl, (by decide +kernel : inV (.str "has") heads = false)⟩
  | .neg _, _, h => by
    cases h with
    | cons h1 _ =>
      obtain rfl := Dp.str1 h1
      exact ⟨_, rfl, (by decide +kernel : inV (.str "not") heads = true)⟩
  | .two o _ _, _, h => by
    cases h with
    | cons h1 _ =>
      obtain rfl := Dp.str1 h1
      cases o
      · exact ⟨"or", rfl, (by decide +kernel : inV (.str "or") heads = true)⟩
      · exact ⟨"and", rfl, (by decide +kernel : inV (.str "and") heads = true)⟩
end Bl

namespace Bl
open PySem L2
def top (i : Nat) : Stmt := PySem.Challenge.pw_bothlots_k02_tests_told.main.body.getD i (.Pass ⟨0, 0, 0, 0⟩)
abbrev s_is_name : Stmt := top 3
abbrev s_is_column : Stmt := top 4
abbrev s_is_test : Stmt := top 8
abbrev s_is_test_within : Stmt := top 9
abbrev s_box : Stmt := top 11
abbrev s_pull : Stmt := top 12
abbrev s_of : Stmt := top 13
abbrev s_names : Stmt := top 14
abbrev s_same : Stmt := top 15
abbrev s_odd : Stmt := top 16
abbrev s_free_test : Stmt := top 17
abbrev s_bent_test : Stmt := top 18
abbrev s_law : Stmt := top 19
structure Top (K : PySem.W.Frag) (w : World) (mg : Str → Option Value) : Type where
  a_is_name : Addr
  d_is_name : FuncData
  F_is_name : Fun K "is_name" "is_name" s_is_name a_is_name d_is_name
  m_is_name : mg "is_name" = some (.ref a_is_name)
  b_is_name : Binds K d_is_name ["value"] []
  a_is_column : Addr
  d_is_column : FuncData
  F_is_column : Fun K "is_column" "is_column" s_is_column a_is_column d_is_column
  m_is_column : mg "is_column" = some (.ref a_is_column)
  b_is_column : Binds K d_is_column ["value"] []
  a_is_test : Addr
  d_is_test : FuncData
  F_is_test : Fun K "is_test" "is_test" s_is_test a_is_test d_is_test
  m_is_test : mg "is_test" = some (.ref a_is_test)
  b_is_test : Binds K d_is_test ["value"] []
  a_is_test_within : Addr
  d_is_test_within : FuncData
  F_is_test_within : Fun K "_is_test_within" "_is_test_within" s_is_test_within a_is_test_within d_is_test_within
  m_is_test_within : mg "_is_test_within" = some (.ref a_is_test_within)
  b_is_test_within : Binds K d_is_test_within ["value", "deepest"] []
  a_box : Addr
  d_box : FuncData
  F_box : Fun K "_law_box" "_law_box" s_box a_box d_box
  m_box : mg "_law_box" = some (.ref a_box)
  b_box : Binds K d_box ["_law_script"] []
  a_pull : Addr
  d_pull : FuncData
  F_pull : Fun K "_law_pull" "_law_pull" s_pull a_pull d_pull
  m_pull : mg "_law_pull" = some (.ref a_pull)
  b_pull : Binds K d_pull ["_law_box_here", "_law_many"] []
  a_of : Addr
  d_of : FuncData
  F_of : Fun K "_law_of" "_law_of" s_of a_of d_of
  m_of : mg "_law_of" = some (.ref a_of)
  b_of : Binds K d_of ["_law_box_here", "_law_some"] []
  a_names : Addr
  d_names : FuncData
  F_names : Fun K "_law_names" "_law_names" s_names a_names d_names
  m_names : mg "_law_names" = some (.ref a_names)
  b_names : Binds K d_names ["_law_box_here", "_law_many"] []
  a_same : Addr
  d_same : FuncData
  F_same : Fun K "_law_same" "_law_same" s_same a_same d_same
  m_same : mg "_law_same" = some (.ref a_same)
  b_same : Binds K d_same ["_law_found", "_law_due"] []
  a_odd : Addr
  d_odd : FuncData
  F_odd : Fun K "_law_odd" "_law_odd" s_odd a_odd d_odd
  m_odd : mg "_law_odd" = some (.ref a_odd)
  b_odd : Binds K d_odd ["_law_box_here", "_law_more"] []
  a_free_test : Addr
  d_free_test : FuncData
  F_free_test : Fun K "_law_free_test" "_law_free_test" s_free_test a_free_test d_free_test
  m_free_test : mg "_law_free_test" = some (.ref a_free_test)
  b_free_test : Binds K d_free_test ["_law_box_here", "_law_words", "_law_deep"] []
  a_bent_test : Addr
  d_bent_test : FuncData
  F_bent_test : Fun K "_law_bent_test" "_law_bent_test" s_bent_test a_bent_test d_bent_test
  m_bent_test : mg "_law_bent_test" = some (.ref a_bent_test)
  b_bent_test : Binds K d_bent_test ["_law_box_here", "_law_test", "_law_words"] []
  a_law : Addr
  d_law : FuncData
  F_law : Fun K "law" "law" s_law a_law d_law
  m_law : mg "law" = some (.ref a_law)
  b_law : Binds K d_law ["_law_script"] []
  z_abs : mg "abs" = none
  z_all : mg "all" = none
  z_bool : mg "bool" = none
  z_int : mg "int" = none
  z_isinstance : mg "isinstance" = none
  z_len : mg "len" = none
  z_list : mg "list" = none
  z_min : mg "min" = none
  z_range : mg "range" = none
  z_str : mg "str" = none
  z_tuple : mg "tuple" = none
  z_zip : mg "zip" = none
  t_LETTERS : Tok
  c_LETTERS : mg "LETTERS" = some (.str "abcdefghijklmnopqrstuvwxyz" t_LETTERS)
  r_LETTERS : RelV (.str "abcdefghijklmnopqrstuvwxyz") (.str "abcdefghijklmnopqrstuvwxyz" t_LETTERS)
  t_LONGEST_NAME : Tok
  c_LONGEST_NAME : mg "LONGEST_NAME" = some (.int 6 t_LONGEST_NAME)
  r_LONGEST_NAME : RelV (.int 6) (.int 6 t_LONGEST_NAME)
  t_DEEPEST : Tok
  c_DEEPEST : mg "DEEPEST" = some (.int 6 t_DEEPEST)
  r_DEEPEST : RelV (.int 6) (.int 6 t_DEEPEST)
  p_PARTS : Addr
  c_PARTS : mg "PARTS" = some (.ref p_PARTS)
  r_PARTS : RelV (.ref p_PARTS) (.ref p_PARTS)
  q_PARTS : ∀ H : Hp, PartsAt K w p_PARTS
/-! my own rules: a text n times; a def called by keywords alone -/
section
variable {X : Cx} {CX : CXT} {k : Nat} {f : Addr} {fd : FuncData} {ps ks : List Str} {sp : Sp} {E : XK} {x : Str} {p pos : Pos} {kws : List Keyword} {tk : TA} {g : List Value → List Value → List Value} {gV : List V → List V → List V}
theorem pe_callK0 (F : FnOk X.prog X.w X.K X.mg X.base CX k f fd ps sp) (hr : Room k X.A) (hg : Gl X x) (hm : X.mg x = some (.ref f)) (hk : PySem.W.keepIn X.K (.ref f) = true) (hb : KBinds X.K fd ps ks g gV) (hx : Passes CX X E)
    (hkw : PK X kws tk) (hall : (backToKw pos (keywordEach kws X.env)).all (·.1.isSome) = true := by rfl) (hks : (backToKw pos (keywordEach kws X.env)).filterMap (·.1) = ks := by rfl)
    (hdb : (x == ("__debug__" : Str)) = false := by decide) (hpl : ((backTo pos (starEach [] X.env)).any (·.1) || (backToKw pos (keywordEach kws X.env)).any (·.1.isNone)) = false := by rfl) :
    PE X (.Call (.Name x p) [] kws pos) (tCallK sp gV E tNil tk) := by
  refine ⟨fun pins s σ H Q I h => ?_⟩
  refine wpAny_Call_Name_kw (ld_glob I hg hm ?_ hdb)
  refine PySem.W.callWith_KW0 (h₀ := X.base) I.ok.mod.kin hk hall (thn (hkw.run pos pins s σ H _ I h) fun ws s2 ⟨zs, H2, I2, rz, q2⟩ => ⟨I2.kIn, ?_⟩) hpl
  rw [hks]
  exact run_fnk (us := []) (vs := []) F hr hb hx I2 .nil rz q2
/-- a text, n times -/
def repS (n : Nat) (z : Str) : Str := ⟨(List.replicate n z.cps).foldl (· ++ ·) #[]⟩
theorem fold_app (n : Nat) (b : Array Nat) : ∀ a : Array Nat, ((List.replicate n b).foldl (· ++ ·) a).size = a.size + b.size * n := by
  induction n with
  | zero => intro a; simp
  | succ n ih =>
    intro a
    rw [List.replicate_succ, List.foldl_cons, ih, Array.size_append, Nat.mul_succ]
    omega
theorem repS_len (n : Nat) (z : Str) : (repS n z).length = z.length * n := by
  show ((List.replicate n z.cps).foldl (· ++ ·) #[]).size = z.cps.size * n
  rw [fold_app]
  simp
theorem op_rep_str : OpR X (binaryOp .Mult) (fun x y H Q => ∃ z, ∃ n : Nat, x = .str z ∧ y = .int n ∧ 2 ≤ n ∧ 1 ≤ z.length ∧ n ≤ 1000 ∧ z.length ≤ 1000 ∧ Q (.str (repS n z)) H) := by
  intro pins s σ H x y v u Q I rx ry h
  obtain ⟨z, n, rfl, rfl, hn, hz, hn1, hz1, q⟩ := h
  obtain ⟨t, rfl⟩ := rx
  obtain ⟨t', rfl⟩ := ry
  have hsz : z.length * n ≤ sizeLine := small (Nat.mul_le_mul hz1 hn1)
  refine PySem.P.mul_str ?_ (fun _ _ => ?_) (fun _ _ => ?_) ?_
  · have h1 : ¬ ((n : Int) < -(2 ^ 63 : Int)) := by omega
    have h2 : ¬ ((n : Int) ≥ 2 ^ 63) := by omega
    rw [decide_eq_false h1, decide_eq_false h2]
    rfl
  · have h1 : (1000 : Int) ≤ (2 ^ 63 - 1) / (n : Int) := Int.le_ediv_of_mul_le (by omega) (by omega)
    omega
  · exact decide_eq_false (by rw [Int.toNat_natCast]; omega)
  · have e1 : ¬ ((n : Int) < 1) := by omega
    have e2 : ((n : Int) == 1 || z.length == 0) = false := by
      rw [Bool.or_eq_false_iff]
      exact ⟨beq_eq_false_iff_ne.mpr (by omega), beq_eq_false_iff_ne.mpr (by omega)⟩
    rw [if_neg e1, e2, if_neg Bool.false_ne_true]
    refine ⟨?_, .str (repS n z), H, I.tok _, ⟨_, rfl⟩, q⟩
    show (repS (n : Int).toNat z).length ≤ sizeLine
    rw [Int.toNat_natCast, repS_len]
    exact hsz
end
end Bl

namespace Bl
open PySem L2
abbrev n_box : List Str := ["_law_script", "_law_mixed", "_law_cell"]
theorem sc_box : FnScope n_box ["_law_script"] (defScope s_box) := ⟨rfl, rfl, rfl, by decide +kernel, rfl, by decide +kernel, by decide +kernel⟩
abbrev n_pull : List Str := ["_law_box_here", "_law_many", "_law_cell", "_law_digit", "_law_twice"]
theorem sc_pull : FnScope n_pull ["_law_box_here", "_law_many"] (defScope s_pull) := ⟨rfl, rfl, rfl, by decide +kernel, rfl, by decide +kernel, by decide +kernel⟩
abbrev n_of : List Str := ["_law_box_here", "_law_some"]
theorem sc_of : FnScope n_of ["_law_box_here", "_law_some"] (defScope s_of) := ⟨rfl, rfl, rfl, by decide +kernel, rfl, by decide +kernel, by decide +kernel⟩
section
variable {P : Program} {w : World} {K : PySem.W.Frag} {mg : Str → Option Value} {base : Heap}
theorem ok_pull (T : Top K w mg) : FnOk P w K mg base CX0 1 T.a_pull T.d_pull ["_law_box_here", "_law_many"] (spPull K) := by
  refine T.F_pull.ok sc_pull (fun vs H Q E h => ?_) (fun cdv A outer s H vs Q E hr h => ?_)
  · obtain ⟨p, l, n, rfl, _⟩ := h
    rfl
  obtain ⟨p, l, n, rfl, ⟨ns, i, w', m, c, hp, hl, hi, hm0, hm1⟩, hn0, hn1, k⟩ := h
  -- what a box at the end gives
  have fin : ∀ (H' : Hp) (i' w2 m' c' d : Int), H' p = some (.lst (boxL l i' w2 m' c')) → But p H H' → 0 ≤ i' → 0 ≤ m' → m' < 2147483629 → 0 ≤ d → d < n → Q (.int d) H' := fun H' i' w2 m' c' d h1 h2 h3 h4 h5 h6 h7 =>
    k d H' h6 h7 ⟨ns, i', w2, m', c', h1, h2 _ _ hl, h3, h4, h5⟩ h2
  refine ⟨_, (pss_cons (ps_asg (pe_op op_add (pe_ix ix_list (pv 0) pe_int (fun _ _ => rfl)) pe_int) (pg_sub (pv 0) pe_int set_list))
    (C8.pss_cut (ps_if (PW.pt (pw_and (pt_cmpR op_eq (pe_ix ix_list (pv 0) pe_int (fun _ _ => rfl)) pe_int (nomark _)) (pw_and1 (pt_cmpR op_lt (pe_ix ix_list (pv 0) pe_int (fun _ _ => rfl)) (pe_callB call_len_seq (by rfl) T.z_len (by decide +kernel) (pa_cons (pe_ix ix_list (pv 0) pe_int (fun _ _ => rfl)) pa_nil)) (nomark _))))) (pss_cons (ps_set (i := 2) sc_pull.nd rfl (Or.inl rfl) (pe_ix ix_list (pe_ix ix_list (pv 0) pe_int (fun _ _ => rfl)) (pe_ix ix_list (pv 0) pe_int (fun _ _ => rfl)) (fun _ _ => rfl)))
    (pss_cons (ps_asg (pe_op op_add (pe_ix ix_list (pv 0) pe_int (fun _ _ => rfl)) pe_int) (pg_sub (pv 0) pe_int set_list))
    (pss_one (ps_if (pt_cmpR op_ge (pe_callB call_abs (by rfl) T.z_abs (by decide +kernel) (pa_cons (pv 2) pa_nil)) (pe_op op_pow pe_int pe_int) (nomark _)) (pss_one (ps_asg (pe_callB call_abs (by rfl) T.z_abs (by decide +kernel) (pa_cons (pv 2) pa_nil)) (pg_sub (pv 0) pe_int set_list))) (pss_one (ps_asg (pe_op op_mod (pe_callTy call_int1 (by rfl) T.z_int (by decide +kernel) (pa_cons (pe_op op_add (pe_op op_add (pe_op op_mul (pe_ix ix_list (pv 0) pe_int (fun _ _ => rfl)) pe_int) (pe_op op_mul (pe_op op_mod (pe_callTy call_int1 (by rfl) T.z_int (by decide +kernel) (pa_cons (pv 2) pa_nil)) pe_int) pe_int)) pe_int) pa_nil)) pe_int) (pg_sub (pv 0) pe_int set_list))))))) pss_nil)
    (pss_cons (ps_if (pt_cmpR op_gt (pe_ix ix_list (pv 0) pe_int (fun _ _ => rfl)) pe_int (nomark _)) (pss_cons (ps_set (i := 3) sc_pull.nd rfl (Or.inl rfl) (pe_op op_mod (pe_callTy call_int1 (by rfl) T.z_int (by decide +kernel) (pa_cons (pe_ix ix_list (pv 0) pe_int (fun _ _ => rfl)) pa_nil)) (pv 1)))
    (pss_cons (ps_asg (pe_op op_fdiv (pe_ix ix_list (pv 0) pe_int (fun _ _ => rfl)) (pv 1)) (pg_sub (pv 0) pe_int set_list))
    (pss_one (ps_ret (pv 3))))) pss_nil)
    (pss_cons (ps_set (i := 4) sc_pull.nd rfl (Or.inl rfl) (pe_op op_mod (pe_callTy call_int1 (by rfl) T.z_int (by decide +kernel) (pa_cons (pe_op op_add (pe_op op_mul (pe_ix ix_list (pv 0) pe_int (fun _ _ => rfl)) (pe_ix ix_list (pv 0) pe_int (fun _ _ => rfl))) (pe_op op_mul (pe_ix ix_list (pv 0) pe_int (fun _ _ => rfl)) pe_int)) pa_nil)) pe_int))
    (pss_cons (ps_asg (pe_op op_mod (pe_callTy call_int1 (by rfl) T.z_int (by decide +kernel) (pa_cons (pe_op op_add (pe_op op_add (pe_op op_mul (pv 4) pe_int) (pe_op op_mul (pe_ix ix_list (pv 0) pe_int (fun _ _ => rfl)) pe_int)) pe_int) pa_nil)) pe_int) (pg_sub (pv 0) pe_int set_list))
    (pss_one (ps_ret (pe_op op_mod (pe_callTy call_int1 (by rfl) T.z_int (by decide +kernel) (pa_cons (pe_op op_fdiv (pe_ix ix_list (pv 0) pe_int (fun _ _ => rfl)) pe_int) pa_nil)) (pv 1))))))))), ?_⟩
  -- box[4] = box[4] + 1
  refine ⟨_, rfl, p, _, _, _, rfl, rfl, SqL.of hp, rfl, _, _, rfl, rfl, _, rfl, p, _, _, _, rfl, rfl, hp, rfl, ?_⟩
  have e1 : But p H (upd H p (.lst (boxL l i w' m (c + 1)))) := But.put (Same.refl _)
  have hp1 : (upd H p (.lst (boxL l i w' m (c + 1)))) p = some (.lst (boxL l i w' m (c + 1))) := upd_same
  show tSeq _ _ _ _ (upd H p (.lst (boxL l i w' m (c + 1))))
  generalize (upd H p (.lst (boxL l i w' m (c + 1)))) = H1 at e1 hp1 ⊢
  have hl1 : SqL K H1 l (ns.map V.int) := SqL.of (hide_le _ _ (e1 _ _ hl))
  clear hp
  refine ⟨fun σ H2 => ∃ (o2 : Option V) (i2 w2 m2 : Int), σ = [some (.ref p), some (.int n), o2, none, none] ∧ H2 p = some (.lst (boxL l i2 w2 m2 (c + 1))) ∧ But p H H2 ∧ 0 ≤ i2 ∧ 0 ≤ m2 ∧ m2 < 2147483629, ?_, ?_⟩
  -- if box[2] == 0 and box[1] < len(box[0])
  · refine ⟨_, rfl, p, _, _, _, rfl, rfl, SqL.of hp1, rfl, rfl, _, rfl, ?_⟩
    refine ite2 (fun _ => ?_) (fun _ => iteF ⟨none, i, w', m, rfl, hp1, e1, hi, hm0, hm1⟩)
    refine ⟨_, rfl, p, _, _, _, rfl, rfl, SqL.of hp1, rfl, _, rfl, p, _, _, _, rfl, rfl, SqL.of hp1, rfl, l, _, rfl, .inl hl1, _, _, rfl, rfl, _, rfl, ?_⟩
    refine ite2 (fun hlt => ?_) (fun _ => ⟨none, i, w', m, rfl, hp1, e1, hi, hm0, hm1⟩)
    have hlt' : i < ns.length := by
      have := of_decide_eq_true hlt
      simpa using this
    obtain ⟨v, hv⟩ := atI_int hi hlt'
    -- cell = box[0][box[1]]; box[1] = box[1] + 1
    refine ⟨_, rfl, p, _, _, _, rfl, rfl, SqL.of hp1, rfl, _, rfl, p, _, _, _, rfl, rfl, SqL.of hp1, rfl, l, _, _, _, rfl, rfl, hl1, hv, ?_⟩
    refine ⟨_, rfl, p, _, _, _, rfl, rfl, SqL.of hp1, rfl, _, _, rfl, rfl, _, rfl, p, _, _, _, rfl, rfl, hp1, rfl, ?_⟩
    -- if abs(cell) >= 10 ** 18
    refine ⟨_, rfl, v, rfl, _, _, rfl, rfl, ⟨by decide, by decide, by decide⟩, _, _, rfl, rfl, _, rfl, ?_⟩
    refine ite2 (fun _ => ?_) (fun _ => ?_)
    · refine ⟨_, rfl, v, rfl, _, rfl, p, _, _, _, rfl, rfl, upd_same, rfl, ?_⟩
      exact ⟨_, i + 1, _, m, rfl, upd_same, (But.put (But.put e1)), by omega, hm0, hm1⟩
    · refine ⟨_, rfl, p, _, _, _, rfl, rfl, SqL.of upd_same, rfl, _, _, rfl, rfl, .inl (by constructor <;> omega), _, rfl, .inl ⟨v, rfl, ?_⟩⟩
      have b1 := mod_lt' (a := v) (b := 1000003) (by decide)
      refine ⟨_, _, rfl, rfl, (by show (0 : Int) < 1000003; decide), _, _, rfl, rfl, .inl (by constructor <;> omega), _, _, rfl, rfl, _, _, rfl, rfl, .inl ⟨_, rfl, ?_⟩⟩
      refine ⟨_, _, rfl, rfl, (by show (0 : Int) < 2147483629; decide), _, rfl, p, _, _, _, rfl, rfl, upd_same, rfl, ?_⟩
      exact ⟨_, i + 1, w', _, rfl, upd_same, (But.put (But.put e1)), by omega, Int.emod_nonneg _ (by decide), Int.emod_lt_of_pos _ (by decide)⟩
  -- the rest
  · rintro σ H2 ⟨o2, i2, w2, m2, rfl, hp2, e2, hi2, hm20, hm21⟩
    refine ⟨_, rfl, p, _, _, _, rfl, rfl, SqL.of hp2, rfl, _, _, rfl, rfl, _, rfl, ?_⟩
    refine ite2 (fun _ => ?_) (fun _ => ?_)
    · refine ⟨_, rfl, p, _, _, _, rfl, rfl, SqL.of hp2, rfl, .inl ⟨_, rfl, ?_⟩⟩
      refine ⟨_, rfl, _, _, rfl, rfl, hn0, ?_⟩
      refine ⟨_, rfl, p, _, _, _, rfl, rfl, SqL.of hp2, rfl, _, rfl, _, _, rfl, rfl, ⟨hn0, hn1⟩, _, rfl, p, _, _, _, rfl, rfl, hp2, rfl, ?_⟩
      refine ⟨_, rfl, ?_⟩
      exact fin _ i2 _ m2 _ _ upd_same (But.put e2) hi2 hm20 hm21 (Int.emod_nonneg _ (by omega)) (Int.emod_lt_of_pos _ hn0)
    · refine ⟨_, rfl, p, _, _, _, rfl, rfl, SqL.of hp2, rfl, _, rfl, p, _, _, _, rfl, rfl, SqL.of hp2, rfl, _, _, rfl, rfl, .inl (by constructor <;> omega), _, rfl, p, _, _, _, rfl, rfl, SqL.of hp2, rfl, _, _, rfl, rfl, .inr (by constructor <;> omega), _, _, rfl, rfl, .inl ⟨_, rfl, ?_⟩⟩
      have b1 := mod_lt' (a := m2 * m2 + (c + 1) * 8317) (b := 2147483549) (by decide)
      refine ⟨_, _, rfl, rfl, (by show (0 : Int) < 2147483549; decide), ?_⟩
      refine ⟨_, rfl, _, _, rfl, rfl, .inl (by constructor <;> omega), _, rfl, p, _, _, _, rfl, rfl, SqL.of hp2, rfl, _, _, rfl, rfl, .inl (by constructor <;> omega), _, _, rfl, rfl, _, _, rfl, rfl, .inl ⟨_, rfl, ?_⟩⟩
      refine ⟨_, _, rfl, rfl, (by show (0 : Int) < 2147483629; decide), _, rfl, p, _, _, _, rfl, rfl, hp2, rfl, ?_⟩
      refine ⟨_, rfl, p, _, _, _, rfl, rfl, SqL.of upd_same, rfl, _, _, rfl, rfl, (by constructor <;> decide), .inl ⟨_, rfl, ?_⟩⟩
      refine ⟨_, rfl, _, _, rfl, rfl, hn0, ?_⟩
      exact fin _ i2 w2 _ _ _ upd_same (But.put e2) hi2 (Int.emod_nonneg _ (by decide)) (Int.emod_lt_of_pos _ (by decide)) (Int.emod_nonneg _ (by omega)) (Int.emod_lt_of_pos _ hn0)
theorem ok_box (T : Top K w mg) : FnOk P w K mg base CX0 1 T.a_box T.d_box ["_law_script"] (spBox K) := by
  refine T.F_box.ok sc_box (fun vs H Q E h => ?_) (fun cdv A outer s H vs Q E hr h => ?_)
  · obtain ⟨a, ns, rfl, _⟩ := h
    rfl
  obtain ⟨a, ns, rfl, hS, h63, k⟩ := h
  refine ⟨_, (pss_cons (ps_set (i := 1) sc_box.nd rfl (Or.inl rfl) pe_int)
    (pss_cons (ps_for PassesOwn.never rfl (pi_list (pe_slice sl_list (pv 0) po_none (po_some pe_int))) (pg_name (i := 2) sc_box.nd rfl (Or.inl rfl))
    (pss_one (ps_set (i := 1) sc_box.nd rfl (Or.inl rfl) (pe_op op_mod (pe_callTy call_int1 (by rfl) T.z_int (by decide +kernel) (pa_cons (pe_op op_add (pe_op op_add (pe_op op_mul (pv 1) pe_int) (pe_op op_mul (pe_op op_mod (pe_callTy call_int1 (by rfl) T.z_int (by decide +kernel) (pa_cons (pv 2) pa_nil)) pe_int) pe_int)) pe_int) pa_nil)) pe_int))))
    (pss_one (ps_ret (pe_lst (pa_cons (pe_callTy call_list_of (by rfl) T.z_list (by decide +kernel) (pa_cons (pe_slice sl_list (pv 0) po_none (po_some pe_int)) pa_nil)) (pa_cons pe_int (pa_cons pe_int (pa_cons (pv 1) (pa_cons pe_int pa_nil)))))))))), ?_⟩
  refine ⟨_, rfl, _, rfl, a, _, rfl, hS, fun p hp => ?_⟩
  rw [cutV_63 h63]
  have g1 : Same H (upd H p (.lst (ns.map V.int))) := same_new hp _
  refine ⟨p, rfl, ⟨_, SqL.of upd_same⟩, for_list (K := K) (a := p) (xs := ns.map V.int) (fun i σ H2 => ∃ (m : Int) (o : Option V), σ = [some (.ref a), some (.int m), o] ∧ 0 ≤ m ∧ m < 2147483629 ∧ Same (upd H p (.lst (ns.map V.int))) H2)
    ⟨10010, none, rfl, by decide, by decide, Same.refl _⟩ (fun i σ H2 _ ⟨_, _, _, _, _, s2⟩ => s2.seq (SqL.of upd_same)) ?_ ?_⟩
  · rintro i x σ H2 hx ⟨m, o, rfl, h0, h1, s2⟩
    obtain ⟨v, rfl⟩ : ∃ v : Int, x = .int v := by
      rw [List.getElem?_map] at hx
      cases e : ns[i]? with
      | none => rw [e] at hx; cases hx
      | some z => rw [e] at hx; exact ⟨z, (Option.some.inj hx).symm⟩
    have b1 := mod_lt' (a := v) (b := 1000003) (by decide)
    refine ⟨_, rfl, _, _, rfl, rfl, .inl (by constructor <;> omega), _, rfl, .inl ⟨v, rfl, ?_⟩⟩
    refine ⟨_, _, rfl, rfl, (by show (0 : Int) < 1000003; decide), _, _, rfl, rfl, .inl (by constructor <;> omega), _, _, rfl, rfl, _, _, rfl, rfl, .inl ⟨_, rfl, ?_⟩⟩
    refine ⟨_, _, rfl, rfl, (by show (0 : Int) < 2147483587; decide), ?_⟩
    have b2 := mod_lt' (a := m * 50021 + v % 1000003 * 769 + 17) (b := 2147483587) (by decide)
    exact ⟨_, _, rfl, b2.1, by omega, s2⟩
  · rintro σ H2 ⟨m, o, rfl, h0, h1, s2⟩
    have s3 := g1.trans s2
    refine ⟨_, rfl, _, rfl, a, _, rfl, s3.seq hS, fun q hq => ?_⟩
    rw [cutV_63 h63]
    have g2 := same_new hq (.lst (ns.map V.int))
    refine ⟨q, _, rfl, .inl (SqL.of upd_same), fun l hl => ?_⟩
    have g3 := same_new hl (.lst (ns.map V.int))
    refine ⟨_, rfl, (by show 5 ≤ sizeLine; decide), fun b hb => ?_⟩
    have g4 := same_new hb (.lst (boxL l 0 0 m 0))
    have nb : l ≠ b := ne_of_none upd_same hb
    refine k b l _ (s3.free (g2.free (g3.free hb))) ⟨ns, 0, 0, m, 0, upd_same, ?_, by decide, h0, h1⟩ (s3.trans (g2.trans (g3.trans g4)))
    rw [hide_ne nb, upd_ne nb, upd_same]
theorem ok_of (T : Top K w mg) : FnOk P w K mg base CX0 2 T.a_of T.d_of ["_law_box_here", "_law_some"] (spOf K) := by
  refine T.F_of.ok sc_of (fun vs H Q E h => ?_) (fun cdv A outer s H vs Q E hr h => ?_)
  · obtain ⟨p, l, v, rfl, _⟩ := h
    rfl
  obtain ⟨p, l, v, rfl, B, h⟩ := h
  refine ⟨_, (pss_one (ps_ret (pe_ix ix_seq (pv 1) (pe_call (ok_pull T) (hr.mono (by decide)) rfl T.m_pull T.F_pull.kp T.b_pull .nil pass0 (pa_cons (pv 0) (pa_cons (pe_callB call_len (by rfl) T.z_len (by decide +kernel) (pa_cons (pv 1) pa_nil)) pa_nil))) (fun _ _ => rfl)))), ?_⟩
  rcases h with ⟨a, xs, rfl, hS, h0, h1, k⟩ | ⟨z, rfl, h0, h1, k⟩
  · refine ⟨_, rfl, _, rfl, _, rfl, _, xs.length, rfl, ?_, p, l, xs.length, rfl, B, by omega, by omega, fun d H' hd0 hd1 B' e => ?_⟩
    · rcases hS with hS | hS
      · exact .inl ⟨xs, hide_le.seq hS, rfl⟩
      · exact .inr ⟨xs, Same.tup hide_le hS, rfl⟩
    · obtain ⟨n, x, hx, hat⟩ := atI_some hd0 hd1
      rcases hS with hS | hS
      · exact .inl ⟨a, xs, d, x, rfl, rfl, hide_le.seq (e.seq hS), hat, k n x H' hx B' e⟩
      · exact .inr (.inl ⟨a, xs, d, x, rfl, rfl, Same.tup hide_le (Same.tup e hS), hat, k n x H' hx B' e⟩)
  · refine ⟨_, rfl, _, rfl, _, rfl, _, z.length, rfl, ⟨small (by omega), rfl⟩, p, l, z.length, rfl, B, by omega, by omega, fun d H' hd0 hd1 B' e => ?_⟩
    obtain ⟨n, rfl⟩ := Int.eq_ofNat_of_zero_le hd0
    have hn : n < z.cps.toList.length := by
      rw [Array.length_toList]
      show n < z.length
      omega
    exact .inr (.inr ⟨z, n, z.cps.toList[n], rfl, rfl, small (by omega), atI_nat (List.getElem?_eq_getElem hn), k _ H' (List.getElem_mem hn) B' e⟩)
end
end Bl

namespace Bl
open PySem L2
abbrev n_same : List Str := ["_law_found", "_law_due", "_law_a", "_law_b"]
theorem sc_same : FnScope n_same ["_law_found", "_law_due"] (defScope s_same) := ⟨rfl, rfl, rfl, by decide +kernel, rfl, by decide +kernel, by decide +kernel⟩
section
variable {P : Program} {w : World} {K : PySem.W.Frag} {mg : Str → Option Value} {base : Heap}
theorem walk_zipT {a b : Addr} {xs ys : List V} {n : Nat} (hn : n = min xs.length ys.length) : Walk (RZ.ItzT K a b) n (fun H => SqT K H a xs ∧ SqT K H b ys) (YPair (fun i => xs[i]?) (fun i => ys[i]?)) := by
  subst hn
  refine ⟨fun i _ hi q => ?_, fun _ q => ⟨xs, ys, q.1, q.2, by omega⟩, fun i H v H' _ q y => ?_⟩
  · have h1 : i < xs.length := by omega
    have h2 : i < ys.length := by omega
    exact ⟨xs, ys, xs[i], ys[i], q.1, q.2, by simp [h1], by simp [h2]⟩
  · obtain ⟨T, x, z, h1, h2, h3, h4, h5⟩ := y
    exact ⟨T, x, z, h1, h2, h3, h4 xs q.1, h5 ys q.2⟩
theorem kit_lt (d : PyData) : PySem.W.kitAny K (.type (tyN d)) [.type "list", .type "tuple"] = some (match d with | .list _ => true | .tuple _ => true | _ => false) := by
  cases d with
  | list ds => exact kitAny_cons (b := true) (kit_ty (by dsimp only [tyN]; decide +kernel)) (fun h => nomatch h) (fun _ => rfl)
  | tuple ds => exact kitAny_cons (b := false) (kit_ty (by dsimp only [tyN]; decide +kernel)) (fun _ => kitAny_cons (b := true) (kit_ty (by dsimp only [tyN]; decide +kernel)) (fun h => nomatch h) (fun _ => rfl)) (fun h => nomatch h)
  | _ => exact kitAny_cons (b := false) (kit_ty (by dsimp only [tyN]; decide +kernel)) (fun _ => kitAny_cons (b := false) (kit_ty (by dsimp only [tyN]; decide +kernel)) (fun _ => kitAny_nil) (fun h => nomatch h)) (fun h => nomatch h)
theorem ok_same0 (T : Top K w mg) : FnOk P w K mg base CX0 0 T.a_same T.d_same ["_law_found", "_law_due"] (spSame K 0) := by
  have no : ∀ vs H Q E, ¬ spSame K 0 vs H Q E := fun vs H Q E h => by
    obtain ⟨x, y, d, _, _, _, h1, _⟩ := h
    cases d <;> exact h1
  exact ⟨fun vs H Q E h => absurd h (no vs H Q E), fun A outer s H args us vs Q E _ _ _ _ h => absurd h (no vs H Q E)⟩
theorem ok_same1 (T : Top K w mg) {n : Nat} (G : FnOk P w K mg base CX0 n T.a_same T.d_same ["_law_found", "_law_due"] (spSame K n)) : FnOk P w K mg base CX0 (n + 1) T.a_same T.d_same ["_law_found", "_law_due"] (spSame K (n + 1)) := by
  refine T.F_same.ok sc_same (fun vs H Q E h => ?_) (fun cdv A outer s H vs Q E hr h => ?_)
  · obtain ⟨x, y, d, rfl, _⟩ := h
    rfl
  obtain ⟨x, y, d, rfl, hx, hy, hf, k⟩ := h
  refine ⟨_, (pss_cons (ps_if (PW.pt (pw_or (pt_cmpR op_isN (pv 1) pe_non (nomark _)) (pw_or1 (pt_cmpR op_isN (pv 0) pe_non (nomark _))))) (pss_one (ps_ret (pe_and (pe_cmpR op_isN (pv 1) pe_non (nomark _)) (pe_one (pe_cmpR op_isN (pv 0) pe_non (nomark _)))))) pss_nil)
    (pss_cons (ps_if (pt_val (pe_callB call_isiT (by rfl) T.z_isinstance (by decide +kernel) (pa_cons (pv 1) (pa_cons (pe_tup (pa_cons (pe_bltn (v := .ty "list") (by rfl) T.z_list (by decide +kernel) rfl) (pa_cons (pe_bltn (v := .ty "tuple") (by rfl) T.z_tuple (by decide +kernel) rfl) pa_nil))) pa_nil)))) (pss_cons (ps_if (PW.pt (pw_or (pt_cmpR op_ne (pe_callB call_isi (by rfl) T.z_isinstance (by decide +kernel) (pa_cons (pv 0) (pa_cons (pe_bltn (v := .ty "list") (by rfl) T.z_list (by decide +kernel) rfl) pa_nil))) (pe_callB call_isi (by rfl) T.z_isinstance (by decide +kernel) (pa_cons (pv 1) (pa_cons (pe_bltn (v := .ty "list") (by rfl) T.z_list (by decide +kernel) rfl) pa_nil))) (nomark _)) (pw_or1 (pt_cmpR op_ne (pe_callB call_isi (by rfl) T.z_isinstance (by decide +kernel) (pa_cons (pv 0) (pa_cons (pe_bltn (v := .ty "tuple") (by rfl) T.z_tuple (by decide +kernel) rfl) pa_nil))) (pe_callB call_isi (by rfl) T.z_isinstance (by decide +kernel) (pa_cons (pv 1) (pa_cons (pe_bltn (v := .ty "tuple") (by rfl) T.z_tuple (by decide +kernel) rfl) pa_nil))) (nomark _))))) (pss_one (ps_ret pe_bl)) pss_nil)
    (pss_one (ps_ret (pe_and (pe_cmpR op_eq (pe_callB call_len (by rfl) T.z_len (by decide +kernel) (pa_cons (pv 0) pa_nil)) (pe_callB call_len (by rfl) T.z_len (by decide +kernel) (pa_cons (pv 1) pa_nil)) (nomark _)) (pe_one (pe_callB (cr_all rfl) (by rfl) T.z_all (by decide +kernel) (pa_cons (pe_lc (own := [("_law_a", 2), ("_law_b", 3)]) (g := gTup K 2 (gCons (gName 2) (gCons (gName 3) gNil))) (tt := tYes) rfl sc_same.nd (RZ.pi_zipA (by rfl) T.z_zip (pa_cons (pv 0) (pa_cons (pv 1) pa_nil))) (blkOk_by (own := [("_law_a", 2), ("_law_b", 3)]) (N := n_same) (sc := defScope s_same) (by decide +kernel)) (fun _ _ _ _ _ => by exact (pg_tup rfl (pgs_cons (pg_name (i := 2) sc_same.nd rfl (Or.inl rfl)) (pgs_cons (pg_name (i := 3) sc_same.nd rfl (Or.inl rfl)) pgs_nil)))) (fun _ _ _ _ _ => pts_nil) (fun _ _ _ _ _ => (pe_call G hr rfl T.m_same T.F_same.kp T.b_same .nil pass0 (pa_cons (pv 2) (pa_cons (pv 3) pa_nil))))) pa_nil))))))) pss_nil)
    (pss_cons (ps_if (PW.pt (pw_or (pt_val (pe_callB call_isi (by rfl) T.z_isinstance (by decide +kernel) (pa_cons (pv 1) (pa_cons (pe_bltn (v := .ty "bool") (by rfl) T.z_bool (by decide +kernel) rfl) pa_nil)))) (pw_or1 (pt_val (pe_callB call_isi (by rfl) T.z_isinstance (by decide +kernel) (pa_cons (pv 0) (pa_cons (pe_bltn (v := .ty "bool") (by rfl) T.z_bool (by decide +kernel) rfl) pa_nil))))))) (pss_one (ps_ret (pe_and (pe_callB call_isi (by rfl) T.z_isinstance (by decide +kernel) (pa_cons (pv 1) (pa_cons (pe_bltn (v := .ty "bool") (by rfl) T.z_bool (by decide +kernel) rfl) pa_nil))) (pe_and (pe_callB call_isi (by rfl) T.z_isinstance (by decide +kernel) (pa_cons (pv 0) (pa_cons (pe_bltn (v := .ty "bool") (by rfl) T.z_bool (by decide +kernel) rfl) pa_nil))) (pe_one (pe_cmpR op_eq (pv 0) (pv 1) (nomark _))))))) pss_nil)
    (pss_cons (ps_if (pt_val (pe_callB call_isi (by rfl) T.z_isinstance (by decide +kernel) (pa_cons (pv 1) (pa_cons (pe_bltn (v := .ty "int") (by rfl) T.z_int (by decide +kernel) rfl) pa_nil)))) (pss_one (ps_ret (pe_and (pe_callB call_isi (by rfl) T.z_isinstance (by decide +kernel) (pa_cons (pv 0) (pa_cons (pe_bltn (v := .ty "int") (by rfl) T.z_int (by decide +kernel) rfl) pa_nil))) (pe_one (pe_cmpR op_eq (pv 0) (pv 1) (nomark _)))))) pss_nil)
    (pss_one (ps_ret (pe_and (pe_callB call_isi (by rfl) T.z_isinstance (by decide +kernel) (pa_cons (pv 0) (pa_cons (pe_bltn (v := .ty "str") (by rfl) T.z_str (by decide +kernel) rfl) pa_nil))) (pe_and (pe_callB call_isi (by rfl) T.z_isinstance (by decide +kernel) (pa_cons (pv 1) (pa_cons (pe_bltn (v := .ty "str") (by rfl) T.z_str (by decide +kernel) rfl) pa_nil))) (pe_one (pe_cmpR op_eq (pv 0) (pv 1) (nomark _))))))))))), ?_⟩
  cases d with
  | none =>
    obtain rfl : x = .non := by cases hx; rfl
    obtain rfl : y = .non := by cases hy; rfl
    refine ⟨_, rfl, rfl, _, rfl, ?_⟩
    refine iteT ?_
    refine ⟨_, rfl, rfl, _, rfl, ?_⟩
    refine iteT ?_
    refine ⟨_, rfl, rfl, ?_⟩
    exact k H (Same.refl _)
  | bool b =>
    obtain rfl : x = .bl b := by cases hx; rfl
    obtain rfl : y = .bl b := by cases hy; rfl
    refine ⟨_, rfl, rfl, _, rfl, ?_⟩
    refine iteF ?_
    refine ⟨_, rfl, rfl, _, rfl, ?_⟩
    refine iteF ?_
    refine ⟨_, rfl, (by show 2 ≤ sizeLine; decide), fun tp htp => ?_⟩
    have g := same_new htp (.tup [.ty "list", .ty "tuple"])
    have hx' := Dp.mono g _ _ hx
    refine ⟨_, tp, _, _, _, _, rfl, upd_same, .cons (.ty "list") (.cons (.ty "tuple") .nil), Dp.ty hx', kit_lt _, _, rfl, ?_⟩
    refine iteF ?_
    refine ⟨_, rfl, _, .ty "bool", _, _, _, rfl, .ty "bool", Dp.ty hx', kit_d some_bool, _, rfl, ?_⟩
    rw [isBool_eq]
    refine iteT ?_
    refine ⟨_, rfl, _, .ty "bool", _, _, _, rfl, .ty "bool", Dp.ty hx', kit_d some_bool, _, rfl, ?_⟩
    rw [isBool_eq]
    refine iteT ?_
    refine ⟨_, rfl, _, .ty "bool", _, _, _, rfl, .ty "bool", Dp.ty hx', kit_d some_bool, _, rfl, ?_⟩
    rw [isBool_eq]
    refine iteT ?_
    refine ⟨_, rfl, _, rfl, rfl, ?_⟩
    rw [decide_eq_true rfl]
    exact k _ g
  | int i =>
    obtain rfl : x = .int i := by cases hx; rfl
    obtain rfl : y = .int i := by cases hy; rfl
    refine ⟨_, rfl, rfl, _, rfl, ?_⟩
    refine iteF ?_
    refine ⟨_, rfl, rfl, _, rfl, ?_⟩
    refine iteF ?_
    refine ⟨_, rfl, (by show 2 ≤ sizeLine; decide), fun tp htp => ?_⟩
    have g := same_new htp (.tup [.ty "list", .ty "tuple"])
    have hx' := Dp.mono g _ _ hx
    refine ⟨_, tp, _, _, _, _, rfl, upd_same, .cons (.ty "list") (.cons (.ty "tuple") .nil), Dp.ty hx', kit_lt _, _, rfl, ?_⟩
    refine iteF ?_
    refine ⟨_, rfl, _, .ty "bool", _, _, _, rfl, .ty "bool", Dp.ty hx', kit_d some_bool, _, rfl, ?_⟩
    rw [isBool_eq]
    refine iteF ?_
    refine ⟨_, rfl, _, .ty "bool", _, _, _, rfl, .ty "bool", Dp.ty hx', kit_d some_bool, _, rfl, ?_⟩
    rw [isBool_eq]
    refine iteF ?_
    refine ⟨_, rfl, _, .ty "int", _, _, _, rfl, .ty "int", Dp.ty hx', kit_d some_int, _, rfl, ?_⟩
    rw [isInt_eq]
    refine iteT ?_
    refine ⟨_, rfl, _, .ty "int", _, _, _, rfl, .ty "int", Dp.ty hx', kit_d some_int, _, rfl, ?_⟩
    rw [isInt_eq]
    refine iteT ?_
    refine ⟨_, rfl, _, rfl, rfl, ?_⟩
    rw [decide_eq_true rfl]
    exact k _ g
  | str z =>
    obtain rfl : x = .str z := by cases hx; rfl
    obtain rfl : y = .str z := by cases hy; rfl
    refine ⟨_, rfl, rfl, _, rfl, ?_⟩
    refine iteF ?_
    refine ⟨_, rfl, rfl, _, rfl, ?_⟩
    refine iteF ?_
    refine ⟨_, rfl, (by show 2 ≤ sizeLine; decide), fun tp htp => ?_⟩
    have g := same_new htp (.tup [.ty "list", .ty "tuple"])
    have hx' := Dp.mono g _ _ hx
    refine ⟨_, tp, _, _, _, _, rfl, upd_same, .cons (.ty "list") (.cons (.ty "tuple") .nil), Dp.ty hx', kit_lt _, _, rfl, ?_⟩
    refine iteF ?_
    refine ⟨_, rfl, _, .ty "bool", _, _, _, rfl, .ty "bool", Dp.ty hx', kit_d some_bool, _, rfl, ?_⟩
    rw [isBool_eq]
    refine iteF ?_
    refine ⟨_, rfl, _, .ty "bool", _, _, _, rfl, .ty "bool", Dp.ty hx', kit_d some_bool, _, rfl, ?_⟩
    rw [isBool_eq]
    refine iteF ?_
    refine ⟨_, rfl, _, .ty "int", _, _, _, rfl, .ty "int", Dp.ty hx', kit_d some_int, _, rfl, ?_⟩
    rw [isInt_eq]
    refine iteF ?_
    refine ⟨_, rfl, _, .ty "str", _, _, _, rfl, .ty "str", Dp.ty hx', kit_d some_str, _, rfl, ?_⟩
    rw [isStr_eq]
    refine iteT ?_
    refine ⟨_, rfl, _, .ty "str", _, _, _, rfl, .ty "str", Dp.ty hx', kit_d some_str, _, rfl, ?_⟩
    rw [isStr_eq]
    refine iteT ?_
    refine ⟨_, rfl, _, rfl, rfl, ?_⟩
    rw [decide_eq_true rfl]
    exact k _ g
  | list ds =>
    cases hx with
    | lst hsx hax =>
    cases hy with
    | lst hsy hay =>
    rename_i ax xs ay ys
    have hx : Dp K H (.ref ax) (.list ds) := .lst hsx hax
    have hy : Dp K H (.ref ay) (.list ds) := .lst hsy hay
    refine ⟨_, rfl, rfl, _, rfl, ?_⟩
    refine iteF ?_
    refine ⟨_, rfl, rfl, _, rfl, ?_⟩
    refine iteF ?_
    refine ⟨_, rfl, (by show 2 ≤ sizeLine; decide), fun tp htp => ?_⟩
    have g := same_new htp (.tup [.ty "list", .ty "tuple"])
    have hT1 : (upd H tp (.tup [.ty "list", .ty "tuple"])) tp = some (.tup [.ty "list", .ty "tuple"]) := upd_same
    generalize upd H tp (.tup [.ty "list", .ty "tuple"]) = H1 at g hT1 ⊢
    have hx' := Dp.mono g _ _ hx
    have hy' := Dp.mono g _ _ hy
    refine ⟨_, tp, _, _, _, _, rfl, hT1, .cons (.ty "list") (.cons (.ty "tuple") .nil), Dp.ty hy', kit_lt _, _, rfl, ?_⟩
    refine iteT ?_
    refine ⟨_, rfl, _, .ty "list", _, _, _, rfl, .ty "list", Dp.ty hx', kit_d some_list, _, rfl, _, .ty "list", _, _, _, rfl, .ty "list", Dp.ty hy', kit_d some_list, rfl, _, rfl, ?_⟩
    refine iteNS rfl ?_
    refine ⟨_, rfl, _, .ty "tuple", _, _, _, rfl, .ty "tuple", Dp.ty hx', kit_d some_tuple, _, rfl, _, .ty "tuple", _, _, _, rfl, .ty "tuple", Dp.ty hy', kit_d some_tuple, rfl, _, rfl, ?_⟩
    refine iteNS rfl ?_
    have lx := DpAll.len hax
    have ly := DpAll.len hay
    refine ⟨_, rfl, _, ds.length, rfl, .inl ⟨xs, Same.seq g hsx, lx.symm⟩, _, rfl, _, ds.length, rfl, .inl ⟨ys, Same.seq g hsy, ly.symm⟩, rfl, _, rfl, ?_⟩
    rw [decide_eq_true rfl]
    refine iteT ?_
    refine ⟨_, rfl, _, rfl, ax, ay, xs, ys, rfl, .inl ⟨Same.seq g hsx, Same.seq g hsy, fun D hD => ?_⟩⟩
    refine lc_it (walk_zip (xs := xs) (ys := ys) (n := ds.length) (by omega)) (fun i H2 => Same H1 H2 ∧ H2 D = some (.lst ((List.replicate i true).map V.bl))) ⟨same_new hD _, upd_same⟩ (fun i H2 _ q => ⟨Same.seq (g.trans q.1) hsx, Same.seq (g.trans q.1) hsy⟩) ?_ ?_
    · rintro i x H2 H3 hi ⟨g2, hl⟩ ⟨Tt, u, v, rfl, hT, rfl, hu, hv⟩
      obtain ⟨d1, hd1, du⟩ := DpAll.get hax hu
      obtain ⟨d2, hd2, dv⟩ := DpAll.get hay hv
      rw [hd1] at hd2
      cases hd2
      have g3 := g.trans (g2.trans (same_new hT (.tup [u, v])))
      have hfd : Fits n d1 := hf.2 d1 (List.mem_of_getElem? hd1)
      refine ⟨Tt, _, rfl, SqT.of upd_same, rfl, _, _, rfl, _, _, rfl, rfl, rfl, ?_⟩
      refine ⟨_, rfl, _, rfl, u, v, d1, rfl, Dp.mono g3 _ _ du, Dp.mono g3 _ _ dv, hfd, fun H' g4 => ?_⟩
      have hD' : H' D = some (.lst ((List.replicate i true).map V.bl)) := g4 _ _ (by rw [upd_ne (ne_of_none hl hT)]; exact hl)
      have hlen : ((List.replicate i true).map V.bl).length < sizeLine := by
        rw [List.length_map, List.length_replicate]
        exact small' (Nat.lt_trans hi hf.1)
      refine ⟨_, hD', hlen, fun b o q => ?_, ?_⟩
      · rw [upd_ne (ne_of_none q hD)]
        exact g4 _ _ (same_new hT _ _ _ (g2 b o q))
      · rw [upd_same, List.replicate_succ', List.map_append]
        rfl
    · rintro H2 ⟨g2, hl⟩
      refine ⟨D, _, rfl, SqL.of hl, ?_⟩
      have e : (List.replicate ds.length true).all id = true := by simp
      rw [e]
      exact k H2 (g.trans g2)
  | tuple ds =>
    cases hx with
    | tup hsx hax =>
    cases hy with
    | tup hsy hay =>
    rename_i ax xs ay ys
    have hx : Dp K H (.ref ax) (.tuple ds) := .tup hsx hax
    have hy : Dp K H (.ref ay) (.tuple ds) := .tup hsy hay
    refine ⟨_, rfl, rfl, _, rfl, ?_⟩
    refine iteF ?_
    refine ⟨_, rfl, rfl, _, rfl, ?_⟩
    refine iteF ?_
    refine ⟨_, rfl, (by show 2 ≤ sizeLine; decide), fun tp htp => ?_⟩
    have g := same_new htp (.tup [.ty "list", .ty "tuple"])
    have hT1 : (upd H tp (.tup [.ty "list", .ty "tuple"])) tp = some (.tup [.ty "list", .ty "tuple"]) := upd_same
    generalize upd H tp (.tup [.ty "list", .ty "tuple"]) = H1 at g hT1 ⊢
    have hx' := Dp.mono g _ _ hx
    have hy' := Dp.mono g _ _ hy
    refine ⟨_, tp, _, _, _, _, rfl, hT1, .cons (.ty "list") (.cons (.ty "tuple") .nil), Dp.ty hy', kit_lt _, _, rfl, ?_⟩
    refine iteT ?_
    refine ⟨_, rfl, _, .ty "list", _, _, _, rfl, .ty "list", Dp.ty hx', kit_d some_list, _, rfl, _, .ty "list", _, _, _, rfl, .ty "list", Dp.ty hy', kit_d some_list, rfl, _, rfl, ?_⟩
    refine iteNS rfl ?_
    refine ⟨_, rfl, _, .ty "tuple", _, _, _, rfl, .ty "tuple", Dp.ty hx', kit_d some_tuple, _, rfl, _, .ty "tuple", _, _, _, rfl, .ty "tuple", Dp.ty hy', kit_d some_tuple, rfl, _, rfl, ?_⟩
    refine iteNS rfl ?_
    have lx := DpAll.len hax
    have ly := DpAll.len hay
    refine ⟨_, rfl, _, ds.length, rfl, .inr ⟨xs, Same.tup g hsx, lx.symm⟩, _, rfl, _, ds.length, rfl, .inr ⟨ys, Same.tup g hsy, ly.symm⟩, rfl, _, rfl, ?_⟩
    rw [decide_eq_true rfl]
    refine iteT ?_
    refine ⟨_, rfl, _, rfl, ax, ay, xs, ys, rfl, .inr ⟨Same.tup g hsx, Same.tup g hsy, fun D hD => ?_⟩⟩
    refine lc_it (walk_zipT (xs := xs) (ys := ys) (n := ds.length) (by omega)) (fun i H2 => Same H1 H2 ∧ H2 D = some (.lst ((List.replicate i true).map V.bl))) ⟨same_new hD _, upd_same⟩ (fun i H2 _ q => ⟨Same.tup (g.trans q.1) hsx, Same.tup (g.trans q.1) hsy⟩) ?_ ?_
    · rintro i x H2 H3 hi ⟨g2, hl⟩ ⟨Tt, u, v, rfl, hT, rfl, hu, hv⟩
      obtain ⟨d1, hd1, du⟩ := DpAll.get hax hu
      obtain ⟨d2, hd2, dv⟩ := DpAll.get hay hv
      rw [hd1] at hd2
      cases hd2
      have g3 := g.trans (g2.trans (same_new hT (.tup [u, v])))
      have hfd : Fits n d1 := hf.2 d1 (List.mem_of_getElem? hd1)
      refine ⟨Tt, _, rfl, SqT.of upd_same, rfl, _, _, rfl, _, _, rfl, rfl, rfl, ?_⟩
      refine ⟨_, rfl, _, rfl, u, v, d1, rfl, Dp.mono g3 _ _ du, Dp.mono g3 _ _ dv, hfd, fun H' g4 => ?_⟩
      have hD' : H' D = some (.lst ((List.replicate i true).map V.bl)) := g4 _ _ (by rw [upd_ne (ne_of_none hl hT)]; exact hl)
      have hlen : ((List.replicate i true).map V.bl).length < sizeLine := by
        rw [List.length_map, List.length_replicate]
        exact small' (Nat.lt_trans hi hf.1)
      refine ⟨_, hD', hlen, fun b o q => ?_, ?_⟩
      · rw [upd_ne (ne_of_none q hD)]
        exact g4 _ _ (same_new hT _ _ _ (g2 b o q))
      · rw [upd_same, List.replicate_succ', List.map_append]
        rfl
    · rintro H2 ⟨g2, hl⟩
      refine ⟨D, _, rfl, SqL.of hl, ?_⟩
      have e : (List.replicate ds.length true).all id = true := by simp
      rw [e]
      exact k H2 (g.trans g2)
  | dict _ => cases hx
theorem ok_same (T : Top K w mg) : ∀ n : Nat, FnOk P w K mg base CX0 n T.a_same T.d_same ["_law_found", "_law_due"] (spSame K n)
  | 0 => ok_same0 T
  | n + 1 => ok_same1 T (ok_same T n)
end
end Bl

namespace Bl
open PySem L2
open SX (S)
abbrev n_names : List Str := ["_law_box_here", "_law_many", "_law_letters", "_law_stem", "_law_spot", "_law_first", "_law_found", "_law_k", "_law_word"]
theorem sc_names : FnScope n_names ["_law_box_here", "_law_many"] (defScope s_names) := ⟨rfl, rfl, rfl, by decide +kernel, rfl, by decide +kernel, by decide +kernel⟩
section
variable {P : Program} {w : World} {K : PySem.W.Frag} {mg : Str → Option Value} {base : Heap}
theorem ok_names (T : Top K w mg) : FnOk P w K mg base CX0 3 T.a_names T.d_names ["_law_box_here", "_law_many"] (spNames K) := by
  refine T.F_names.ok sc_names (fun vs H Q E h => ?_) (fun cdv A outer s H vs Q E hr h => ?_)
  · obtain ⟨p, b, n, rfl, _⟩ := h
    rfl
  obtain ⟨p, b, n, rfl, B, hn1, hn5, k⟩ := h
  refine ⟨_, (pss_cons (ps_set (i := 2) sc_names.nd rfl (Or.inr rfl) pe_str)
    (pss_cons (ps_set (i := 3) sc_names.nd rfl (Or.inr rfl) (pe_join pe_str (pe_lc (own := [("_law_k", 7)]) (g := gName 7) (tt := tYes) rfl sc_names.nd (pi_range1 (by rfl) T.z_range (pa_cons (pe_call (ok_of T) (hr.mono (by decide)) rfl T.m_of T.F_of.kp T.b_of .nil pass0 (pa_cons (pv 0) (pa_cons (pe_lst (pa_cons pe_int (pa_cons pe_int (pa_cons pe_int (pa_cons pe_int pa_nil))))) pa_nil))) pa_nil)) (blkOk_by (own := [("_law_k", 7)]) (N := n_names) (sc := defScope s_names) (by decide +kernel)) (fun _ _ _ _ _ => (pg_name (i := 7) sc_names.nd rfl (Or.inl rfl))) (fun _ _ _ _ _ => pts_nil) (fun _ _ _ _ _ => (pe_call (ok_of T) (hr.mono (by decide)) rfl T.m_of T.F_of.kp T.b_of .nil pass0 (pa_cons (pv 0) (pa_cons (pv 2) pa_nil)))))))
    (pss_cons (ps_asg (pe_tup (pa_cons (pe_call (ok_pull T) (hr.mono (by decide)) rfl T.m_pull T.F_pull.kp T.b_pull .nil pass0 (pa_cons (pv 0) (pa_cons (pe_op op_add (pe_callB call_len_str (by rfl) T.z_len (by decide +kernel) (pa_cons (pv 3) pa_nil)) pe_int) pa_nil))) (pa_cons (pe_call (ok_pull T) (hr.mono (by decide)) rfl T.m_pull T.F_pull.kp T.b_pull .nil pass0 (pa_cons (pv 0) (pa_cons pe_int pa_nil))) pa_nil))) (pg_tup rfl (pgs_cons (pg_name (i := 4) sc_names.nd rfl (Or.inr rfl)) (pgs_cons (pg_name (i := 5) sc_names.nd rfl (Or.inr rfl)) pgs_nil))))
    (pss_cons (ps_setLc (i := 6) (own := [("_law_k", 7)]) (g := gName 7) (tt := tYes) rfl sc_names.nd rfl rfl (sw_true rfl rfl rfl (by decide +kernel)) (pi_range1 (by rfl) T.z_range (pa_cons (pe_op op_add (pv 1) pe_int) pa_nil)) (blkOk_by (own := [("_law_k", 7)]) (N := n_names) (sc := defScope s_names) (by decide +kernel)) (fun _ _ _ _ _ => (pg_name (i := 7) sc_names.nd rfl (Or.inl rfl))) (fun _ _ _ _ _ => pts_nil) (fun _ _ _ _ _ => (pe_op op_add_str (pe_op op_add_str (pe_slice sl_str (pv 3) po_none (po_some (pv 4))) (pe_ix ix_str (pv 2) (pe_op op_mod (pe_callTy call_int1 (by rfl) T.z_int (by decide +kernel) (pa_cons (pe_op op_add (pv 5) (pe_op op_mul pe_int (pv 7))) pa_nil)) pe_int) (fun _ _ => rfl))) (pe_slice sl_str (pv 3) (po_some (pv 4)) po_none))))
    (pss_one (ps_ret (pe_slice sl_list (pe_lc (own := [("_law_word", 8)]) (g := gName 8) rfl sc_names.nd (pi_list (pv 6)) (blkOk_by (own := [("_law_word", 8)]) (N := n_names) (sc := defScope s_names) (by decide +kernel)) (fun _ _ _ _ _ => (pg_name (i := 8) sc_names.nd rfl (Or.inl rfl))) (fun _ _ _ _ _ => (pts_one (pt_cmpR (r := rIn K true) op_notIn_seq (pv 8) (pe_lst (pa_cons pe_str (pa_cons pe_str (pa_cons pe_str (pa_cons pe_str pa_nil))))) rfl))) (fun _ _ _ _ _ => (pv 8))) po_none (po_some (pv 1))))))))), ?_⟩
  -- the stem
  refine ⟨⟨_, rfl⟩, _, rfl, (by show 4 ≤ sizeLine; decide), fun l hl => ?_⟩
  have B1 := B.new hl (.lst [.int 0, .int 1, .int 2, .int 5])
  have e1 : But p H _ := But.of (same_new hl (.lst [.int 0, .int 1, .int 2, .int 5]))
  refine ⟨p, b, _, rfl, B1, .inl ⟨l, _, rfl, .inl (SqL.of (hid_same (B.ne hl))), (by decide), (by decide), fun i x H1 hx B2 e2 => ?_⟩⟩
  obtain ⟨j, rfl, hj⟩ : ∃ j : Nat, x = .int (j : Int) ∧ (j = 0 ∨ j = 1 ∨ j = 2 ∨ j = 5) := by
    match i, hx with
    | 0, h => exact ⟨0, (Option.some.inj h).symm, by decide⟩
    | 1, h => exact ⟨1, (Option.some.inj h).symm, by decide⟩
    | 2, h => exact ⟨2, (Option.some.inj h).symm, by decide⟩
    | 3, h => exact ⟨5, (Option.some.inj h).symm, by decide⟩
    | n + 4, h => cases h
  have e12 : But p H H1 := Same.trans e1 e2
  clear e1 e2 B1
  refine ⟨(j : Int), rfl, by omega, by omega, fun D hD => ?_⟩
  have nD := B2.ne hD
  have nDb := B2.nl hD
  refine lc_range (lo := 0) (n := (j : Int).toNat) (fun i H2 => BoxAt H2 p b ∧ But p H1 H2 ∧ ∃ cs : List Nat, cs.length = i ∧ (∀ c ∈ cs, c ∈ alpha) ∧ H2 D = some (.lst ((cs.map fun c => S [c]).map V.str)))
    ⟨B2.new hD _, But.of (same_new hD _), [], rfl, (by intro c hc; cases hc), upd_same⟩ ?_ ?_
  · rintro i H2 hi ⟨B3, e3, cs, hcs, hlow, hd⟩
    refine ⟨rfl, _, rfl, _, rfl, p, b, _, rfl, B3, .inr ⟨_, rfl, by decide +kernel, by decide +kernel, fun c H3 hc B4 e4 => ?_⟩⟩
    have hd' : H3 D = some (.lst ((cs.map fun c => S [c]).map V.str)) := hide_le _ _ (e4 _ _ (by rw [hide_ne nD]; exact hd))
    refine ⟨_, hd', ?_, B4.mut nD nDb _, But.mut (Same.trans e3 e4) hD _, cs ++ [c], by rw [List.length_append, hcs]; rfl, ?_, ?_⟩
    · rw [List.length_map, List.length_map]
      exact small' (by omega)
    · intro x hx
      rcases List.mem_append.mp hx with h | h
      · exact hlow x h
      · rw [List.mem_singleton.mp h, ← alpha_eq]
        exact hc
    · rw [upd_same, List.map_append, List.map_append]
      rfl
  · rintro H2 ⟨B3, e3, cs, hcs, hlow, hd⟩
    rw [Int.toNat_natCast] at hcs
    refine ⟨_, D, cs.map fun c => S [c], rfl, rfl, .inl (SqL.of hd), ?_, ?_⟩
    · have h1 : ∀ l : List Nat, ((l.map fun c => S [c]).map (·.length)).sum = l.length := by
        intro l
        induction l with
        | nil => rfl
        | cons c l ih =>
          rw [List.map_cons, List.map_cons, List.sum_cons, ih, List.length_cons]
          show 1 + l.length = l.length + 1
          omega
      rw [h1, show ("" : Str).length = 0 by decide +kernel, Nat.mul_zero]
      omega
    rw [join_one]
    have e123 : But p H H2 := Same.trans e12 e3
    -- spot, first
    refine ⟨_, rfl, _, rfl, _, rfl, small (by rw [SX.S_len]; omega), _, _, rfl, rfl, ?_⟩
    refine ⟨p, b, _, rfl, B3, by omega, by rw [SX.S_len]; omega, fun sp H3 hsp0 hsp1 B4 e4 => ?_⟩
    refine ⟨_, rfl, p, b, _, rfl, B4, by decide, by decide, fun fi H4 hf0 hf1 B5 e5 => ?_⟩
    obtain ⟨sp, rfl⟩ := Int.eq_ofNat_of_zero_le hsp0
    obtain ⟨f, rfl⟩ := Int.eq_ofNat_of_zero_le hf0
    rw [SX.S_len] at hsp1
    have hsp : sp ≤ cs.length := by omega
    refine ⟨(by show 2 ≤ sizeLine; decide), fun t ht => ?_⟩
    have B6 := B5.new ht (.tup [.int sp, .int f])
    have e6 : But p H _ := Same.trans e123 (Same.trans e4 (Same.trans e5 (But.of (same_new ht (.tup [.int sp, .int f])))))
    have ht1 : (upd H4 t (.tup [.int sp, .int f])) t = some (.tup [.int sp, .int f]) := upd_same
    refine ⟨t, _, rfl, SqT.of ht1, rfl, _, _, rfl, _, _, rfl, rfl, ?_⟩
    show tSeq _ _ _ _ (upd H4 t (.tup [.int sp, .int f]))
    generalize (upd H4 t (.tup [.int sp, .int f])) = H5 at B6 e6 ⊢
    -- the words
    refine ⟨_, rfl, _, _, rfl, rfl, _, rfl, (by omega), (by omega), fun D2 hD2 => ?_⟩
    refine lc_range (lo := 0) (n := ((n : Int) + 2).toNat) (fun i H2 => Same H5 H2 ∧ H2 D2 = some (.lst (((List.range i).map (wd cs sp f)).map nameV))) ⟨same_new hD2 _, upd_same⟩ ?_ ?_
    · rintro i H6 hi ⟨g, hd6⟩
      have hidx : ((f : Int) + 7 * (0 + (i : Int))) % 26 = (((f + 7 * i) % 26 : Nat) : Int) := by omega
      have hlt : (f + 7 * i) % 26 < 26 := Nat.mod_lt _ (by decide)
      refine ⟨rfl, _, rfl, _, rfl, _, rfl, _, rfl, small (by rw [SX.S_len]; omega), ?_⟩
      refine ⟨_, rfl, _, rfl, _, rfl, _, _, rfl, rfl, .inl (by constructor <;> decide), _, _, rfl, rfl, .inl ⟨_, rfl, _, _, rfl, rfl, (by show (0 : Int) < 26; decide), ?_⟩⟩
      refine ⟨_, _, alpha.getD ((f + 7 * i) % 26) 0, rfl, rfl, (by decide +kernel), ?_, ?_⟩
      · rw [hidx, alpha_eq]
        exact atI_nat (alpha_at _ hlt)
      · rw [cut_pre hsp]
        refine ⟨_, _, rfl, rfl, ?_, ?_⟩
        · rw [SX.S_len, List.length_take]
          show min sp cs.length + 1 ≤ sizeLine
          exact small (by omega)
        refine ⟨_, rfl, _, rfl, _, rfl, _, rfl, small (by rw [SX.S_len]; omega), ?_⟩
        rw [cut_suf hsp]
        have ew : S (cs.take sp) ++ (⟨#[alpha.getD ((f + 7 * i) % 26) 0]⟩ : Str) ++ S (cs.drop sp) = S (wd cs sp f i) := by
          show S (cs.take sp) ++ S [alpha.getD ((f + 7 * i) % 26) 0] ++ S (cs.drop sp) = _
          rw [SX.S_cat, SX.S_cat, List.append_assoc]
          rfl
        refine ⟨_, _, rfl, rfl, ?_, ?_⟩
        · have h1 : (S (cs.take sp) ++ (⟨#[alpha.getD ((f + 7 * i) % 26) 0]⟩ : Str)).length = min sp cs.length + 1 := by
            show (S (cs.take sp) ++ S [alpha.getD ((f + 7 * i) % 26) 0]).length = _
            rw [SX.S_cat, SX.S_len, List.length_append, List.length_take]
            rfl
          rw [h1, SX.S_len, List.length_drop]
          exact small (by omega)
        · rw [ew]
          refine ⟨_, hd6, ?_, Same.mut g hD2 _, ?_⟩
          · rw [List.length_map, List.length_map, List.length_range]
            exact small' (by omega)
          · rw [upd_same, List.range_succ, List.map_append, List.map_append]
            rfl
    rintro H6 ⟨g6, hd6⟩
    rw [show ((n : Int) + 2).toNat = n + 2 by omega] at hd6
    obtain ⟨hz1, hz2, hz3, hz4⟩ := wds_names (sp := sp) (f := f) hn5 hlow (by omega)
    -- those let
    refine ⟨_, rfl, D2, rfl, ⟨_, SqL.of hd6⟩, fun D3 hD3 => ?_⟩
    refine lc_list (K := K) (a := D2) (xs := (wds cs sp f (n + 2)).map nameV) (fun i H2 => Same H6 H2 ∧ H2 D3 = some (.lst ((((wds cs sp f (n + 2)).take i).filter keepB).map nameV))) ⟨same_new hD3 _, upd_same⟩ (fun i H2 _ q => q.1.seq (SqL.of hd6)) ?_ ?_
    · rintro i x H7 hx ⟨g, hd7⟩
      rw [List.getElem?_map] at hx
      obtain ⟨z, hz, rfl⟩ : ∃ z, (wds cs sp f (n + 2))[i]? = some z ∧ x = nameV z := by
        cases e : (wds cs sp f (n + 2))[i]? with
        | none => rw [e] at hx; cases hx
        | some z => rw [e] at hx; exact ⟨z, rfl, (Option.some.inj hx).symm⟩
      refine ⟨rfl, _, rfl, (by show 4 ≤ sizeLine; decide), fun l4 hl4 => ?_⟩
      have g8 := g.trans (same_new hl4 (.lst bads))
      have hd8 : (upd H7 l4 (.lst bads)) D3 = some (.lst ((((wds cs sp f (n + 2)).take i).filter keepB).map nameV)) := by
        rw [upd_ne (ne_of_none hd7 hl4)]
        exact hd7
      refine ⟨l4, bads, rfl, .inl (SqL.of upd_same), rfl, rfl, _, rfl, ?_⟩
      show if (!inV (.str (S z)) bads) = true then _ else _
      rw [inV_bads]
      have ef : ((wds cs sp f (n + 2)).take (i + 1)).filter keepB = ((wds cs sp f (n + 2)).take i).filter keepB ++ (if keepB z = true then [z] else []) := by
        rw [List.take_add_one, hz, List.filter_append]
        congr 1
        by_cases hk : keepB z = true
        · rw [if_pos hk]
          exact List.filter_cons_of_pos hk
        · rw [if_neg hk]
          exact List.filter_cons_of_neg hk
      refine ite2 (fun hk => ?_) (fun hk => ?_)
      · have hk' : keepB z = true := hk
        rw [if_pos hk'] at ef
        refine ⟨_, rfl, _, hd8, ?_, Same.mut g8 hD3 _, ?_⟩
        · rw [List.length_map]
          have h1 := List.length_filter_le keepB ((wds cs sp f (n + 2)).take i)
          have h2 : ((wds cs sp f (n + 2)).take i).length ≤ n + 2 := by
            rw [List.length_take]
            unfold wds
            rw [List.length_map, List.length_range]
            omega
          exact small' (by omega)
        · rw [upd_same, ef, List.map_append]
          rfl
      · have hk' : ¬ keepB z = true := hk
        rw [if_neg hk', List.append_nil] at ef
        refine ⟨g8, ?_⟩
        rw [ef]
        exact hd8
    · rintro H7 ⟨g7, hd7⟩
      rw [List.length_map, List.take_of_length_le (Nat.le_refl _)] at hd7
      refine ⟨_, rfl, _, rfl, D3, _, rfl, SqL.of hd7, fun q hq => ?_⟩
      rw [cutV_pre, ← List.map_take]
      have B7 := (B6.mono g6).mono g7
      have e7 : But p H H7 := Same.trans e6 (But.of (g6.trans g7))
      refine k q _ _ hz1 hz2 hz3 ⟨_, hz4⟩ ?_ (B7.ne hq) upd_same (B7.new hq _) (Same.trans e7 (But.of (same_new hq _)))
      exact e7.free (hide_free hq)
end
end Bl

namespace Bl
open PySem L2
abbrev n_is_name : List Str := ["value", "letter"]
theorem sc_is_name : FnScope n_is_name ["value"] (defScope s_is_name) := ⟨rfl, rfl, rfl, by decide +kernel, rfl, by decide +kernel, by decide +kernel⟩
section
variable {P : Program} {w : World} {K : PySem.W.Frag} {mg : Str → Option Value} {base : Heap}
theorem ok_is_name (T : Top K w mg) : FnOk P w K mg base CX0 1 T.a_is_name T.d_is_name ["value"] (spIsName K) := by
  refine T.F_is_name.ok sc_is_name (fun vs H Q E h => ?_) (fun cdv A outer s H vs Q E hr h => ?_)
  · obtain ⟨v, d, rfl, _⟩ := h
    rfl
  obtain ⟨v, d, rfl, hd, hz, k⟩ := h
  refine ⟨_, (pss_cons (ps_if (PW.pt (pw_or (pt_not (pt_val (pe_callB call_isi (by rfl) T.z_isinstance (by decide +kernel) (pa_cons (pv 0) (pa_cons (pe_bltn (v := .ty "str") (by rfl) T.z_str (by decide +kernel) rfl) pa_nil))))) (pw_or1 (pt_not (pt_chain op_le op_le pe_int (pe_callB call_len_str (by rfl) T.z_len (by decide +kernel) (pa_cons (pv 0) pa_nil)) (pe_glob rfl T.c_LONGEST_NAME T.r_LONGEST_NAME)))))) (pss_one (ps_ret pe_bl)) pss_nil)
    (pss_one (ps_ret (pe_callB (cr_all rfl) (by rfl) T.z_all (by decide +kernel) (pa_cons (pe_lc (own := [("letter", 1)]) (g := gName 1) (tt := tYes) rfl sc_is_name.nd (pi_str (pv 0)) (blkOk_by (own := [("letter", 1)]) (N := n_is_name) (sc := defScope s_is_name) (by decide +kernel)) (fun _ _ _ _ _ => (pg_name (i := 1) sc_is_name.nd rfl (Or.inl rfl))) (fun _ _ _ _ _ => pts_nil) (fun _ _ _ _ _ => (pe_cmpR op_in_sign (pv 1) (pe_glob rfl T.c_LETTERS T.r_LETTERS) rfl))) pa_nil))))), ?_⟩
  refine ⟨_, rfl, v, .ty "str", _, _, _, rfl, .ty "str", Dp.ty hd, kit_d some_str, _, rfl, ?_⟩
  rw [isStr_eq]
  cases d with
  | str z =>
    obtain rfl : v = .str z := by cases hd; rfl
    have hz1 := hz z rfl
    refine iteF ?_
    refine ⟨_, rfl, z, rfl, small (by omega), _, _, rfl, rfl, _, rfl, ?_⟩
    refine ite2 (fun h1 => ?_) (fun h1 => ?_)
    · refine ⟨_, _, rfl, rfl, _, rfl, ?_⟩
      have h1' : 1 ≤ z.length := by have := of_decide_eq_true h1; omega
      by_cases h2 : z.length ≤ 6
      · rw [decide_eq_true (show (z.length : Int) ≤ 6 by omega)]
        refine iteF ?_
        refine ⟨_, rfl, z, rfl, fun D hD => ?_⟩
        refine lc_it (walk_str (z := z)) (fun i H2 => Same H H2 ∧ H2 D = some (.lst (((z.cps.toList.take i).map (fun c => decide (c ∈ alpha))).map V.bl))) ⟨same_new hD _, upd_same⟩ (fun _ _ _ _ => True.intro) ?_ ?_
        · rintro i x H2 H3 hi ⟨g, hl⟩ ⟨rfl, c, hc, rfl⟩
          have hc2 : z.cps.toList[i]? = some c := by rw [Array.getElem?_toList]; exact hc
          have hlen : (((z.cps.toList.take i).map (fun c => decide (c ∈ alpha))).map V.bl).length < sizeLine := by
            rw [List.length_map, List.length_map, List.length_take]
            have h3 : z.cps.size ≤ 6 := h2
            exact small' (by omega)
          refine ⟨rfl, _, rfl, c, _, rfl, rfl, _, hl, hlen, fun b o q => ?_, ?_⟩
          · rw [upd_ne (ne_of_none q hD)]
            exact g b o q
          · rw [upd_same, alpha_eq, List.take_add_one, hc2]
            simp
        · rintro H2 ⟨g, hl⟩
          refine ⟨D, _, rfl, SqL.of hl, ?_⟩
          have e : (((z.cps.toList.take z.cps.size).map (fun c => decide (c ∈ alpha))).all id) = nameD (.str z) := by
            show _ = (decide (1 ≤ z.length) && decide (z.length ≤ 6) && z.cps.toList.all (fun c => decide (c ∈ alpha)))
            rw [decide_eq_true h1', decide_eq_true h2, Bool.true_and, Bool.true_and, List.take_of_length_le (by rw [Array.length_toList]; exact Nat.le_refl _), List.all_map]
            rfl
          rw [e]
          exact k H2 g
      · rw [decide_eq_false (show ¬ (z.length : Int) ≤ 6 by omega)]
        refine iteT ?_
        have e : nameD (.str z) = false := by
          show (decide (1 ≤ z.length) && decide (z.length ≤ 6) && _) = false
          rw [decide_eq_false h2, Bool.and_false, Bool.false_and]
        rw [← e]
        exact k H (Same.refl _)
    · refine ⟨_, rfl, ?_⟩
      refine iteT ?_
      have e : nameD (.str z) = false := by
        show (decide (1 ≤ z.length) && _ && _) = false
        rw [decide_eq_false (by intro q; exact h1 (decide_eq_true (by omega))), Bool.false_and, Bool.false_and]
      rw [← e]
      exact k H (Same.refl _)
  | _ => exact iteT (k H (Same.refl _))
end
end Bl

namespace Bl
open PySem L2
open SX (S)
abbrev n_free_test : List Str := ["_law_box_here", "_law_words", "_law_deep", "_law_column", "_law_way", "_law_part", "_law_other"]
theorem sc_free_test : FnScope n_free_test ["_law_box_here", "_law_words", "_law_deep"] (defScope s_free_test) := ⟨rfl, rfl, rfl, by decide +kernel, rfl, by decide +kernel, by decide +kernel⟩
section
variable {P : Program} {w : World} {K : PySem.W.Frag} {mg : Str → Option Value} {base : Heap}
theorem ok_free0 (T : Top K w mg) : FnOk P w K mg base CX0 2 T.a_free_test T.d_free_test ["_law_box_here", "_law_words", "_law_deep"] (spFree K 0) := by
  have no : ∀ vs H Q E, ¬ spFree K 0 vs H Q E := fun vs H Q E h => by
    obtain ⟨p, l, q, w0, w1, w2, w3, w4, d, _, _, _, _, _, h1, h2, _⟩ := h
    omega
  exact ⟨fun vs H Q E h => absurd h (no vs H Q E), fun A outer s H args us vs Q E _ _ _ _ h => absurd h (no vs H Q E)⟩
theorem ok_free1 (T : Top K w mg) {n : Nat} (G : FnOk P w K mg base CX0 (n + 2) T.a_free_test T.d_free_test ["_law_box_here", "_law_words", "_law_deep"] (spFree K n)) : FnOk P w K mg base CX0 (n + 3) T.a_free_test T.d_free_test ["_law_box_here", "_law_words", "_law_deep"] (spFree K (n + 1)) := by
  refine T.F_free_test.ok sc_free_test (fun vs H Q E h => ?_) (fun cdv A outer s H vs Q E hr h => ?_)
  · obtain ⟨p, l, q, w0, w1, w2, w3, w4, d, rfl, _⟩ := h
    rfl
  obtain ⟨p, l, q, w0, w1, w2, w3, w4, d, rfl, B, hq, hl0, hl2, hd1, hdn, k⟩ := h
  have hqp : q ≠ p := by
    rintro rfl
    rw [hide_at] at hq
    cases hq
  have sq : ∀ {H'}, But p H H' → SqL K H' q [nameV w0, nameV w1, nameV w2, nameV w3, nameV w4] := fun e => SqL.of (hide_le _ _ (e _ _ hq))
  refine ⟨_, (pss_cons (ps_if (pt_cmpR op_eq (pv 2) pe_int (nomark _)) (pss_cons (ps_set (i := 3) sc_free_test.nd rfl (Or.inl rfl) (pe_call (ok_of T) (hr.mono (by omega)) rfl T.m_of T.F_of.kp T.b_of .nil pass0 (pa_cons (pv 0) (pa_cons (pe_lst (pa_cons (pe_ix ix_list (pv 1) pe_int (fun _ _ => rfl)) (pa_cons (pe_ix ix_list (pv 1) pe_int (fun _ _ => rfl)) (pa_cons (pe_op op_add_str (pe_op op_add_str (pe_ix ix_list (pv 1) pe_int (fun _ _ => rfl)) pe_str) (pe_ix ix_list (pv 1) pe_int (fun _ _ => rfl))) pa_nil)))) pa_nil))))
    (pss_one (ps_ret (pe_ifExp (pt_cmpR op_gt (pe_call (ok_pull T) (hr.mono (by omega)) rfl T.m_pull T.F_pull.kp T.b_pull .nil pass0 (pa_cons (pv 0) (pa_cons pe_int pa_nil))) pe_int (nomark _)) (pe_tup (pa_cons pe_str (pa_cons (pv 3) (pa_cons (pe_ix ix_list (pv 1) pe_int (fun _ _ => rfl)) pa_nil)))) (pe_tup (pa_cons pe_str (pa_cons (pe_ix ix_list (pv 1) pe_int (fun _ _ => rfl)) pa_nil))))))) pss_nil)
    (pss_cons (ps_par (i := 4) (j := 5) (by rfl) sc_free_test.nd rfl rfl (by decide) rfl rfl (pa_cons (pe_call (ok_pull T) (hr.mono (by omega)) rfl T.m_pull T.F_pull.kp T.b_pull .nil pass0 (pa_cons (pv 0) (pa_cons pe_int pa_nil))) (pa_cons (pe_call G hr rfl T.m_free_test T.F_free_test.kp T.b_free_test .nil pass0 (pa_cons (pv 0) (pa_cons (pv 1) (pa_cons (pe_op op_sub (pv 2) pe_int) pa_nil)))) pa_nil)) (by rfl))
    (pss_cons (ps_if (pt_cmpR op_eq (pv 4) pe_int (nomark _)) (pss_one (ps_ret (pe_tup (pa_cons pe_str (pa_cons (pv 5) pa_nil))))) pss_nil)
    (pss_cons (ps_set (i := 6) sc_free_test.nd rfl (Or.inl rfl) (pe_call G hr rfl T.m_free_test T.F_free_test.kp T.b_free_test .nil pass0 (pa_cons (pv 0) (pa_cons (pv 1) (pa_cons (pe_op op_add pe_int (pe_call (ok_pull T) (hr.mono (by omega)) rfl T.m_pull T.F_pull.kp T.b_pull .nil pass0 (pa_cons (pv 0) (pa_cons (pe_callB (call_min2 rfl) (by rfl) T.z_min (by decide +kernel) (pa_cons (pe_op op_sub (pv 2) pe_int) (pa_cons pe_int pa_nil))) pa_nil)))) pa_nil)))))
    (pss_one (ps_ret (pe_ifExp (pt_cmpR op_eq (pe_call (ok_pull T) (hr.mono (by omega)) rfl T.m_pull T.F_pull.kp T.b_pull .nil pass0 (pa_cons (pv 0) (pa_cons pe_int pa_nil))) pe_int (nomark _)) (pe_tup (pa_cons (pe_ix ix_list (pe_lst (pa_cons pe_str (pa_cons pe_str pa_nil))) (pe_op op_sub (pv 4) pe_int) (fun _ _ => rfl)) (pa_cons (pv 5) (pa_cons (pv 6) pa_nil)))) (pe_tup (pa_cons (pe_ix ix_list (pe_lst (pa_cons pe_str (pa_cons pe_str pa_nil))) (pe_op op_sub (pv 4) pe_int) (fun _ _ => rfl)) (pa_cons (pv 6) (pa_cons (pv 5) pa_nil))))))))))), ?_⟩
  refine ⟨_, rfl, rfl, _, rfl, ?_⟩
  have s0 := sq (Same.refl _)
  refine ite2 (fun hd => ?_) (fun hd => ?_)
  · -- a leaf
    have hd' : d = 1 := by
      have := V.int.inj (of_decide_eq_true hd)
      omega
    subst hd'
    refine ⟨_, rfl, _, rfl, q, _, _, _, rfl, rfl, s0, rfl, _, rfl, q, _, _, _, rfl, rfl, s0, rfl, _, rfl, q, _, _, _, rfl, rfl, s0, rfl, ?_⟩
    refine ⟨_, _, rfl, rfl, ?_, ?_⟩
    · show (S w2).length + 1 ≤ sizeLine
      rw [SX.S_len]
      exact small (by omega)
    refine ⟨_, rfl, q, _, _, _, rfl, rfl, s0, rfl, ?_⟩
    have ed : S w2 ++ ("." : Str) = S (w2 ++ [46]) := by
      rw [show ("." : Str) = S [46] by decide +kernel, SX.S_cat]
    refine ⟨_, _, rfl, rfl, ?_, ?_⟩
    · rw [ed, SX.S_len, SX.S_len, List.length_append]
      show w2.length + 1 + w0.length ≤ sizeLine
      exact small (by omega)
    rw [ed, SX.S_cat]
    have ew : w2 ++ [46] ++ w0 = w2 ++ 46 :: w0 := by rw [List.append_assoc]; rfl
    rw [ew]
    refine ⟨(by show 3 ≤ sizeLine; decide), fun c hc => ?_⟩
    have B1 := B.new hc (.lst [nameV w0, nameV w1, nameV (w2 ++ 46 :: w0)])
    have e1 : But p H _ := But.of (same_new hc (.lst [nameV w0, nameV w1, nameV (w2 ++ 46 :: w0)]))
    refine ⟨p, l, .ref c, rfl, B1, .inl ⟨c, _, rfl, .inl (SqL.of (hid_same (B.ne hc))), (by show 0 < 3; decide), (by show 3 < 1000000; decide), fun i x H1 hx B2 e2 => ?_⟩⟩
    obtain ⟨cl, hcl, rfl⟩ : ∃ cl, cl ∈ [w0, w1, w2 ++ 46 :: w0] ∧ x = nameV cl := by
      match i, hx with
      | 0, h => exact ⟨w0, List.mem_cons_self, (Option.some.inj h).symm⟩
      | 1, h => exact ⟨w1, List.mem_cons_of_mem _ List.mem_cons_self, (Option.some.inj h).symm⟩
      | 2, h => exact ⟨w2 ++ 46 :: w0, List.mem_cons_of_mem _ (List.mem_cons_of_mem _ List.mem_cons_self), (Option.some.inj h).symm⟩
      | i + 3, h => cases h
    refine ⟨_, rfl, p, l, 3, rfl, B2, by decide, by decide, fun g H2 _ _ B3 e3 => ?_⟩
    refine ⟨_, _, rfl, rfl, _, rfl, ?_⟩
    have e03 := Same.trans e1 (Same.trans e2 e3)
    have s3 := sq e03
    refine ite2 (fun _ => ?_) (fun _ => ?_)
    · refine ⟨_, rfl, _, rfl, q, _, _, _, rfl, rfl, s3, rfl, (by show 3 ≤ sizeLine; decide), fun t ht => ?_⟩
      refine k _ (.is cl w3) _ rfl ⟨hcl, rfl⟩ (.tup (SqT.of (hid_same (B3.ne ht))) (.cons (.str _) (.cons (.str _) (.cons (.str _) .nil)))) (B3.new ht _) (Same.trans e03 (But.of (same_new ht _)))
    · refine ⟨_, rfl, q, _, _, _, rfl, rfl, s3, rfl, (by show 2 ≤ sizeLine; decide), fun t ht => ?_⟩
      refine k _ (.has w4) _ rfl rfl (.tup (SqT.of (hid_same (B3.ne ht))) (.cons (.str _) (.cons (.str _) .nil))) (B3.new ht _) (Same.trans e03 (But.of (same_new ht _)))
  · -- a node
    have hd' : 2 ≤ d := by
      have h1 : d ≠ 1 := by
        rintro rfl
        exact hd rfl
      omega
    refine ⟨_, rfl, p, l, 3, rfl, B, by decide, by decide, fun way H1 hw0 hw3 B1 e1 => ?_⟩
    refine ⟨_, rfl, _, rfl, _, rfl, _, _, rfl, rfl, p, l, q, w0, w1, w2, w3, w4, d - 1, ?_, B1, e1 _ _ hq, hl0, hl2, by omega, by omega, fun v t H2 hdt hov hv B2 e2 => ?_⟩
    · show [V.ref p, V.ref q, V.int ((d : Int) - 1)] = _
      rw [show ((d : Int) - 1) = ((d - 1 : Nat) : Int) by omega]
    have e12 := Same.trans e1 e2
    refine ⟨_, _, rfl, ?_⟩
    refine ⟨_, rfl, rfl, _, rfl, ?_⟩
    refine ite2 (fun _ => ?_) (fun hw => ?_)
    · refine ⟨_, rfl, (by show 2 ≤ sizeLine; decide), fun b hb => ?_⟩
      refine k _ (.neg t) _ (by show t.deep + 1 = d; omega) hov (.tup (SqT.of (hid_same (B2.ne hb))) (.cons (.str _) (.cons (Dp.mono (hide_mono (same_new hb _)) _ _ hv) .nil))) (B2.new hb _) (Same.trans e12 (But.of (same_new hb _)))
    have hw' : way = 1 ∨ way = 2 := by
      have h1 : way ≠ 0 := by
        rintro rfl
        exact hw rfl
      omega
    refine ⟨_, rfl, _, rfl, _, rfl, _, rfl, _, _, rfl, rfl, _, _, rfl, ?_⟩
    have hm : (if (2 : Int) < (d : Int) - 1 then (2 : Int) else (d : Int) - 1) = ((min (d - 1) 2 : Nat) : Int) := by
      by_cases h : (2 : Int) < (d : Int) - 1
      · rw [if_pos h]
        omega
      · rw [if_neg h]
        omega
    rw [hm]
    refine ⟨p, l, _, rfl, B2, by omega, by omega, fun m H3 hm0 hm1 B3 e3 => ?_⟩
    obtain ⟨m, rfl⟩ := Int.eq_ofNat_of_zero_le hm0
    have e13 := Same.trans e12 e3
    refine ⟨_, _, rfl, rfl, p, l, q, w0, w1, w2, w3, w4, 1 + m, ?_, B3, e13 _ _ hq, hl0, hl2, by omega, by omega, fun v2 t2 H4 hdt2 hov2 hv2 B4 e4 => ?_⟩
    · show [V.ref p, V.ref q, V.int (1 + (m : Int))] = _
      rw [show (1 + (m : Int)) = ((1 + m : Nat) : Int) by omega]
    have e14 := Same.trans e13 e4
    have hv4 := Dp.mono (Same.trans e3 e4) _ _ hv
    refine ⟨_, rfl, p, l, 2, rfl, B4, by decide, by decide, fun g H5 _ _ B5 e5 => ?_⟩
    have e15 := Same.trans e14 e5
    have hv5 := Dp.mono e5 _ _ hv4
    have hv25 := Dp.mono e5 _ _ hv2
    refine ⟨rfl, _, rfl, ?_⟩
    have hat : ∃ o : Bool, atI ([.str "and", .str "or"] : List V) (way - 1) = some (.str (twoS o)) := by
      rcases hw' with rfl | rfl
      · exact ⟨true, rfl⟩
      · exact ⟨false, rfl⟩
    obtain ⟨o, hat⟩ := hat
    refine ite2 (fun _ => ?_) (fun _ => ?_)
    · refine ⟨(by show 2 ≤ sizeLine; decide), fun c hc => ⟨_, rfl, _, _, rfl, rfl, c, _, _, _, rfl, rfl, SqL.of upd_same, hat, _, rfl, _, rfl, (by show 3 ≤ sizeLine; decide), fun b hb => ?_⟩⟩
      have s6 := (same_new hc (.lst [.str "and", .str "or"])).trans (same_new hb (.tup [.str (twoS o), v, v2]))
      have B6 := B5.new hc (.lst [.str "and", .str "or"])
      refine k _ (.two o t t2) _ (by show max t.deep t2.deep + 1 = d; omega) ⟨hov, hov2⟩ (.tup (SqT.of (hid_same (B6.ne hb))) (.cons (.str _) (.cons (Dp.mono (hide_mono s6) _ _ hv5) (.cons (Dp.mono (hide_mono s6) _ _ hv25) .nil)))) (B6.new hb _) (Same.trans e15 (But.of s6))
    · refine ⟨(by show 2 ≤ sizeLine; decide), fun c hc => ⟨_, rfl, _, _, rfl, rfl, c, _, _, _, rfl, rfl, SqL.of upd_same, hat, _, rfl, _, rfl, (by show 3 ≤ sizeLine; decide), fun b hb => ?_⟩⟩
      have s6 := (same_new hc (.lst [.str "and", .str "or"])).trans (same_new hb (.tup [.str (twoS o), v2, v]))
      have B6 := B5.new hc (.lst [.str "and", .str "or"])
      refine k _ (.two o t2 t) _ (by show max t2.deep t.deep + 1 = d; omega) ⟨hov2, hov⟩ (.tup (SqT.of (hid_same (B6.ne hb))) (.cons (.str _) (.cons (Dp.mono (hide_mono s6) _ _ hv25) (.cons (Dp.mono (hide_mono s6) _ _ hv5) .nil)))) (B6.new hb _) (Same.trans e15 (But.of s6))
theorem ok_free (T : Top K w mg) : ∀ n : Nat, FnOk P w K mg base CX0 (n + 2) T.a_free_test T.d_free_test ["_law_box_here", "_law_words", "_law_deep"] (spFree K n)
  | 0 => ok_free0 T
  | n + 1 => ok_free1 T (ok_free T n)
end
end Bl

namespace Bl
open PySem L2
abbrev n_odd : List Str := ["_law_box_here", "_law_more"]
theorem sc_odd : FnScope n_odd ["_law_box_here", "_law_more"] (defScope s_odd) := ⟨rfl, rfl, rfl, by decide +kernel, rfl, by decide +kernel, by decide +kernel⟩
section
variable {P : Program} {w : World} {K : PySem.W.Frag} {mg : Str → Option Value} {base : Heap}
def oddV (t1 l1 t0 : Addr) : List V := [.non, .bl true, .bl false, .str "", .str "A", .str "a1", .str "sevenst", .int (-1), .int 7, .ref t1, .ref l1, .ref t0, .int (10 ^ 14)]
theorem DpAll.len' {K : PySem.W.Frag} {H : Hp} {ds : List PyData} {vs : List V} (h : DpAll K H vs ds) : ds.length = vs.length := (DpAll.len h).symm
theorem ok_odd (T : Top K w mg) : FnOk P w K mg base CX0 3 T.a_odd T.d_odd ["_law_box_here", "_law_more"] (spOdd K) := by
  refine T.F_odd.ok sc_odd (fun vs H Q E h => ?_) (fun cdv A outer s H vs Q E hr h => ?_)
  · obtain ⟨p, l, q, ys, ds, rfl, _⟩ := h
    rfl
  obtain ⟨p, l, q, ys, ds, rfl, B, hq, hqp, hds, hlen, k⟩ := h
  refine ⟨_, (pss_one (ps_ret (pe_call (ok_of T) (hr.mono (by decide)) rfl T.m_of T.F_of.kp T.b_of .nil pass0 (pa_cons (pv 0) (pa_cons (pe_op op_cat (pe_lst (pa_cons pe_non (pa_cons pe_bl (pa_cons pe_bl (pa_cons pe_str (pa_cons pe_str (pa_cons pe_str (pa_cons pe_str (pa_cons (pe_un un_neg pe_int) (pa_cons pe_int (pa_cons (pe_tup (pa_cons pe_int (pa_cons pe_str pa_nil))) (pa_cons (pe_lst (pa_cons pe_int pa_nil)) (pa_cons (pe_tup pa_nil) (pa_cons (pe_op op_pow pe_int pe_int) pa_nil)))))))))))))) (pv 1)) pa_nil))))), ?_⟩
  refine ⟨_, rfl, _, rfl, (by show 2 ≤ sizeLine; decide), fun t1 h1 => ⟨(by show 1 ≤ sizeLine; decide), fun l1 h2 => ⟨(by show 0 ≤ sizeLine; decide), fun t0 h3 => ?_⟩⟩⟩
  have B1 := B.new h1 (.tup [.int 1, .str "a"])
  have B2 := B1.new h2 (.lst [.int 1])
  have B3 := B2.new h3 (.tup [])
  have e1 := same_new h1 (.tup [.int 1, .str "a"])
  have e2 := same_new h2 (.lst [.int 1])
  have e3 := same_new h3 (.tup [])
  have n1 := B.ne h1
  have n2 := B1.ne h2
  have n3 := B2.ne h3
  have f1 : hide p (upd H t1 (.tup [.int 1, .str "a"])) t1 = some (.tup [.int 1, .str "a"]) := hid_same n1
  have f2 : hide p (upd (upd H t1 (.tup [.int 1, .str "a"])) l1 (.lst [.int 1])) l1 = some (.lst [.int 1]) := hid_same n2
  have f3 : hide p (upd (upd (upd H t1 (.tup [.int 1, .str "a"])) l1 (.lst [.int 1])) t0 (.tup [])) t0 = some (.tup []) := hid_same n3
  generalize (upd (upd (upd H t1 (.tup [.int 1, .str "a"])) l1 (.lst [.int 1])) t0 (.tup [])) = H3 at *
  generalize (upd (upd H t1 (.tup [.int 1, .str "a"])) l1 (.lst [.int 1])) = H2 at *
  generalize (upd H t1 (.tup [.int 1, .str "a"])) = H1 at *
  refine ⟨_, _, rfl, rfl, ⟨by decide, by decide, by decide⟩, (by show 13 ≤ sizeLine; decide), fun L hL => ?_⟩
  have e4 := same_new hL (.lst (oddV t1 l1 t0))
  have e03 := e1.trans (e2.trans e3)
  have D13 : DpAll K (hide p H3) (oddV t1 l1 t0) odds :=
    .cons .non (.cons (.bl _) (.cons (.bl _) (.cons (.str _) (.cons (.str _) (.cons (.str _) (.cons (.str _) (.cons (.int _) (.cons (.int _)
      (.cons (.tup (SqT.of (hide_mono (e2.trans e3) _ _ f1)) (.cons (.int _) (.cons (.str _) .nil)))
      (.cons (.lst (SqL.of (hide_mono e3 _ _ f2)) (.cons (.int _) .nil))
      (.cons (.tup (SqT.of f3) .nil) (.cons (.int _) .nil))))))))))))
  have Dall := DpAll.app D13 (DpAll.mono (hide_mono e03) _ _ hds)
  have ly := DpAll.len hds
  refine ⟨_, rfl, L, q, _, ys, rfl, rfl, (upd_same : (upd H3 L (.lst (oddV t1 l1 t0))) L = _), e4 _ _ (e03 _ _ hq), (by show 13 + ys.length ≤ sizeLine; exact small (by omega)), fun M hM => ?_⟩
  have hM' : (upd H3 L (.lst (oddV t1 l1 t0))) M = none := hM
  have B4 := B3.new hL (.lst (oddV t1 l1 t0))
  have nM := B4.ne hM'
  have e5 : Same H3 (upd (upd H3 L (.lst (oddV t1 l1 t0))) M (.lst (oddV t1 l1 t0 ++ ys))) := e4.trans (same_new hM' _)
  refine ⟨p, l, .ref M, rfl, B4.new hM' (.lst (oddV t1 l1 t0 ++ ys)), .inl ⟨M, _, rfl, .inl (SqL.of (hid_same nM)), (by rw [List.length_append]; exact Nat.lt_of_lt_of_le (by decide : 0 < 13) (Nat.le_add_right _ _)), (by rw [List.length_append]; show 13 + ys.length < 1000000; omega), fun i x H' hx B' e => ?_⟩⟩
  obtain ⟨d, hd, hxd⟩ := DpAll.get Dall hx
  exact k x d H' (List.mem_of_getElem? hd) (Dp.mono e _ _ (Dp.mono (hide_mono e5) _ _ hxd)) B' ((hide_mono (e03.trans e5)).trans e)
end
end Bl

namespace Bl
open PySem L2
open SX (S)
abbrev n_is_column : List Str := ["value", "parts", "part"]
theorem sc_is_column : FnScope n_is_column ["value"] (defScope s_is_column) := ⟨rfl, rfl, rfl, by decide +kernel, rfl, by decide +kernel, by decide +kernel⟩
abbrev n_is_test_within : List Str := ["value", "deepest", "head", "rest", "part"]
theorem sc_is_test_within : FnScope n_is_test_within ["value", "deepest"] (defScope s_is_test_within) := ⟨rfl, rfl, rfl, by decide +kernel, rfl, by decide +kernel, by decide +kernel⟩
abbrev n_is_test : List Str := ["value"]
theorem sc_is_test : FnScope n_is_test ["value"] (defScope s_is_test) := ⟨rfl, rfl, rfl, by decide +kernel, rfl, by decide +kernel, by decide +kernel⟩
section
variable {P : Program} {w : World} {K : PySem.W.Frag} {mg : Str → Option Value} {base : Heap}
theorem at0 {x : V} {xs : List V} : atI (x :: xs) 0 = some x := atI_nat (show (x :: xs)[0]? = some x from rfl)
theorem at1 {x y : V} {xs : List V} : atI (x :: y :: xs) 1 = some y := atI_nat (show (x :: y :: xs)[1]? = some y from rfl)
def spTest (K : PySem.W.Frag) : Sp := fun vs H Q _ => ∃ (v : V) (d : PyData), vs = [v] ∧ Dp K H v d ∧ Sm 7 d ∧ ∀ H', Same H H' → Q (.bl (isT 6 d)) H'
theorem ok_is_column (T : Top K w mg) : FnOk P w K mg base CX0 2 T.a_is_column T.d_is_column ["value"] (spIsCol K) := by
  refine T.F_is_column.ok sc_is_column (fun vs H Q E h => ?_) (fun cdv A outer s H vs Q E hr h => ?_)
  · obtain ⟨v, d, rfl, _⟩ := h
    rfl
  obtain ⟨v, d, rfl, hd, hz, k⟩ := h
  refine ⟨_, (pss_cons (ps_if (pt_not (pt_val (pe_callB call_isi (by rfl) T.z_isinstance (by decide +kernel) (pa_cons (pv 0) (pa_cons (pe_bltn (v := .ty "str") (by rfl) T.z_str (by decide +kernel) rfl) pa_nil))))) (pss_one (ps_ret pe_bl)) pss_nil)
    (pss_cons (ps_set (i := 1) sc_is_column.nd rfl (Or.inl rfl) (pe_split (pv 0) pe_str))
    (pss_one (ps_ret (pe_and (pe_cmpR op_le (pe_callB call_len_seq (by rfl) T.z_len (by decide +kernel) (pa_cons (pv 1) pa_nil)) pe_int (nomark _)) (pe_one (pe_callB (cr_all rfl) (by rfl) T.z_all (by decide +kernel) (pa_cons (pe_lc (own := [("part", 2)]) (g := gName 2) (tt := tYes) rfl sc_is_column.nd (pi_list (pv 1)) (blkOk_by (own := [("part", 2)]) (N := n_is_column) (sc := defScope s_is_column) (by decide +kernel)) (fun _ _ _ _ _ => (pg_name (i := 2) sc_is_column.nd rfl (Or.inl rfl))) (fun _ _ _ _ _ => pts_nil) (fun _ _ _ _ _ => (pe_call (ok_is_name T) (hr.mono (by decide)) rfl T.m_is_name T.F_is_name.kp T.b_is_name .nil pass0 (pa_cons (pv 2) pa_nil)))) pa_nil)))))))), ?_⟩
  refine ⟨_, rfl, v, .ty "str", _, _, _, rfl, .ty "str", Dp.ty hd, kit_d some_str, _, rfl, ?_⟩
  rw [isStr_eq]
  cases d with
  | str z =>
    obtain rfl : v = .str z := by cases hd; rfl
    have hz1 := hz z rfl
    refine iteF ?_
    refine ⟨_, rfl, ⟨_, rfl⟩, _, _, rfl, rfl, (by decide +kernel), small (by omega), fun p hp => ?_⟩
    have g := same_new hp (.lst ((Txt.split z ".").map V.str))
    have hp1 : (upd H p (.lst ((Txt.split z ".").map V.str))) p = some (.lst ((Txt.split z ".").map V.str)) := upd_same
    have e1 : colD (.str z) = (decide ((Txt.split z ".").length ≤ 2) && (Txt.split z ".").all nameB) := rfl
    refine ⟨_, rfl, p, _, rfl, .inl (SqL.of hp1), _, _, rfl, rfl, _, rfl, ?_⟩
    rw [List.length_map]
    refine ite2 (fun h2 => ?_) (fun h2 => ?_)
    · have h2' : (Txt.split z ".").length ≤ 2 := by
        have := of_decide_eq_true h2
        omega
      refine ⟨_, rfl, p, rfl, ⟨_, SqL.of hp1⟩, fun D hD => ?_⟩
      refine lc_list (K := K) (a := p) (xs := (Txt.split z ".").map V.str) (fun i H2 => Same (upd H p (.lst ((Txt.split z ".").map V.str))) H2 ∧ H2 D = some (.lst ((((Txt.split z ".").take i).map nameB).map V.bl)))
        ⟨same_new hD _, upd_same⟩ (fun i H2 _ q => q.1.seq (SqL.of hp1)) ?_ ?_
      · rintro i x H2 hx ⟨g2, hl⟩
        obtain ⟨y, hy, rfl⟩ : ∃ y, (Txt.split z ".")[i]? = some y ∧ x = .str y := by
          rw [List.getElem?_map] at hx
          cases e : (Txt.split z ".")[i]? with
          | none => rw [e] at hx; cases hx
          | some y => rw [e] at hx; exact ⟨y, rfl, (Option.some.inj hx).symm⟩
        have hyl := split_len (List.mem_of_getElem? hy)
        refine ⟨rfl, _, rfl, .str y, .str y, rfl, .str _, (fun u e => by cases e; omega), fun H3 g3 => ⟨_, g3 _ _ hl, ?_, Same.mut (g2.trans g3) hD _, ?_⟩⟩
        · rw [List.length_map, List.length_map, List.length_take]
          exact small' (by omega)
        · rw [upd_same, List.take_add_one, hy, List.map_append, List.map_append]
          rfl
      · rintro H2 ⟨g2, hl⟩
        refine ⟨D, _, rfl, SqL.of hl, ?_⟩
        have e : ((((Txt.split z ".").take ((Txt.split z ".").map V.str).length).map nameB).all id) = colD (.str z) := by
          rw [e1, decide_eq_true h2', Bool.true_and, List.length_map, List.take_of_length_le (Nat.le_refl _), List.all_map]
          rfl
        rw [e]
        exact k H2 (g.trans g2)
    · have q := k _ g
      rw [e1, decide_eq_false (by intro h; exact h2 (decide_eq_true (by omega))), Bool.false_and] at q
      exact q
  | _ => exact iteT (k H (Same.refl _))
theorem ok_within0 (T : Top K w mg) : FnOk P w K mg base CX0 2 T.a_is_test_within T.d_is_test_within ["value", "deepest"] (spIsT K 0) := by
  have no : ∀ vs H Q E, ¬ spIsT K 0 vs H Q E := fun vs H Q E h => by
    obtain ⟨v, d, m, _, h1, _⟩ := h
    omega
  exact ⟨fun vs H Q E h => absurd h (no vs H Q E), fun A outer s H args us vs Q E _ _ _ _ h => absurd h (no vs H Q E)⟩
theorem ok_within1 (T : Top K w mg) {n : Nat} (G : FnOk P w K mg base CX0 (n + 2) T.a_is_test_within T.d_is_test_within ["value", "deepest"] (spIsT K n)) : FnOk P w K mg base CX0 (n + 3) T.a_is_test_within T.d_is_test_within ["value", "deepest"] (spIsT K (n + 1)) := by
  refine T.F_is_test_within.ok sc_is_test_within (fun vs H Q E h => ?_) (fun cdv A outer s H vs Q E hr h => ?_)
  · obtain ⟨v, d, m, rfl, _⟩ := h
    rfl
  obtain ⟨v, d, m, rfl, hm, hd, hs, k⟩ := h
  refine ⟨_, (pss_cons (ps_if (PW.pt (pw_or (pt_cmpR op_eq (pv 1) pe_int (nomark _)) (pw_or (pt_not (pt_val (pe_callB call_isi (by rfl) T.z_isinstance (by decide +kernel) (pa_cons (pv 0) (pa_cons (pe_bltn (v := .ty "tuple") (by rfl) T.z_tuple (by decide +kernel) rfl) pa_nil))))) (pw_or1 (pt_cmpR op_eq (pe_callB call_len_seq (by rfl) T.z_len (by decide +kernel) (pa_cons (pv 0) pa_nil)) pe_int (nomark _)))))) (pss_one (ps_ret pe_bl)) pss_nil)
    (pss_cons (ps_asg (pv 0) (pg_star1 rfl (pg_name (i := 2) sc_is_test_within.nd rfl (Or.inl rfl)) (pg_name (i := 3) sc_is_test_within.nd rfl (Or.inl rfl))))
    (pss_cons (ps_if (pt_not (pt_val (pe_callB call_isi (by rfl) T.z_isinstance (by decide +kernel) (pa_cons (pv 2) (pa_cons (pe_bltn (v := .ty "str") (by rfl) T.z_str (by decide +kernel) rfl) pa_nil))))) (pss_one (ps_ret pe_bl)) pss_nil)
    (pss_cons (ps_if (pt_cmpR (op_in_parts (T.q_PARTS (fun _ => none))) (pv 2) (pe_glob rfl T.c_PARTS T.r_PARTS) rfl) (pss_one (ps_ret (pe_and (pe_cmpR op_eq (pe_callB call_len_seq (by rfl) T.z_len (by decide +kernel) (pa_cons (pv 3) pa_nil)) (pe_ix (ix_parts (T.q_PARTS (fun _ => none))) (pe_glob rfl T.c_PARTS T.r_PARTS) (pv 2) (fun _ _ => rfl)) (nomark _)) (pe_one (pe_callB (cr_all rfl) (by rfl) T.z_all (by decide +kernel) (pa_cons (pe_lc (own := [("part", 4)]) (g := gName 4) (tt := tYes) rfl sc_is_test_within.nd (pi_list (pv 3)) (blkOk_by (own := [("part", 4)]) (N := n_is_test_within) (sc := defScope s_is_test_within) (by decide +kernel)) (fun _ _ _ _ _ => (pg_name (i := 4) sc_is_test_within.nd rfl (Or.inl rfl))) (fun _ _ _ _ _ => pts_nil) (fun _ _ _ _ _ => (pe_call G hr rfl T.m_is_test_within T.F_is_test_within.kp T.b_is_test_within .nil pass0 (pa_cons (pv 4) (pa_cons (pe_op op_sub (pv 1) pe_int) pa_nil))))) pa_nil)))))) pss_nil)
    (pss_cons (ps_if (pt_cmpR op_eq (pv 2) pe_str (nomark _)) (pss_one (ps_ret (pe_and (pe_cmpR op_eq (pe_callB call_len_seq (by rfl) T.z_len (by decide +kernel) (pa_cons (pv 3) pa_nil)) pe_int (nomark _)) (pe_one (pe_call (ok_is_name T) (hr.mono (by omega)) rfl T.m_is_name T.F_is_name.kp T.b_is_name .nil pass0 (pa_cons (pe_ix ix_list (pv 3) pe_int (fun _ _ => rfl)) pa_nil)))))) pss_nil)
    (pss_one (ps_ret (pe_and (pe_cmpR op_eq (pv 2) pe_str (nomark _)) (pe_and (pe_cmpR op_eq (pe_callB call_len_seq (by rfl) T.z_len (by decide +kernel) (pa_cons (pv 3) pa_nil)) pe_int (nomark _)) (pe_and (pe_call (ok_is_column T) (hr.mono (by omega)) rfl T.m_is_column T.F_is_column.kp T.b_is_column .nil pass0 (pa_cons (pe_ix ix_list (pv 3) pe_int (fun _ _ => rfl)) pa_nil)) (pe_one (pe_call (ok_is_name T) (hr.mono (by omega)) rfl T.m_is_name T.F_is_name.kp T.b_is_name .nil pass0 (pa_cons (pe_ix ix_list (pv 3) pe_int (fun _ _ => rfl)) pa_nil))))))))))))), ?_⟩
  refine ⟨_, rfl, rfl, _, rfl, ?_⟩
  cases m with
  | zero => exact iteTk (decide_eq_true rfl) (k H (Same.refl _))
  | succ j =>
  refine iteFk (decide_eq_false (fun h => by have := V.int.inj h; omega)) ?_
  refine ⟨_, rfl, v, .ty "tuple", _, _, _, rfl, .ty "tuple", Dp.ty hd, kit_d some_tuple, _, rfl, ?_⟩
  rw [isTuple_eq]
  cases d with
  | tuple ds =>
    refine iteF ?_
    cases hd with
    | tup hsq ha =>
    rename_i a xs
    refine ⟨_, rfl, a, xs, rfl, .inr hsq, rfl, _, rfl, ?_⟩
    cases ha with
    | nil => exact iteTk (decide_eq_true rfl) (k H (Same.refl _))
    | cons hx hr' =>
    rename_i x xr d0 rest
    refine iteFk (decide_eq_false (fun h => by have := V.int.inj h; rw [List.length_cons] at this; omega)) ?_
    have hsl : (d0 :: rest).length ≤ 1000 ∧ ∀ d ∈ d0 :: rest, Sm (j + 1) d := hs
    refine ⟨_, rfl, a, x, xr, rfl, hsq, fun p hp => ?_⟩
    have g := same_new hp (.lst xr)
    have hp1 : (upd H p (.lst xr)) p = some (.lst xr) := upd_same
    have hx1 := Dp.mono g _ _ hx
    have hr1 := DpAll.mono g _ _ hr'
    have lr := DpAll.len hr'
    have lr2 : rest.length ≤ 999 := by
      have := hsl.1
      rw [List.length_cons] at this
      omega
    refine ⟨_, rfl, x, .ty "str", _, _, _, rfl, .ty "str", Dp.ty hx1, kit_d some_str, _, rfl, ?_⟩
    rw [isStr_eq]
    generalize upd H p (.lst xr) = H1 at *
    cases d0 with
    | str h =>
      obtain rfl : x = .str h := by cases hx1; rfl
      refine iteF ?_
      refine ⟨_, rfl, h, rfl, rfl, _, rfl, ?_⟩
      cases e : partsN h with
      | some kk =>
        refine iteT ?_
        rw [isT_parts j rest e] at k
        refine ⟨_, rfl, p, xr, rfl, .inl (SqL.of hp1), _, rfl, h, kk, rfl, rfl, e, rfl, _, rfl, ?_⟩
        refine ite2 (fun h2 => ?_) (fun h2 => ?_)
        · have h2' : rest.length = kk := by
            have := V.int.inj (of_decide_eq_true h2)
            omega
          rw [decide_eq_true h2', Bool.true_and] at k
          refine ⟨_, rfl, p, rfl, ⟨_, SqL.of hp1⟩, fun D hD => ?_⟩
          refine lc_list (K := K) (a := p) (xs := xr) (fun i H2 => Same H1 H2 ∧ H2 D = some (.lst (((rest.take i).map (isT j)).map V.bl)))
            ⟨same_new hD _, upd_same⟩ (fun i H2 _ q => q.1.seq (SqL.of hp1)) ?_ ?_
          · rintro i y H2 hy ⟨g2, hl⟩
            obtain ⟨dy, hdy, hyd⟩ := DpAll.get hr1 hy
            have hmem : dy ∈ rest := List.mem_of_getElem? hdy
            refine ⟨rfl, _, rfl, _, rfl, _, _, rfl, rfl, y, dy, j, ?_, by omega, Dp.mono g2 _ _ hyd, hsl.2 dy (List.mem_cons_of_mem _ hmem), fun H3 g3 => ⟨_, g3 _ _ hl, ?_, Same.mut (g2.trans g3) hD _, ?_⟩⟩
            · show [y, V.int (((j + 1 : Nat) : Int) - 1)] = _
              rw [show (((j + 1 : Nat) : Int) - 1) = (j : Int) by omega]
            · rw [List.length_map, List.length_map, List.length_take]
              exact small' (by omega)
            · rw [upd_same, List.take_add_one, hdy, List.map_append, List.map_append]
              rfl
          · rintro H2 ⟨g2, hl⟩
            refine ⟨D, _, rfl, SqL.of hl, ?_⟩
            have e2 : (((rest.take xr.length).map (isT j)).all id) = rest.all (isT j) := by
              rw [lr, List.take_of_length_le (Nat.le_refl _), List.all_map]
              rfl
            rw [e2]
            exact k H2 (g.trans g2)
        · have q := k H1 g
          rw [decide_eq_false (by intro h; exact h2 (decide_eq_true (by rw [lr, h]))), Bool.false_and] at q
          exact q
      | none =>
        refine iteF ?_
        rw [isT_leaf j rest e] at k
        refine ⟨_, rfl, rfl, _, rfl, ?_⟩
        refine ite2 (fun hhas => ?_) (fun hhas => ?_)
        · have hh : h = "has" := V.str.inj (of_decide_eq_true hhas)
          have el : leafB h rest = (decide (rest.length = 1) && atD nameD rest 0) := by
            unfold leafB
            rw [if_pos hh]
          rw [el] at k
          refine ⟨_, rfl, p, xr, rfl, .inl (SqL.of hp1), rfl, _, rfl, ?_⟩
          refine ite2 (fun h2 => ?_) (fun h2 => ?_)
          · have h2' : rest.length = 1 := by
              have := V.int.inj (of_decide_eq_true h2)
              omega
            rw [decide_eq_true h2', Bool.true_and] at k
            cases hr1 with
            | nil => cases h2'
            | cons hy hz =>
            rename_i y ys dy dz
            refine ⟨_, rfl, p, _, _, _, rfl, rfl, SqL.of hp1, at0, y, dy, rfl, hy, (fun z e => ?_), fun H3 g3 => k H3 (g.trans g3)⟩
            subst e
            exact hsl.2 _ (List.mem_cons_of_mem _ List.mem_cons_self)
          · have q := k H1 g
            rw [decide_eq_false (by intro h; exact h2 (decide_eq_true (by rw [lr, h]; rfl))), Bool.false_and] at q
            exact q
        · have hh : ¬ h = "has" := fun e => hhas (decide_eq_true (by rw [e]))
          have el : leafB h rest = (decide (h = "is") && (decide (rest.length = 2) && (atD colD rest 0 && atD nameD rest 1))) := by
            unfold leafB
            rw [if_neg hh]
          rw [el] at k
          refine ⟨_, rfl, rfl, _, rfl, ?_⟩
          refine ite2 (fun h1 => ?_) (fun h1 => ?_)
          · have hi : h = "is" := V.str.inj (of_decide_eq_true h1)
            rw [decide_eq_true hi, Bool.true_and] at k
            refine ⟨_, rfl, p, xr, rfl, .inl (SqL.of hp1), rfl, _, rfl, ?_⟩
            refine ite2 (fun h2 => ?_) (fun h2 => ?_)
            · have h2' : rest.length = 2 := by
                have := V.int.inj (of_decide_eq_true h2)
                omega
              rw [decide_eq_true h2', Bool.true_and] at k
              cases hr1 with
              | nil => cases h2'
              | cons hy hz =>
              cases hz with
              | nil => cases h2'
              | cons hz hzz =>
              rename_i y dy z zs dz dzs
              refine ⟨_, rfl, p, _, _, _, rfl, rfl, SqL.of hp1, at0, y, dy, rfl, hy, (fun z e => ?_), fun H3 g3 => ?_⟩
              · subst e
                exact hsl.2 _ (List.mem_cons_of_mem _ List.mem_cons_self)
              refine ⟨_, rfl, ?_⟩
              refine ite2 (fun h3 => ?_) (fun h3 => ?_)
              · have e3 : atD colD (dy :: dz :: dzs) 0 = true := h3
                rw [e3, Bool.true_and] at k
                refine ⟨_, rfl, p, _, _, _, rfl, rfl, SqL.of (g3 _ _ hp1), at1, z, dz, rfl, Dp.mono g3 _ _ hz, (fun z e => ?_), fun H4 g4 => k H4 (g.trans (g3.trans g4))⟩
                subst e
                exact hsl.2 _ (List.mem_cons_of_mem _ (List.mem_cons_of_mem _ List.mem_cons_self))
              · have e3 : atD colD (dy :: dz :: dzs) 0 = false := Bool.eq_false_iff.mpr h3
                rw [e3, Bool.false_and] at k
                exact k H3 (g.trans g3)
            · have q := k H1 g
              rw [decide_eq_false (by intro h; exact h2 (decide_eq_true (by rw [lr, h]; rfl))), Bool.false_and] at q
              exact q
          · have q := k H1 g
            rw [decide_eq_false (by intro h; exact h1 (decide_eq_true (by rw [h]))), Bool.false_and] at q
            exact q
    | _ => exact iteT (k H1 g)
  | _ => exact iteT (k H (Same.refl _))
theorem ok_within (T : Top K w mg) : ∀ n : Nat, FnOk P w K mg base CX0 (n + 2) T.a_is_test_within T.d_is_test_within ["value", "deepest"] (spIsT K n)
  | 0 => ok_within0 T
  | n + 1 => ok_within1 T (ok_within T n)
theorem ok_is_test (T : Top K w mg) : FnOk P w K mg base CX0 10 T.a_is_test T.d_is_test ["value"] (spTest K) := by
  refine T.F_is_test.ok sc_is_test (fun vs H Q E h => ?_) (fun cdv A outer s H vs Q E hr h => ?_)
  · obtain ⟨v, d, rfl, _⟩ := h
    rfl
  obtain ⟨v, d, rfl, hd, hs, k⟩ := h
  refine ⟨_, (pss_one (ps_ret (pe_call (ok_within T 7) (hr.mono (by decide)) rfl T.m_is_test_within T.F_is_test_within.kp T.b_is_test_within .nil pass0 (pa_cons (pv 0) (pa_cons (pe_glob rfl T.c_DEEPEST T.r_DEEPEST) pa_nil))))), ?_⟩
  exact ⟨_, rfl, v, d, 6, rfl, by decide, hd, hs, k⟩
end
end Bl

namespace Bl
open PySem L2
open SX (S)
abbrev n_bent_test : List Str := ["_law_box_here", "_law_test", "_law_words", "_law_way", "_law_at", "_law_odd_here"]
theorem sc_bent_test : FnScope n_bent_test ["_law_box_here", "_law_test", "_law_words"] (defScope s_bent_test) := ⟨rfl, rfl, rfl, by decide +kernel, rfl, by decide +kernel, by decide +kernel⟩
section
variable {P : Program} {w : World} {K : PySem.W.Frag} {mg : Str → Option Value} {base : Heap}
theorem ok_bent0 (T : Top K w mg) : FnOk P w K mg base CX0 2 T.a_bent_test T.d_bent_test ["_law_box_here", "_law_test", "_law_words"] (spBent K 0) := by
  have no : ∀ vs H Q E, ¬ spBent K 0 vs H Q E := fun vs H Q E h => by
    obtain ⟨p, l, v, u, w0, w1, w2, w3, w4, t, _, _, _, _, h1, _⟩ := h
    have := t.deep_pos
    omega
  exact ⟨fun vs H Q E h => absurd h (no vs H Q E), fun A outer s H args us vs Q E _ _ _ _ h => absurd h (no vs H Q E)⟩
theorem atI_neg1 {xs : List V} {y : V} (h : xs[xs.length - 1]? = some y) (hl : 1 ≤ xs.length) : atI xs (-1) = some y := by
  unfold atI ixN
  rw [if_neg (by decide), if_pos (by omega)]
  show xs[((-1 : Int) + (xs.length : Int)).toNat]? = some y
  rw [show ((-1 : Int) + (xs.length : Int)).toNat = xs.length - 1 by omega]
  exact h
theorem items_len : ∀ t : Tst, 2 ≤ t.items.length ∧ t.items.length ≤ 3
  | .is _ _ => ⟨by show 2 ≤ 3; decide, by show 3 ≤ 3; decide⟩
  | .has _ => ⟨by show 2 ≤ 2; decide, by show 2 ≤ 3; decide⟩
  | .neg _ => ⟨by show 2 ≤ 2; decide, by show 2 ≤ 3; decide⟩
  | .two _ _ _ => ⟨by show 2 ≤ 3; decide, by show 3 ≤ 3; decide⟩
theorem items_sm {w0 w1 w2 w3 w4 : List Nat} (W : Words w0 w1 w2 w3 w4) {t : Tst} (h : t.over [w0, w1, w2 ++ 46 :: w0] w3 w4) : ∀ d ∈ t.items, SmAll d := fun d hd m => by
  have := Sm_over W (m + 1) t h
  rw [t.toD_items] at this
  exact this.2 d hd
theorem ok_bent1 (T : Top K w mg) {n : Nat} (G : FnOk P w K mg base CX0 (n + 2) T.a_bent_test T.d_bent_test ["_law_box_here", "_law_test", "_law_words"] (spBent K n)) : FnOk P w K mg base CX0 (n + 3) T.a_bent_test T.d_bent_test ["_law_box_here", "_law_test", "_law_words"] (spBent K (n + 1)) := by
  refine T.F_bent_test.ok sc_bent_test (fun vs H Q E h => ?_) (fun cdv A outer s H vs Q E hr h => ?_)
  · obtain ⟨p, l, v, u, w0, w1, w2, w3, w4, t, rfl, _⟩ := h
    rfl
  obtain ⟨p, l, v, u, w0, w1, w2, w3, w4, t, rfl, B, W, hov, hdn, hv, k⟩ := h
  refine ⟨_, (pss_cons (ps_set (i := 3) sc_bent_test.nd rfl (Or.inl rfl) (pe_call (ok_pull T) (hr.mono (by omega)) rfl T.m_pull T.F_pull.kp T.b_pull .nil pass0 (pa_cons (pv 0) (pa_cons pe_int pa_nil))))
    (C8.pss_cut (ps_if (PW.pt (pw_and (pt_cmpR op_in_seq (pe_ix ix_tup (pv 1) pe_int (fun _ _ => rfl)) (pe_tup (pa_cons pe_str (pa_cons pe_str (pa_cons pe_str pa_nil)))) rfl) (pw_and1 (pt_cmpR op_lt (pv 3) pe_int (nomark _))))) (pss_cons (ps_set (i := 4) sc_bent_test.nd rfl (Or.inl rfl) (pe_op op_add pe_int (pe_call (ok_pull T) (hr.mono (by omega)) rfl T.m_pull T.F_pull.kp T.b_pull .nil pass0 (pa_cons (pv 0) (pa_cons (pe_op op_sub (pe_callB call_len_seq (by rfl) T.z_len (by decide +kernel) (pa_cons (pv 1) pa_nil)) pe_int) pa_nil)))))
    (pss_one (ps_ret (pe_op op_catA (pe_op op_catA (pe_slice sl_tupA (pv 1) po_none (po_some (pv 4))) (pe_tup (pa_cons (pe_call G hr rfl T.m_bent_test T.F_bent_test.kp T.b_bent_test .nil pass0 (pa_cons (pv 0) (pa_cons (pe_ix ix_tup (pv 1) (pv 4) (fun _ _ => rfl)) (pa_cons (pv 2) pa_nil)))) pa_nil))) (pe_slice sl_tupA (pv 1) (po_some (pe_op op_add (pv 4) pe_int)) po_none))))) pss_nil)
    (pss_cons (ps_set (i := 5) sc_bent_test.nd rfl (Or.inl rfl) (pe_call (ok_of T) (hr.mono (by omega)) rfl T.m_of T.F_of.kp T.b_of .nil pass0 (pa_cons (pv 0) (pa_cons (pe_lst (pa_cons pe_non (pa_cons pe_str (pa_cons pe_int (pa_cons pe_str (pa_cons (pe_tup pa_nil) (pa_cons pe_str (pa_cons (pe_lst (pa_cons pe_str pa_nil)) pa_nil)))))))) pa_nil))))
    (pss_cons (ps_if (pt_cmpR op_eq (pv 3) pe_int (nomark _)) (pss_one (ps_ret (pe_callTy call_list_of (by rfl) T.z_list (by decide +kernel) (pa_cons (pv 1) pa_nil)))) pss_nil)
    (pss_cons (ps_if (pt_cmpR op_eq (pv 3) pe_int (nomark _)) (pss_one (ps_ret (pe_op op_catA (pv 1) (pe_tup (pa_cons (pe_ix ix_tup (pv 1) (pe_un un_neg pe_int) (fun _ _ => rfl)) pa_nil))))) pss_nil)
    (pss_one (ps_ret (pe_ifExp (pt_cmpR op_eq (pv 3) pe_int (nomark _)) (pe_slice sl_tupA (pv 1) po_none (po_some (pe_un un_neg pe_int))) (pe_op op_catA (pe_op op_catA (pe_slice sl_tupA (pv 1) po_none (po_some pe_int)) (pe_tup (pa_cons (pv 5) pa_nil))) (pe_slice sl_tupA (pv 1) (po_some pe_int) po_none)))))))))), ?_⟩
  have hsm := items_sm W hov
  have hil := items_len t
  have hvt := hv
  rw [t.toD_items] at hvt
  cases hvt with
  | tup hs0 ha0 =>
  rename_i a xs
  have lx := DpAll.len ha0
  have hsq : ∀ {H' : Hp}, But p H H' → SqT K H' a xs := fun e => Same.tup hide_le (Same.tup e hs0)
  refine ⟨_, rfl, p, l, 6, rfl, B, by decide, by decide, fun way H1 hw0 hw6 B1 e1 => ?_⟩
  refine ⟨fun σ H' => (t.leaf = true ∨ 3 ≤ way) ∧ σ = [some (.ref p), some (.ref a), some u, some (.int way), none, none] ∧ BoxAt H' p l ∧ But p H H', ?_, ?_⟩
  · obtain ⟨hd, hd0, hin⟩ := head_in ha0
    have at0' : atI xs 0 = some (.str hd) := atI_nat (j := 0) hd0
    refine ⟨_, rfl, a, _, _, _, rfl, rfl, hsq e1, at0', (by show 3 ≤ sizeLine; decide), fun tt htt => ⟨tt, heads, rfl, .inr (SqT.of upd_same), rfl, rfl, _, rfl, ?_⟩⟩
    have B2 := B1.new htt (.tup heads)
    have e2 : But p H _ := Same.trans e1 (But.of (same_new htt (.tup heads)))
    show if inV (.str hd) heads = true then _ else _
    rw [hin]
    cases hleaf : t.leaf with
    | true => exact iteF (iteF ⟨.inl rfl, rfl, B2, e2⟩)
    | false =>
      refine iteT ?_
      refine ⟨_, rfl, _, _, rfl, rfl, _, rfl, ?_⟩
      refine ite2 (fun _ => ?_) (fun h3 => ⟨.inr (by have h4 : ¬ way < 3 := fun q => h3 (decide_eq_true q); omega), rfl, B2, e2⟩)
      refine ⟨_, rfl, _, rfl, a, xs, rfl, .inr (hsq e2), _, _, rfl, rfl, p, l, _, rfl, B2, by omega, by omega, fun g H3 hg0 hg1 B3 e3' => ?_⟩
      have e3 := Same.trans e2 e3'
      obtain ⟨g, rfl⟩ := Int.eq_ofNat_of_zero_le hg0
      have hk : 1 + g < t.items.length := by omega
      refine ⟨_, _, rfl, rfl, ?_⟩
      have hat : ((1 : Int) + (g : Int)) = ((1 + g : Nat) : Int) := by omega
      have hat2 : ((1 : Int) + (g : Int)) + 1 = ((1 + g + 1 : Nat) : Int) := by omega
      obtain ⟨y, hy⟩ : ∃ y, xs[1 + g]? = some y := ⟨xs[1 + g]'(by omega), List.getElem?_eq_getElem (by omega)⟩
      obtain ⟨dy, hdy, hyd⟩ := DpAll.get ha0 hy
      obtain ⟨t', rfl, hov', hdp'⟩ := part_of hleaf (by omega) hdy hov
      -- test[:at] + (bent(..),) + test[at + 1:]
      refine ⟨_, rfl, _, rfl, _, rfl, slA_to (hsq e3) fun r1 H4 g4 h4 => ?_⟩
      have e4 := Same.trans e3 (But.of g4)
      have B4 := B3.mono g4
      refine ⟨_, rfl, _, rfl, _, rfl, a, xs, _, y, rfl, rfl, hsq e4, by rw [hat]; exact atI_nat hy, _, rfl, p, l, y, u, w0, w1, w2, w3, w4, t', rfl, B4, W, hov', by omega, Dp.mono e4 _ _ hyd, fun r d' H5 hbad hsm' hr5 B5 e5' => ?_⟩
      have e5 := Same.trans e4 e5'
      refine ⟨(by show 1 ≤ sizeLine; decide), fun b hb => ?_⟩
      have s6 := same_new hb (.tup [r])
      have e6 := Same.trans e5 (But.of s6)
      have B6 := B5.new hb (.tup [r])
      have h4' : SqT K (upd H5 b (.tup [r])) r1 (cutV xs none (some (1 + (g : Int)))) := Same.tup hide_le (Same.tup (Same.trans e5' (But.of s6)) (sqT_hid B4 h4))
      rw [hat, cutV_pre] at h4'
      refine catA_to h4' (SqT.of upd_same) (by rw [List.length_take]; show min (1 + g) xs.length + 1 ≤ sizeLine; exact small (by omega)) fun r2 H7 g7 h7 => ?_
      have e7 := Same.trans e6 (But.of g7)
      have B7 := B6.mono g7
      refine ⟨_, rfl, _, rfl, _, _, rfl, rfl, _, rfl, ?_⟩
      dsimp only [tNoPart]
      refine slA_to (hsq e7) fun r3 H8 g8 h8 => ?_
      rw [hat2, cutV_suf (by omega)] at h8
      have e8 := Same.trans e7 (But.of g8)
      have B8 := B7.mono g8
      refine catA_to (Same.tup g8 h7) h8 (by rw [List.length_append, List.length_take, List.length_drop]; show min (1 + g) xs.length + 1 + (xs.length - (1 + g + 1)) ≤ sizeLine; exact small (by omega)) fun r4 H9 g9 h9 => ?_
      have e9 := Same.trans e8 (But.of g9)
      have B9 := B8.mono g9
      have e59 : But p H5 H9 := But.of (s6.trans (g7.trans (g8.trans g9)))
      have hda := DpAll.mono e9 _ _ ha0
      refine k _ _ _ (bad_part hbad hleaf (by omega) hk) ?_ (.tup (sqT_hid B9 h9) (DpAll.app (DpAll.app (DpAll.take _ hda) (.cons (Dp.mono e59 _ _ hr5) .nil)) (DpAll.drop _ hda))) B9 e9
      refine smAll_tup ?_ fun d hd => ?_
      · rw [List.length_append, List.length_append, List.length_take, List.length_drop]
        show min (1 + g) t.items.length + 1 + (t.items.length - (1 + g + 1)) ≤ 1000
        omega
      · rcases List.mem_append.mp hd with hd | hd
        · rcases List.mem_append.mp hd with hd | hd
          · exact hsm d (List.mem_of_mem_take hd)
          · obtain rfl := List.mem_singleton.mp hd
            exact hsm'
        · exact hsm d (List.mem_of_mem_drop hd)
  rintro σ H2 ⟨hlw, rfl, B2, e2⟩
  -- an odd thing
  refine ⟨_, rfl, (by show 0 ≤ sizeLine; decide), fun t0 ht0 => ⟨(by show 1 ≤ sizeLine; decide), fun l0 hl0 => ⟨(by show 7 ≤ sizeLine; decide), fun m0 hm0 => ?_⟩⟩⟩
  have C1 := B2.new ht0 (.tup [])
  have C2 := C1.new hl0 (.lst [.str "is"])
  have C3 := C2.new hm0 (.lst [.non, .str "A", .int 3, .str "", .ref t0, .str "a.b.c", .ref l0])
  have f1 : hide p (upd H2 t0 (.tup [])) t0 = some (.tup []) := hid_same (B2.ne ht0)
  have f2 : hide p (upd (upd H2 t0 (.tup [])) l0 (.lst [.str "is"])) l0 = some (.lst [.str "is"]) := hid_same (C1.ne hl0)
  have s1 := same_new ht0 (.tup [])
  have s2 := same_new hl0 (.lst [.str "is"])
  have s3 := same_new hm0 (.lst [.non, .str "A", .int 3, .str "", .ref t0, .str "a.b.c", .ref l0])
  have D7 : DpAll K (hide p _) [.non, .str "A", .int 3, .str "", .ref t0, .str "a.b.c", .ref l0] odd7 :=
    .cons .non (.cons (.str _) (.cons (.int _) (.cons (.str _) (.cons (.tup (SqT.of (hide_mono (s2.trans s3) _ _ f1)) .nil) (.cons (.str _) (.cons (.lst (SqL.of (hide_mono s3 _ _ f2)) (.cons (.str _) .nil)) .nil))))))
  refine ⟨p, l, .ref m0, rfl, C3, .inl ⟨m0, _, rfl, .inl (SqL.of (hid_same (C2.ne hm0))), (by show 0 < 7; decide), (by show 7 < 1000000; decide), fun i x H3 hx B3 e3' => ?_⟩⟩
  obtain ⟨dx, hdx, hxd'⟩ := DpAll.get D7 hx
  have hxm : dx ∈ odd7 := List.mem_of_getElem? hdx
  have hxd := Dp.mono e3' _ _ hxd'
  have e3 := Same.trans e2 (Same.trans (But.of (s1.trans (s2.trans s3))) e3')
  have ha3 := DpAll.mono e3 _ _ ha0
  have hs3 := hsq e3
  have hxl : xs.length ≤ 3 := by omega
  refine ⟨_, rfl, rfl, _, rfl, ?_⟩
  refine ite2 (fun _ => ?_) (fun hn3 => ?_)
  · refine ⟨_, rfl, a, xs, rfl, .inr hs3, fun c hc => ?_⟩
    exact k _ (.list t.items) _ (bad_list _) smAll_list (.lst (SqL.of (hid_same (B3.ne hc))) (DpAll.mono (hide_mono (same_new hc _)) _ _ ha3)) (B3.new hc _) (Same.trans e3 (But.of (same_new hc _)))
  refine ⟨_, rfl, rfl, _, rfl, ?_⟩
  refine ite2 (fun _ => ?_) (fun hn4 => ?_)
  · obtain ⟨y, hy⟩ : ∃ y, xs[xs.length - 1]? = some y := ⟨xs[xs.length - 1]'(by omega), List.getElem?_eq_getElem (by omega)⟩
    obtain ⟨dy, hdy, hyd⟩ := DpAll.get ha3 hy
    refine ⟨_, rfl, _, rfl, _, rfl, a, xs, _, y, rfl, rfl, hs3, atI_neg1 hy (by omega), (by show 1 ≤ sizeLine; decide), fun b hb => ?_⟩
    have s4 := same_new hb (.tup [y])
    refine catA_to (Same.tup s4 hs3) (SqT.of upd_same) (by show xs.length + 1 ≤ sizeLine; exact small (by omega)) fun r H5 g5 h5 => ?_
    have s45 := s4.trans g5
    have B5 := B3.mono s45
    refine k _ _ _ (bad4 dy t) ?_ (.tup (sqT_hid B5 h5) (DpAll.app (DpAll.mono (hide_mono s45) _ _ ha3) (.cons (Dp.mono (hide_mono s45) _ _ hyd) .nil))) B5 (Same.trans e3 (But.of s45))
    refine smAll_tup (by rw [List.length_append]; show t.items.length + 1 ≤ 1000; omega) fun d hd => ?_
    rcases List.mem_append.mp hd with hd | hd
    · exact hsm d hd
    · obtain rfl := List.mem_singleton.mp hd
      exact hsm _ (List.mem_of_getElem? hdy)
  refine ⟨_, rfl, rfl, _, rfl, ?_⟩
  refine ite2 (fun _ => ?_) (fun hn5 => ?_)
  · refine ⟨_, rfl, _, rfl, _, rfl, ?_⟩
    refine slA_to hs3 fun r H5 g5 h5 => ?_
    rw [cutV_neg1] at h5
    have B5 := B3.mono g5
    have eb := bad5 t
    rw [← lx] at eb
    refine k _ _ _ eb ?_ (.tup (sqT_hid B5 h5) (DpAll.take _ (DpAll.mono (hide_mono g5) _ _ ha3))) B5 (Same.trans e3 (But.of g5))
    exact smAll_tup (by rw [List.length_take]; omega) fun d hd => hsm d (List.mem_of_mem_take hd)
  have hleaf : t.leaf = true := by
    rcases hlw with h | h
    · exact h
    · exfalso
      have h3 : way ≠ 3 := fun e => hn3 (decide_eq_true (by rw [e]))
      have h4 : way ≠ 4 := fun e => hn4 (decide_eq_true (by rw [e]))
      have h5 : way ≠ 5 := fun e => hn5 (decide_eq_true (by rw [e]))
      omega
  refine ⟨_, rfl, _, rfl, slA_to hs3 fun r1 H5 g5 h5 => ?_⟩
  rw [show ((some (1 : Int)) : Option Int) = some ((1 : Nat) : Int) from rfl, cutV_pre] at h5
  refine ⟨_, rfl, (by show 1 ≤ sizeLine; decide), fun b hb => ?_⟩
  have s6 := same_new hb (.tup [x])
  refine catA_to (Same.tup s6 h5) (SqT.of upd_same) (by rw [List.length_take]; show min 1 xs.length + 1 ≤ sizeLine; exact small (by omega)) fun r2 H7 g7 h7 => ?_
  refine ⟨_, rfl, _, rfl, ?_⟩
  dsimp only [tNoPart]
  have s57 := g5.trans (s6.trans g7)
  refine slA_to (Same.tup s57 hs3) fun r3 H8 g8 h8 => ?_
  rw [show ((some (2 : Int)) : Option Int) = some ((2 : Nat) : Int) from rfl, cutV_suf (by omega)] at h8
  refine catA_to (Same.tup g8 h7) h8 (by rw [List.length_append, List.length_take, List.length_drop]; show min 1 xs.length + 1 + (xs.length - 2) ≤ sizeLine; exact small (by omega)) fun r4 H9 g9 h9 => ?_
  have s59 := s57.trans (g8.trans g9)
  have B9 := B3.mono s59
  have hda := DpAll.mono (hide_mono s59) _ _ ha3
  refine k _ _ _ (bad0 (odd7_bad hxm) t hleaf) ?_ (.tup (sqT_hid B9 h9) (DpAll.app (DpAll.app (DpAll.take _ hda) (.cons (Dp.mono (hide_mono s59) _ _ hxd) .nil)) (DpAll.drop _ hda))) B9 (Same.trans e3 (But.of s59))
  refine smAll_tup ?_ fun d hd => ?_
  · rw [List.length_append, List.length_append, List.length_take, List.length_drop]
    show min 1 t.items.length + 1 + (t.items.length - 2) ≤ 1000
    omega
  · rcases List.mem_append.mp hd with hd | hd
    · rcases List.mem_append.mp hd with hd | hd
      · exact hsm d (List.mem_of_mem_take hd)
      · obtain rfl := List.mem_singleton.mp hd
        exact odd7_sm hxm
    · exact hsm d (List.mem_of_mem_drop hd)
theorem ok_bent (T : Top K w mg) : ∀ n : Nat, FnOk P w K mg base CX0 (n + 2) T.a_bent_test T.d_bent_test ["_law_box_here", "_law_test", "_law_words"] (spBent K n)
  | 0 => ok_bent0 T
  | n + 1 => ok_bent1 T (ok_bent T n)
end
end Bl

namespace Bl
open PySem L2
open SX (S)
theorem odds_bad : odds.all (fun d => !isT 6 d) = true := by decide +kernel
theorem odds_sm : ∀ d ∈ odds, SmAll d := fun d h => by
  unfold odds at h
  simp only [List.mem_cons, List.not_mem_nil, or_false] at h
  rcases h with rfl | rfl | rfl | rfl | rfl | rfl | rfl | rfl | rfl | rfl | rfl | rfl | rfl
  · exact fun m => by cases m <;> exact True.intro
  · exact fun m => by cases m <;> exact True.intro
  · exact fun m => by cases m <;> exact True.intro
  · exact smAll_str (by decide +kernel)
  · exact smAll_str (by decide +kernel)
  · exact smAll_str (by decide +kernel)
  · exact smAll_str (by decide +kernel)
  · exact fun m => by cases m <;> exact True.intro
  · exact fun m => by cases m <;> exact True.intro
  · refine smAll_tup (by decide) fun d hd => ?_
    rcases List.mem_cons.mp hd with rfl | hd
    · exact fun m => by cases m <;> exact True.intro
    · obtain rfl := List.mem_singleton.mp hd
      exact smAll_str (by decide +kernel)
  · exact smAll_list
  · exact smAll_tup (by decide) (fun d hd => nomatch hd)
  · exact fun m => by cases m <;> exact True.intro
section
variable {P : Program} {w : World} {K : PySem.W.Frag} {mg : Str → Option Value} {base : Heap}
def g1 {α : Type} : List α → List α → List α := fun us ws => match us, ws with
  | [], [a] => [a]
  | _, _ => []
theorem g1_rel {vs : List V} {us : List Value} {zs : List V} {ws : List Value} (h : Vals vs us) (k : Vals zs ws) : Vals (g1 vs zs) (g1 us ws) := by
  cases h with
  | cons _ _ => exact .nil
  | nil =>
    cases k with
    | nil => exact .nil
    | cons a k =>
      cases k with
      | nil => exact .cons a .nil
      | cons _ _ => exact .nil
theorem g1_one {α : Type} : ∀ {us ws : List α}, (g1 us ws).length = 1 → ∃ a, us = [] ∧ ws = [a]
  | [], [a], _ => ⟨a, rfl, rfl⟩
theorem kb_is_test_value (T : Top K w mg) : KBinds K T.d_is_test ["value"] ["value"] g1 g1 := ⟨fun s us ws _ hl => by
  obtain ⟨a, rfl, rfl⟩ := g1_one hl
  obtain ⟨oc, od, kV, doc, pm, an, cdv, ct, osl, e, _⟩ := T.F_is_test.ex
  rw [e]
  exact .of_eq rfl, g1_rel⟩
abbrev n_law : List Str := ["_law_script", "_law_box_here", "_law_turn", "_law_words", "_law_deep", "_law_test", "_law_bent"]
theorem sc_law : FnScope n_law ["_law_script"] (defScope s_law) := ⟨rfl, rfl, rfl, by decide +kernel, rfl, by decide +kernel, by decide +kernel⟩
def spLaw (K : PySem.W.Frag) : Sp := fun vs H Q _ => ∃ (a : Addr) (ns : List Int), vs = [.ref a] ∧ SqL K H a (ns.map V.int) ∧ ns.length ≤ 63 ∧ ∀ H', Q (.bl true) H'
theorem ok_law (T : Top K w mg) : FnOk P w K mg base CX0 12 T.a_law T.d_law ["_law_script"] (spLaw K) := by
  refine T.F_law.ok sc_law (fun vs H Q E h => ?_) (fun cdv A outer s H vs Q E hr h => ?_)
  · obtain ⟨a, ns, rfl, _⟩ := h
    rfl
  obtain ⟨a, ns, rfl, hS, h63, k⟩ := h
  refine ⟨_, (pss_cons (ps_set (i := 1) sc_law.nd rfl (Or.inl rfl) (pe_call (ok_box T) (hr.mono (by decide)) rfl T.m_box T.F_box.kp T.b_box .nil pass0 (pa_cons (pv 0) pa_nil)))
    (pss_cons (ps_for PassesOwn.never rfl (pi_range1 (by rfl) T.z_range (pa_cons pe_int pa_nil)) (pg_name (i := 2) sc_law.nd rfl (Or.inl rfl))
    (pss_cons (ps_par (i := 3) (j := 4) (by rfl) sc_law.nd rfl rfl (by decide) rfl rfl (pa_cons (pe_call (ok_names T) (hr.mono (by decide)) rfl T.m_names T.F_names.kp T.b_names .nil pass0 (pa_cons (pv 1) (pa_cons pe_int pa_nil))) (pa_cons (pe_op op_add pe_int (pe_call (ok_pull T) (hr.mono (by decide)) rfl T.m_pull T.F_pull.kp T.b_pull .nil pass0 (pa_cons (pv 1) (pa_cons pe_int pa_nil)))) pa_nil)) (by rfl))
    (pss_cons (ps_set (i := 5) sc_law.nd rfl (Or.inl rfl) (pe_call (ok_free T 6) (hr.mono (by decide)) rfl T.m_free_test T.F_free_test.kp T.b_free_test .nil pass0 (pa_cons (pv 1) (pa_cons (pv 3) (pa_cons (pv 4) pa_nil)))))
    (pss_cons (ps_if (pt_not (pt_val (pe_call (ok_same T 3) (hr.mono (by decide)) rfl T.m_same T.F_same.kp T.b_same .nil pass0 (pa_cons (pe_lst (pa_cons (pe_call (ok_is_test T) (hr.mono (by decide)) rfl T.m_is_test T.F_is_test.kp T.b_is_test .nil pass0 (pa_cons (pv 5) pa_nil)) (pa_cons (pe_callK0 (ok_is_test T) (hr.mono (by decide)) rfl T.m_is_test T.F_is_test.kp (kb_is_test_value T) pass0 (pk_cons (pe_tup (pa_cons pe_str (pa_cons (pv 5) pa_nil))) pk_nil)) pa_nil))) (pa_cons (pe_lst (pa_cons pe_bl (pa_cons (pe_cmpR op_lt (pv 4) pe_int (nomark _)) pa_nil))) pa_nil))))) (pss_one (ps_ret pe_bl)) pss_nil)
    (pss_cons (ps_set (i := 6) sc_law.nd rfl (Or.inl rfl) (pe_call (ok_bent T 6) (hr.mono (by decide)) rfl T.m_bent_test T.F_bent_test.kp T.b_bent_test .nil pass0 (pa_cons (pv 1) (pa_cons (pv 5) (pa_cons (pv 3) pa_nil)))))
    (pss_cons (ps_if (pt_cmpR op_notBl (pe_call (ok_is_test T) (hr.mono (by decide)) rfl T.m_is_test T.F_is_test.kp T.b_is_test .nil pass0 (pa_cons (pv 6) pa_nil)) pe_bl (nomark _)) (pss_one (ps_ret pe_bl)) pss_nil)
    (pss_one (ps_if (pt_cmpR op_notBl (pe_call (ok_is_test T) (hr.mono (by decide)) rfl T.m_is_test T.F_is_test.kp T.b_is_test .nil pass0 (pa_cons (pe_call (ok_odd T) (hr.mono (by decide)) rfl T.m_odd T.F_odd.kp T.b_odd .nil pass0 (pa_cons (pv 1) (pa_cons (pe_lst (pa_cons (pe_tup (pa_cons pe_str (pa_cons pe_non pa_nil))) (pa_cons (pe_tup (pa_cons pe_str (pa_cons (pe_ix ix_list (pv 3) pe_int (fun _ _ => rfl)) pa_nil))) (pa_cons (pe_tup (pa_cons pe_str (pa_cons (pv 5) pa_nil))) pa_nil)))) pa_nil))) pa_nil)) pe_bl (nomark _)) (pss_one (ps_ret pe_bl)) pss_nil))))))))
    (pss_one (ps_ret (pe_and (pe_not (pe_call (ok_is_test T) (hr.mono (by decide)) rfl T.m_is_test T.F_is_test.kp T.b_is_test .nil pass0 (pa_cons (pe_tup (pa_cons pe_str (pa_cons pe_str (pa_cons pe_str pa_nil)))) pa_nil))) (pe_and (pe_call (ok_is_test T) (hr.mono (by decide)) rfl T.m_is_test T.F_is_test.kp T.b_is_test .nil pass0 (pa_cons (pe_tup (pa_cons pe_str (pa_cons pe_str (pa_cons pe_str pa_nil)))) pa_nil)) (pe_one (pe_not (pe_call (ok_is_test T) (hr.mono (by decide)) rfl T.m_is_test T.F_is_test.kp T.b_is_test .nil pass0 (pa_cons (pe_tup (pa_cons pe_str (pa_cons pe_str pa_nil))) pa_nil)))))))))), ?_⟩
  refine ⟨_, rfl, a, ns, rfl, hS, h63, fun p b H0 hp B0 e0 => ?_⟩
  refine ⟨6, rfl, by decide, by decide, for_range (lo := 0) (n := 6) (fun i σ H2 => ∃ o2 o3 o4 o5 o6 : Option V, σ = [some (.ref a), some (.ref p), o2, o3, o4, o5, o6] ∧ BoxAt H2 p b)
    ⟨_, _, _, _, _, rfl, B0⟩ ?_ ?_⟩
  · rintro i σ H1 hi ⟨o2, o3, o4, o5, o6, rfl, B1⟩
    refine ⟨_, rfl, p, b, 5, rfl, B1, by decide, by decide, fun q zs H2 hlen hnames hnd hm hfree hqp hq B2 e2 => ?_⟩
    obtain ⟨w0, w1, w2, w3, w4, rfl⟩ : ∃ w0 w1 w2 w3 w4, zs = [w0, w1, w2, w3, w4] := by
      match zs, hlen with
      | [a, b, c, d, e], _ => exact ⟨a, b, c, d, e, rfl⟩
    have W : Words w0 w1 w2 w3 w4 := ⟨hnames w0 (by simp), hnames w1 (by simp), hnames w2 (by simp), hnames w3 (by simp), hnames w4 (by simp)⟩
    have l0 := W.a.six
    have l2 := W.c.six
    have hq2 : hide p H2 q = some (.lst [nameV w0, nameV w1, nameV w2, nameV w3, nameV w4]) := by
      rw [hide_ne hqp]
      exact hq
    refine ⟨_, rfl, p, b, 6, rfl, B2, by decide, by decide, fun m H3 hm0 hm5 B3 e3 => ?_⟩
    obtain ⟨m, rfl⟩ := Int.eq_ofNat_of_zero_le hm0
    refine ⟨_, _, rfl, rfl, _, _, rfl, ?_⟩
    refine ⟨_, rfl, _, rfl, _, rfl, p, b, q, w0, w1, w2, w3, w4, 1 + m, ?_, B3, e3 _ _ hq2, by omega, by omega, by omega, by omega, fun v t H4 hdt hov hv B4 e4 => ?_⟩
    · show [V.ref p, V.ref q, V.int (1 + (m : Int))] = _
      rw [show (1 + (m : Int)) = ((1 + m : Nat) : Int) by omega]
    have hq4 := e4 _ _ (e3 _ _ hq2)
    have hv4 : Dp K H4 v t.toD := Dp.mono hide_le _ _ hv
    -- a test, a test once more denied
    refine ⟨_, rfl, v, t.toD, rfl, hv4, Sm_over W 7 t hov, fun G1 g1 => ?_⟩
    rw [isT_over W 6 t hov, decide_eq_true (by omega)]
    refine ⟨_, rfl, (by show 2 ≤ sizeLine; decide), fun n hn => ?_⟩
    have k1 := g1.trans (same_new hn (.tup [.str "not", v]))
    have hn1 : (upd G1 n (.tup [.str "not", v])) n = some (.tup [.str "not", v]) := upd_same
    refine ⟨.ref n, (Tst.neg t).toD, rfl, .tup (SqT.of hn1) (.cons (.str _) (.cons (Dp.mono k1 _ _ hv4) .nil)), Sm_over W 7 (.neg t) hov, fun G2 g2 => ?_⟩
    rw [isT_over W 6 (.neg t) hov]
    have k2 := k1.trans g2
    refine ⟨(by show 2 ≤ sizeLine; decide), fun m1 hm1 => ?_⟩
    have s3 := same_new hm1 (.lst [.bl true, .bl (decide ((Tst.neg t).deep ≤ 6))])
    have hm1' : (upd G2 m1 (.lst [.bl true, .bl (decide ((Tst.neg t).deep ≤ 6))])) m1 = some (.lst [.bl true, .bl (decide ((Tst.neg t).deep ≤ 6))]) := upd_same
    refine ⟨_, rfl, _, _, rfl, rfl, ?_⟩
    have ed : decide ((1 : Int) + (m : Int) < 6) = decide ((Tst.neg t).deep ≤ 6) := by
      have dn : (Tst.neg t).deep = t.deep + 1 := rfl
      by_cases h : m < 5
      · rw [decide_eq_true (by omega), decide_eq_true (by omega)]
      · rw [decide_eq_false (by omega), decide_eq_false (by omega)]
    refine ⟨(by show 2 ≤ sizeLine; decide), fun m2 hm2 => ?_⟩
    have s4 := same_new hm2 (.lst [.bl true, .bl (decide ((1 : Int) + (m : Int) < 6))])
    have hm2' : (upd (upd G2 m1 (.lst [.bl true, .bl (decide ((Tst.neg t).deep ≤ 6))])) m2 (.lst [.bl true, .bl (decide ((1 : Int) + (m : Int) < 6))])) m2 = some (.lst [.bl true, .bl (decide ((Tst.neg t).deep ≤ 6))]) := by
      rw [upd_same, ed]
    refine ⟨_, _, .list [.bool true, .bool (decide ((Tst.neg t).deep ≤ 6))], rfl, .lst (SqL.of (s4 _ _ hm1')) (.cons (.bl _) (.cons (.bl _) .nil)), .lst (SqL.of hm2') (.cons (.bl _) (.cons (.bl _) .nil)), ?_, fun G5 g5 => ?_⟩
    · refine ⟨(by show 2 < 1000000; decide), fun e he => ?_⟩
      rcases List.mem_cons.mp he with rfl | he
      · exact True.intro
      obtain rfl := List.mem_singleton.mp he
      exact True.intro
    refine ⟨_, rfl, ?_⟩
    refine iteF ?_
    have k5 := k2.trans (s3.trans (s4.trans g5))
    have B5 := B4.mono k5
    have hv5 := Dp.mono (hide_mono k5) _ _ hv
    -- a bent one
    refine ⟨_, rfl, _, rfl, _, rfl, p, b, v, .ref q, w0, w1, w2, w3, w4, t, rfl, B5, W, hov, by omega, hv5, fun r d H6 hbad hsm hr6 B6 e6 => ?_⟩
    refine ⟨_, rfl, r, d, rfl, Dp.mono hide_le _ _ hr6, hsm 7, fun G7 g7 => ?_⟩
    refine ⟨_, _, rfl, rfl, _, rfl, ?_⟩
    refine iteNS (hbad 6) ?_
    have B7 := B6.mono g7
    have e47 : But p H4 G7 := Same.trans (But.of k5) (Same.trans e6 (But.of g7))
    have hq7 := e47 _ _ hq4
    have hv7 := Dp.mono e47 _ _ hv
    have sq7 : SqL K G7 q [nameV w0, nameV w1, nameV w2, nameV w3, nameV w4] := SqL.of (hide_le _ _ hq7)
    -- an odd one
    refine ⟨_, rfl, (by show 2 ≤ sizeLine; decide), fun t1 ht1 => ?_⟩
    have s1 := same_new ht1 (.tup [.str "not", .non])
    refine ⟨_, rfl, q, _, _, _, rfl, rfl, s1.seq sq7, rfl, (by show 2 ≤ sizeLine; decide), fun t2 ht2 => ?_⟩
    refine ⟨_, rfl, (by show 2 ≤ sizeLine; decide), fun t3 ht3 => ⟨(by show 3 ≤ sizeLine; decide), fun m3 hm3 => ?_⟩⟩
    have C1 := B7.new ht1 (.tup [.str "not", .non])
    have C2 := C1.new ht2 (.tup [.str "is", nameV w0])
    have C3 := C2.new ht3 (.tup [.str "or", v])
    have C4 := C3.new hm3 (.lst [.ref t1, .ref t2, .ref t3])
    have f1 : hide p (upd G7 t1 (.tup [.str "not", .non])) t1 = some (.tup [.str "not", .non]) := hid_same (B7.ne ht1)
    have f2 : hide p (upd (upd G7 t1 (.tup [.str "not", .non])) t2 (.tup [.str "is", nameV w0])) t2 = some (.tup [.str "is", nameV w0]) := hid_same (C1.ne ht2)
    have f3 : hide p (upd (upd (upd G7 t1 (.tup [.str "not", .non])) t2 (.tup [.str "is", nameV w0])) t3 (.tup [.str "or", v])) t3 = some (.tup [.str "or", v]) := hid_same (C2.ne ht3)
    have s2 := same_new ht2 (.tup [.str "is", nameV w0])
    have s3' := same_new ht3 (.tup [.str "or", v])
    have s4' := same_new hm3 (.lst [.ref t1, .ref t2, .ref t3])
    have sall := s1.trans (s2.trans (s3'.trans s4'))
    refine ⟨p, b, m3, _, [.tuple [.str "not", .none], .tuple [.str "is", .str (S w0)], .tuple [.str "or", t.toD]], rfl, C4, upd_same, C3.ne hm3, ?_, (by show 3 ≤ 100; decide), fun v' d' H8 hd' hv' B8 e8 => ?_⟩
    · exact .cons (.tup (SqT.of (hide_mono (s2.trans (s3'.trans s4')) _ _ f1)) (.cons (.str _) (.cons .non .nil)))
        (.cons (.tup (SqT.of (hide_mono (s3'.trans s4') _ _ f2)) (.cons (.str _) (.cons (.str _) .nil)))
        (.cons (.tup (SqT.of (hide_mono s4' _ _ f3)) (.cons (.str _) (.cons (Dp.mono (hide_mono sall) _ _ hv7) .nil))) .nil))
    have hbs : isT 6 d' = false ∧ SmAll d' := by
      rcases List.mem_append.mp hd' with h | h
      · refine ⟨?_, odds_sm d' h⟩
        have := List.all_eq_true.mp odds_bad d' h
        simpa using this
      · rcases List.mem_cons.mp h with rfl | h
        · refine ⟨bad_all (rest := [.none]) pn_not List.mem_cons_self (fun m => by cases m <;> rfl) 6, smAll_tup (by decide) fun d hd => ?_⟩
          rcases List.mem_cons.mp hd with rfl | hd
          · exact smAll_str (by decide +kernel)
          · obtain rfl := List.mem_singleton.mp hd
            exact fun m => by cases m <;> exact True.intro
        rcases List.mem_cons.mp h with rfl | h
        · refine ⟨bad_leaf (rest := [.str (S w0)]) pn_is (by rw [leaf_is]; rfl) 6, smAll_tup (by show 2 ≤ 1000; decide) fun d hd => ?_⟩
          rcases List.mem_cons.mp hd with rfl | hd
          · exact smAll_str (by decide +kernel)
          · obtain rfl := List.mem_singleton.mp hd
            exact smAll_str (by rw [SX.S_len]; omega)
        obtain rfl := List.mem_singleton.mp h
        refine ⟨bad_len (rest := [t.toD]) pn_or (by show ¬ 1 = 2; decide) 6, smAll_tup (by show 2 ≤ 1000; decide) fun d hd => ?_⟩
        rcases List.mem_cons.mp hd with rfl | hd
        · exact smAll_str (by decide +kernel)
        · obtain rfl := List.mem_singleton.mp hd
          exact fun m => Sm_over W m t hov
    refine ⟨v', d', rfl, Dp.mono hide_le _ _ hv', hbs.2 7, fun G9 g9 => ?_⟩
    refine ⟨_, _, rfl, rfl, _, rfl, ?_⟩
    refine iteNS hbs.1 ?_
    exact ⟨_, _, _, _, _, rfl, B8.mono g9⟩
  · rintro σ H1 ⟨o2, o3, o4, o5, o6, rfl, B1⟩
    refine ⟨(by show 3 ≤ sizeLine; decide), fun t1 ht1 => ?_⟩
    refine ⟨.ref t1, .tuple [.str "is", .str "a.b.c", .str "d"], rfl, .tup (SqT.of upd_same) (.cons (.str _) (.cons (.str _) (.cons (.str _) .nil))), ?_, fun G1 g1 => ?_⟩
    · refine smAll_tup (by decide) (fun d hd => ?_) 7
      simp only [List.mem_cons, List.not_mem_nil, or_false] at hd
      rcases hd with rfl | rfl | rfl <;> exact smAll_str (by decide +kernel)
    refine ⟨_, rfl, _, rfl, ?_⟩
    refine iteTk (by decide +kernel) ?_
    refine ⟨(by show 3 ≤ sizeLine; decide), fun t2 ht2 => ?_⟩
    refine ⟨.ref t2, .tuple [.str "is", .str "a.b", .str "d"], rfl, .tup (SqT.of upd_same) (.cons (.str _) (.cons (.str _) (.cons (.str _) .nil))), ?_, fun G2 g2 => ?_⟩
    · refine smAll_tup (by decide) (fun d hd => ?_) 7
      simp only [List.mem_cons, List.not_mem_nil, or_false] at hd
      rcases hd with rfl | rfl | rfl <;> exact smAll_str (by decide +kernel)
    refine ⟨_, rfl, ?_⟩
    refine iteTk (by decide +kernel) ?_
    refine ⟨(by show 2 ≤ sizeLine; decide), fun t3 ht3 => ?_⟩
    refine ⟨.ref t3, .tuple [.str "has", .str "a.b"], rfl, .tup (SqT.of upd_same) (.cons (.str _) (.cons (.str _) .nil)), ?_, fun G3 g3 => ?_⟩
    · refine smAll_tup (by decide) (fun d hd => ?_) 7
      simp only [List.mem_cons, List.not_mem_nil, or_false] at hd
      rcases hd with rfl | rfl <;> exact smAll_str (by decide +kernel)
    refine ⟨_, rfl, ?_⟩
    have e : isT 6 (.tuple [.str "has", .str "a.b"]) = false := by decide +kernel
    rw [e]
    exact k G3
end
end Bl

namespace Bl
open PySem L2
theorem top_mk {K : PySem.W.Frag} {w : World} {h : Heap} {mg : Str → Option Value} {fa : Addr} (X : K.In h) (G : h.Ns mainGlobals mg) (hfa : mg "law" = some (.ref fa))
    {a0 : Addr} {od0 an0 : Option Addr} {sl0 : Array (Option Value)} {oc0 kV0 dc0 pm0 cd0 ct0 : Value}
    {a1 : Addr} {od1 an1 : Option Addr} {sl1 : Array (Option Value)} {oc1 kV1 dc1 pm1 cd1 ct1 : Value}
    {a2 : Addr} {od2 an2 : Option Addr} {sl2 : Array (Option Value)} {oc2 kV2 dc2 pm2 cd2 ct2 : Value}
    {a3 : Addr} {od3 an3 : Option Addr} {sl3 : Array (Option Value)} {oc3 kV3 dc3 pm3 cd3 ct3 : Value}
    {a4 : Addr} {od4 an4 : Option Addr} {sl4 : Array (Option Value)} {oc4 kV4 dc4 pm4 cd4 ct4 : Value}
    {a5 : Addr} {od5 an5 : Option Addr} {sl5 : Array (Option Value)} {oc5 kV5 dc5 pm5 cd5 ct5 : Value}
    {a6 : Addr} {od6 an6 : Option Addr} {sl6 : Array (Option Value)} {oc6 kV6 dc6 pm6 cd6 ct6 : Value}
    {a7 : Addr} {od7 an7 : Option Addr} {sl7 : Array (Option Value)} {oc7 kV7 dc7 pm7 cd7 ct7 : Value}
    {a8 : Addr} {od8 an8 : Option Addr} {sl8 : Array (Option Value)} {oc8 kV8 dc8 pm8 cd8 ct8 : Value}
    {a9 : Addr} {od9 an9 : Option Addr} {sl9 : Array (Option Value)} {oc9 kV9 dc9 pm9 cd9 ct9 : Value}
    {a10 : Addr} {od10 an10 : Option Addr} {sl10 : Array (Option Value)} {oc10 kV10 dc10 pm10 cd10 ct10 : Value}
    {a11 : Addr} {od11 an11 : Option Addr} {sl11 : Array (Option Value)} {oc11 kV11 dc11 pm11 cd11 ct11 : Value}
    {a12 : Addr} {od12 an12 : Option Addr} {sl12 : Array (Option Value)} {oc12 kV12 dc12 pm12 cd12 ct12 : Value}
    {t_LETTERS : Tok}
    {t_LONGEST_NAME : Tok}
    {t_DEEPEST : Tok}
    {p_PARTS : Addr} {n_PARTS : Nat} {h0 h1 h2 : Int} {tp0 tp1 tp2 up0 up1 up2 : Tok}
    (A0 : PySem.W.nsIn K mainGlobals "is_name" = some (some (.ref a0))) (L0 : K.lookup a0 = some ⟨oc0, od0, .func (PySem.W.fnOf "is_name" "is_name" (defArgs s_is_name) (defBody s_is_name) (defScope s_is_name) .none kV0 dc0 pm0 an0 cd0 ct0), sl0⟩) (C0 : PySem.W.codeIn K cd0 "is_name" = true) (K0 : PySem.W.keepIn K (.ref a0) = true)
    (A1 : PySem.W.nsIn K mainGlobals "is_column" = some (some (.ref a1))) (L1 : K.lookup a1 = some ⟨oc1, od1, .func (PySem.W.fnOf "is_column" "is_column" (defArgs s_is_column) (defBody s_is_column) (defScope s_is_column) .none kV1 dc1 pm1 an1 cd1 ct1), sl1⟩) (C1 : PySem.W.codeIn K cd1 "is_column" = true) (K1 : PySem.W.keepIn K (.ref a1) = true)
    (A2 : PySem.W.nsIn K mainGlobals "is_test" = some (some (.ref a2))) (L2 : K.lookup a2 = some ⟨oc2, od2, .func (PySem.W.fnOf "is_test" "is_test" (defArgs s_is_test) (defBody s_is_test) (defScope s_is_test) .none kV2 dc2 pm2 an2 cd2 ct2), sl2⟩) (C2 : PySem.W.codeIn K cd2 "is_test" = true) (K2 : PySem.W.keepIn K (.ref a2) = true)
    (A3 : PySem.W.nsIn K mainGlobals "_is_test_within" = some (some (.ref a3))) (L3 : K.lookup a3 = some ⟨oc3, od3, .func (PySem.W.fnOf "_is_test_within" "_is_test_within" (defArgs s_is_test_within) (defBody s_is_test_within) (defScope s_is_test_within) .none kV3 dc3 pm3 an3 cd3 ct3), sl3⟩) (C3 : PySem.W.codeIn K cd3 "_is_test_within" = true) (K3 : PySem.W.keepIn K (.ref a3) = true)
    (A4 : PySem.W.nsIn K mainGlobals "_law_box" = some (some (.ref a4))) (L4 : K.lookup a4 = some ⟨oc4, od4, .func (PySem.W.fnOf "_law_box" "_law_box" (defArgs s_box) (defBody s_box) (defScope s_box) .none kV4 dc4 pm4 an4 cd4 ct4), sl4⟩) (C4 : PySem.W.codeIn K cd4 "_law_box" = true) (K4 : PySem.W.keepIn K (.ref a4) = true)
    (A5 : PySem.W.nsIn K mainGlobals "_law_pull" = some (some (.ref a5))) (L5 : K.lookup a5 = some ⟨oc5, od5, .func (PySem.W.fnOf "_law_pull" "_law_pull" (defArgs s_pull) (defBody s_pull) (defScope s_pull) .none kV5 dc5 pm5 an5 cd5 ct5), sl5⟩) (C5 : PySem.W.codeIn K cd5 "_law_pull" = true) (K5 : PySem.W.keepIn K (.ref a5) = true)
    (A6 : PySem.W.nsIn K mainGlobals "_law_of" = some (some (.ref a6))) (L6 : K.lookup a6 = some ⟨oc6, od6, .func (PySem.W.fnOf "_law_of" "_law_of" (defArgs s_of) (defBody s_of) (defScope s_of) .none kV6 dc6 pm6 an6 cd6 ct6), sl6⟩) (C6 : PySem.W.codeIn K cd6 "_law_of" = true) (K6 : PySem.W.keepIn K (.ref a6) = true)
    (A7 : PySem.W.nsIn K mainGlobals "_law_names" = some (some (.ref a7))) (L7 : K.lookup a7 = some ⟨oc7, od7, .func (PySem.W.fnOf "_law_names" "_law_names" (defArgs s_names) (defBody s_names) (defScope s_names) .none kV7 dc7 pm7 an7 cd7 ct7), sl7⟩) (C7 : PySem.W.codeIn K cd7 "_law_names" = true) (K7 : PySem.W.keepIn K (.ref a7) = true)
    (A8 : PySem.W.nsIn K mainGlobals "_law_same" = some (some (.ref a8))) (L8 : K.lookup a8 = some ⟨oc8, od8, .func (PySem.W.fnOf "_law_same" "_law_same" (defArgs s_same) (defBody s_same) (defScope s_same) .none kV8 dc8 pm8 an8 cd8 ct8), sl8⟩) (C8 : PySem.W.codeIn K cd8 "_law_same" = true) (K8 : PySem.W.keepIn K (.ref a8) = true)
    (A9 : PySem.W.nsIn K mainGlobals "_law_odd" = some (some (.ref a9))) (L9 : K.lookup a9 = some ⟨oc9, od9, .func (PySem.W.fnOf "_law_odd" "_law_odd" (defArgs s_odd) (defBody s_odd) (defScope s_odd) .none kV9 dc9 pm9 an9 cd9 ct9), sl9⟩) (C9 : PySem.W.codeIn K cd9 "_law_odd" = true) (K9 : PySem.W.keepIn K (.ref a9) = true)
    (A10 : PySem.W.nsIn K mainGlobals "_law_free_test" = some (some (.ref a10))) (L10 : K.lookup a10 = some ⟨oc10, od10, .func (PySem.W.fnOf "_law_free_test" "_law_free_test" (defArgs s_free_test) (defBody s_free_test) (defScope s_free_test) .none kV10 dc10 pm10 an10 cd10 ct10), sl10⟩) (C10 : PySem.W.codeIn K cd10 "_law_free_test" = true) (K10 : PySem.W.keepIn K (.ref a10) = true)
    (A11 : PySem.W.nsIn K mainGlobals "_law_bent_test" = some (some (.ref a11))) (L11 : K.lookup a11 = some ⟨oc11, od11, .func (PySem.W.fnOf "_law_bent_test" "_law_bent_test" (defArgs s_bent_test) (defBody s_bent_test) (defScope s_bent_test) .none kV11 dc11 pm11 an11 cd11 ct11), sl11⟩) (C11 : PySem.W.codeIn K cd11 "_law_bent_test" = true) (K11 : PySem.W.keepIn K (.ref a11) = true)
    (A12 : PySem.W.nsIn K mainGlobals "law" = some (some (.ref a12))) (L12 : K.lookup a12 = some ⟨oc12, od12, .func (PySem.W.fnOf "law" "law" (defArgs s_law) (defBody s_law) (defScope s_law) .none kV12 dc12 pm12 an12 cd12 ct12), sl12⟩) (C12 : PySem.W.codeIn K cd12 "law" = true) (K12 : PySem.W.keepIn K (.ref a12) = true)
    (Z0 : PySem.W.nsIn K mainGlobals "abs" = some none)
    (Z1 : PySem.W.nsIn K mainGlobals "all" = some none)
    (Z2 : PySem.W.nsIn K mainGlobals "bool" = some none)
    (Z3 : PySem.W.nsIn K mainGlobals "int" = some none)
    (Z4 : PySem.W.nsIn K mainGlobals "isinstance" = some none)
    (Z5 : PySem.W.nsIn K mainGlobals "len" = some none)
    (Z6 : PySem.W.nsIn K mainGlobals "list" = some none)
    (Z7 : PySem.W.nsIn K mainGlobals "min" = some none)
    (Z8 : PySem.W.nsIn K mainGlobals "range" = some none)
    (Z9 : PySem.W.nsIn K mainGlobals "str" = some none)
    (Z10 : PySem.W.nsIn K mainGlobals "tuple" = some none)
    (Z11 : PySem.W.nsIn K mainGlobals "zip" = some none)
    (Y0 : PySem.W.nsIn K mainGlobals "LETTERS" = some (some (.str "abcdefghijklmnopqrstuvwxyz" t_LETTERS)))
    (Y1 : PySem.W.nsIn K mainGlobals "LONGEST_NAME" = some (some (.int 6 t_LONGEST_NAME)))
    (Y2 : PySem.W.nsIn K mainGlobals "DEEPEST" = some (some (.int 6 t_DEEPEST)))
    (Y3 : PySem.W.nsIn K mainGlobals "PARTS" = some (some (.ref p_PARTS))) (W_PARTS : K.lookup p_PARTS = some ⟨.type "dict", none, .dict #[⟨h0, .str "not" tp0, .int 1 up0⟩, ⟨h1, .str "and" tp1, .int 2 up1⟩, ⟨h2, .str "or" tp2, .int 2 up2⟩] n_PARTS, #[]⟩) (V_PARTS : PySem.W.KeysLit w.params [⟨h0, .str "not" tp0, .int 1 up0⟩, ⟨h1, .str "and" tp1, .int 2 up1⟩, ⟨h2, .str "or" tp2, .int 2 up2⟩]) (U_PARTS : (p_PARTS == sysModules) = false) :
    ∃ T : Top K w mg, T.a_law = fa ∧ ∀ (s : Shared) (v : Value), BindsTo s T.d_law ⟨[v], []⟩ [("_law_script", v)] := by
  have e : a12 = fa := (Value.ref.inj (Option.some.inj (hfa.symm.trans (PySem.W.mg_of X G A12)))).symm
  subst e
  exact ⟨{
    a_is_name := a0, d_is_name := PySem.W.fnOf "is_name" "is_name" (defArgs s_is_name) (defBody s_is_name) (defScope s_is_name) .none kV0 dc0 pm0 an0 cd0 ct0, F_is_name := fun_mk (st := s_is_name) L0 C0 K0, m_is_name := PySem.W.mg_of X G A0, b_is_name := (fun_mk (st := s_is_name) L0 C0 K0).binds (ps := ["value"]) fun _ _ _ _ _ _ us hl => match us, hl with | [_], _ => rfl,
    a_is_column := a1, d_is_column := PySem.W.fnOf "is_column" "is_column" (defArgs s_is_column) (defBody s_is_column) (defScope s_is_column) .none kV1 dc1 pm1 an1 cd1 ct1, F_is_column := fun_mk (st := s_is_column) L1 C1 K1, m_is_column := PySem.W.mg_of X G A1, b_is_column := (fun_mk (st := s_is_column) L1 C1 K1).binds (ps := ["value"]) fun _ _ _ _ _ _ us hl => match us, hl with | [_], _ => rfl,
    a_is_test := a2, d_is_test := PySem.W.fnOf "is_test" "is_test" (defArgs s_is_test) (defBody s_is_test) (defScope s_is_test) .none kV2 dc2 pm2 an2 cd2 ct2, F_is_test := fun_mk (st := s_is_test) L2 C2 K2, m_is_test := PySem.W.mg_of X G A2, b_is_test := (fun_mk (st := s_is_test) L2 C2 K2).binds (ps := ["value"]) fun _ _ _ _ _ _ us hl => match us, hl with | [_], _ => rfl,
    a_is_test_within := a3, d_is_test_within := PySem.W.fnOf "_is_test_within" "_is_test_within" (defArgs s_is_test_within) (defBody s_is_test_within) (defScope s_is_test_within) .none kV3 dc3 pm3 an3 cd3 ct3, F_is_test_within := fun_mk (st := s_is_test_within) L3 C3 K3, m_is_test_within := PySem.W.mg_of X G A3, b_is_test_within := (fun_mk (st := s_is_test_within) L3 C3 K3).binds (ps := ["value", "deepest"]) fun _ _ _ _ _ _ us hl => match us, hl with | [_, _], _ => rfl,
    a_box := a4, d_box := PySem.W.fnOf "_law_box" "_law_box" (defArgs s_box) (defBody s_box) (defScope s_box) .none kV4 dc4 pm4 an4 cd4 ct4, F_box := fun_mk (st := s_box) L4 C4 K4, m_box := PySem.W.mg_of X G A4, b_box := (fun_mk (st := s_box) L4 C4 K4).binds (ps := ["_law_script"]) fun _ _ _ _ _ _ us hl => match us, hl with | [_], _ => rfl,
    a_pull := a5, d_pull := PySem.W.fnOf "_law_pull" "_law_pull" (defArgs s_pull) (defBody s_pull) (defScope s_pull) .none kV5 dc5 pm5 an5 cd5 ct5, F_pull := fun_mk (st := s_pull) L5 C5 K5, m_pull := PySem.W.mg_of X G A5, b_pull := (fun_mk (st := s_pull) L5 C5 K5).binds (ps := ["_law_box_here", "_law_many"]) fun _ _ _ _ _ _ us hl => match us, hl with | [_, _], _ => rfl,
    a_of := a6, d_of := PySem.W.fnOf "_law_of" "_law_of" (defArgs s_of) (defBody s_of) (defScope s_of) .none kV6 dc6 pm6 an6 cd6 ct6, F_of := fun_mk (st := s_of) L6 C6 K6, m_of := PySem.W.mg_of X G A6, b_of := (fun_mk (st := s_of) L6 C6 K6).binds (ps := ["_law_box_here", "_law_some"]) fun _ _ _ _ _ _ us hl => match us, hl with | [_, _], _ => rfl,
    a_names := a7, d_names := PySem.W.fnOf "_law_names" "_law_names" (defArgs s_names) (defBody s_names) (defScope s_names) .none kV7 dc7 pm7 an7 cd7 ct7, F_names := fun_mk (st := s_names) L7 C7 K7, m_names := PySem.W.mg_of X G A7, b_names := (fun_mk (st := s_names) L7 C7 K7).binds (ps := ["_law_box_here", "_law_many"]) fun _ _ _ _ _ _ us hl => match us, hl with | [_, _], _ => rfl,
    a_same := a8, d_same := PySem.W.fnOf "_law_same" "_law_same" (defArgs s_same) (defBody s_same) (defScope s_same) .none kV8 dc8 pm8 an8 cd8 ct8, F_same := fun_mk (st := s_same) L8 C8 K8, m_same := PySem.W.mg_of X G A8, b_same := (fun_mk (st := s_same) L8 C8 K8).binds (ps := ["_law_found", "_law_due"]) fun _ _ _ _ _ _ us hl => match us, hl with | [_, _], _ => rfl,
    a_odd := a9, d_odd := PySem.W.fnOf "_law_odd" "_law_odd" (defArgs s_odd) (defBody s_odd) (defScope s_odd) .none kV9 dc9 pm9 an9 cd9 ct9, F_odd := fun_mk (st := s_odd) L9 C9 K9, m_odd := PySem.W.mg_of X G A9, b_odd := (fun_mk (st := s_odd) L9 C9 K9).binds (ps := ["_law_box_here", "_law_more"]) fun _ _ _ _ _ _ us hl => match us, hl with | [_, _], _ => rfl,
    a_free_test := a10, d_free_test := PySem.W.fnOf "_law_free_test" "_law_free_test" (defArgs s_free_test) (defBody s_free_test) (defScope s_free_test) .none kV10 dc10 pm10 an10 cd10 ct10, F_free_test := fun_mk (st := s_free_test) L10 C10 K10, m_free_test := PySem.W.mg_of X G A10, b_free_test := (fun_mk (st := s_free_test) L10 C10 K10).binds (ps := ["_law_box_here", "_law_words", "_law_deep"]) fun _ _ _ _ _ _ us hl => match us, hl with | [_, _, _], _ => rfl,
    a_bent_test := a11, d_bent_test := PySem.W.fnOf "_law_bent_test" "_law_bent_test" (defArgs s_bent_test) (defBody s_bent_test) (defScope s_bent_test) .none kV11 dc11 pm11 an11 cd11 ct11, F_bent_test := fun_mk (st := s_bent_test) L11 C11 K11, m_bent_test := PySem.W.mg_of X G A11, b_bent_test := (fun_mk (st := s_bent_test) L11 C11 K11).binds (ps := ["_law_box_here", "_law_test", "_law_words"]) fun _ _ _ _ _ _ us hl => match us, hl with | [_, _, _], _ => rfl,
    a_law := a12, d_law := PySem.W.fnOf "law" "law" (defArgs s_law) (defBody s_law) (defScope s_law) .none kV12 dc12 pm12 an12 cd12 ct12, F_law := fun_mk (st := s_law) L12 C12 K12, m_law := PySem.W.mg_of X G A12, b_law := (fun_mk (st := s_law) L12 C12 K12).binds (ps := ["_law_script"]) fun _ _ _ _ _ _ us hl => match us, hl with | [_], _ => rfl,
    z_abs := PySem.W.mg_none_of X G Z0,
    z_all := PySem.W.mg_none_of X G Z1,
    z_bool := PySem.W.mg_none_of X G Z2,
    z_int := PySem.W.mg_none_of X G Z3,
    z_isinstance := PySem.W.mg_none_of X G Z4,
    z_len := PySem.W.mg_none_of X G Z5,
    z_list := PySem.W.mg_none_of X G Z6,
    z_min := PySem.W.mg_none_of X G Z7,
    z_range := PySem.W.mg_none_of X G Z8,
    z_str := PySem.W.mg_none_of X G Z9,
    z_tuple := PySem.W.mg_none_of X G Z10,
    z_zip := PySem.W.mg_none_of X G Z11,
    t_LETTERS := t_LETTERS, c_LETTERS := PySem.W.mg_of X G Y0, r_LETTERS := ⟨_, rfl⟩,
    t_LONGEST_NAME := t_LONGEST_NAME, c_LONGEST_NAME := PySem.W.mg_of X G Y1, r_LONGEST_NAME := ⟨_, rfl⟩,
    t_DEEPEST := t_DEEPEST, c_DEEPEST := PySem.W.mg_of X G Y2, r_DEEPEST := ⟨_, rfl⟩,
    p_PARTS := p_PARTS, c_PARTS := PySem.W.mg_of X G Y3, r_PARTS := rfl, q_PARTS := fun _ => parts_mk W_PARTS V_PARTS U_PARTS }, rfl, fun s v => .of_eq rfl⟩
theorem all_mk {l : PySem.W.OpenLaw} {w : World} {K : PySem.W.Frag} {mg : Str → Option Value} {fa : Addr}
    (h : ∃ T : Top K w mg, T.a_law = fa ∧ ∀ (s : Shared) (v : Value), BindsTo s T.d_law ⟨[v], []⟩ [("_law_script", v)]) :
    ∃ fd : FuncData, (∀ (s : Shared) (v : Value), BindsTo s fd ⟨[v], []⟩ [("_law_script", v)]) ∧ ∀ base : Heap, K.In base → base.Ns mainGlobals mg → FnOk l.prog w K mg base CX0 12 fa fd ["_law_script"] (spLaw K) := by
  obtain ⟨T, rfl, hb⟩ := h
  exact ⟨T.d_law, hb, fun base _ _ => ok_law T⟩
theorem walk {l : PySem.W.OpenLaw} {q : Program} {loose : List Str} {XP : (Str → Option Value) → Heap → Prop} {YP : World → Heap → Prop} {d : DefRec} {K : Params → PySem.W.Frag} (hn : l.most = some 63) (hdf : d.params.defaults = [])
    (hY : ∀ (w : World) (h : Heap), YP w h → (K w.params).In h)
    (F : ∀ (w : World) (mg : Str → Option Value) (fa : Addr) (h : Heap), (K w.params).In h → h.Ns mainGlobals mg → mg d.name = some (.ref fa) →
      ∃ fd : FuncData, (∀ (s : Shared) (u : Value), BindsTo s fd ⟨[u], []⟩ [("_law_script", u)]) ∧ ∀ base : Heap, (K w.params).In base → base.Ns mainGlobals mg → FnOk l.prog w (K w.params) mg base CX0 12 fa fd ["_law_script"] (spLaw (K w.params))) :
    PySem.W.WalkO q loose XP YP l.row.toRowW d [] (fun f vs => PySem.call f vs) :=
  L2.walk_of (n := 63) (k := 12) (x := "_law_script") (CX := fun _ => CX0) (sp := fun w => spLaw (K w.params)) hn (by decide) hdf ⟨rfl, by decide, by decide⟩ hY F (fun _ _ a ns hl _ hS => ⟨a, ns, rfl, hS, hl, fun _ => rfl⟩) fun _ _ _ _ _ z => z
end Bl
open PySem PySem.W PyProof.Rows
set_option maxRecDepth 100000 in
set_option maxHeartbeats 0 in
theorem PySem.Challenge.cw_bothlots_k02_tests_told_holds : PySem.Challenge.rw_bothlots_k02_tests_told.Holds := by
  w_on; o_law; k_head; (case hw => w_witness2)
  k_fill
  refine Bl.walk (l := PySem.Challenge.rw_bothlots_k02_tests_told) rfl rfl (fun w h Y => PySem.W.kIn_of Y) ?F
  case F =>
    intro w mg fa h KX G hmg
    refine Bl.all_mk ?H
    refine' Bl.top_mk KX G hmg ?A0 ?L0 ?C0 ?K0 ?A1 ?L1 ?C1 ?K1 ?A2 ?L2 ?C2 ?K2 ?A3 ?L3 ?C3 ?K3 ?A4 ?L4 ?C4 ?K4 ?A5 ?L5 ?C5 ?K5 ?A6 ?L6 ?C6 ?K6 ?A7 ?L7 ?C7 ?K7 ?A8 ?L8 ?C8 ?K8 ?A9 ?L9 ?C9 ?K9 ?A10 ?L10 ?C10 ?K10 ?A11 ?L11 ?C11 ?K11 ?A12 ?L12 ?C12 ?K12 ?Z0 ?Z1 ?Z2 ?Z3 ?Z4 ?Z5 ?Z6 ?Z7 ?Z8 ?Z9 ?Z10 ?Z11 ?Y0 ?Y1 ?Y2 ?Y3 ?W_PARTS ?V_PARTS ?U_PARTS
    (case A0 => k_is)
    (case L0 => k_is)
    (case C0 => k_is)
    (case K0 => k_is)
    (case A1 => k_is)
    (case L1 => k_is)
    (case C1 => k_is)
    (case K1 => k_is)
    (case A2 => k_is)
    (case L2 => k_is)
    (case C2 => k_is)
    (case K2 => k_is)
    (case A3 => k_is)
    (case L3 => k_is)
    (case C3 => k_is)
    (case K3 => k_is)
    (case A4 => k_is)
    (case L4 => k_is)
    (case C4 => k_is)
    (case K4 => k_is)
    (case A5 => k_is)
    (case L5 => k_is)
    (case C5 => k_is)
    (case K5 => k_is)
    (case A6 => k_is)
    (case L6 => k_is)
    (case C6 => k_is)
    (case K6 => k_is)
    (case A7 => k_is)
    (case L7 => k_is)
    (case C7 => k_is)
    (case K7 => k_is)
    (case A8 => k_is)
    (case L8 => k_is)
    (case C8 => k_is)
    (case K8 => k_is)
    (case A9 => k_is)
    (case L9 => k_is)
    (case C9 => k_is)
    (case K9 => k_is)
    (case A10 => k_is)
    (case L10 => k_is)
    (case C10 => k_is)
    (case K10 => k_is)
    (case A11 => k_is)
    (case L11 => k_is)
    (case C11 => k_is)
    (case K11 => k_is)
    (case A12 => k_is)
    (case L12 => k_is)
    (case C12 => k_is)
    (case K12 => k_is)
    (case Z0 => k_is)
    (case Z1 => k_is)
    (case Z2 => k_is)
    (case Z3 => k_is)
    (case Z4 => k_is)
    (case Z5 => k_is)
    (case Z6 => k_is)
    (case Z7 => k_is)
    (case Z8 => k_is)
    (case Z9 => k_is)
    (case Z10 => k_is)
    (case Z11 => k_is)
    (case Y0 => k_is)
    (case Y1 => k_is)
    (case Y2 => k_is)
    (case Y3 => k_is)
    (case W_PARTS => k_is)
    (case V_PARTS => exact ⟨⟨_, _, rfl, rfl⟩, ⟨_, _, rfl, rfl⟩, ⟨_, _, rfl, rfl⟩, True.intro⟩)
    (case U_PARTS => first | rfl | decide +kernel)

