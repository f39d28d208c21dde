import PyProof.Rows.All
import Wide.All
import OpenK.AllK
import Wide.FinOn
import HandS.ForMost
import HandS.Codes
import HandS.IsInst
import HandS.TupAny
import HandS.Style
import HandS.Walk
import HandS.Zip
import HandS.EndBits
import HandS.Dict
import HandS.More
import HandS.DictComp
import PySem.Challenge.RW_bothlots_k04_tests_hold
set_option Elab.async false
set_option maxRecDepth 100000
set_option maxHeartbeats 4000000
/-! the box of draws, kept apart from all else; data by its shape -/
namespace Bl
open PySem L2
theorem same_new {H : Hp} {p : Addr} (h : H p = none) (o : HO) : Same H (upd H p o) := fun b u q => by
  rw [upd_ne (ne_of_none q h)]
  exact q
theorem Same.tup {K : PySem.W.Frag} {H H' : Hp} {a : Addr} {xs : List V} (e : Same H H') (h : SqT K H a xs) : SqT K H' a xs := by
  rcases h with (h | ⟨o, h⟩) | h
  · exact .inl (.inl (e _ _ h))
  · exact .inl (.inr ⟨o, e _ _ h⟩)
  · exact .inr h
/-- the heap without what stands at p -/
def hide (p : Addr) (H : Hp) : Hp := fun b => if b = p then none else H b
theorem hide_ne {p b : Addr} {H : Hp} (h : b ≠ p) : hide p H b = H b := if_neg h
theorem hide_at {p : Addr} {H : Hp} : hide p H p = none := if_pos rfl
theorem hide_le {p : Addr} {H : Hp} : Same (hide p H) H := fun b o h => by
  by_cases e : b = p
  · subst e
    rw [hide_at] at h
    cases h
  · rw [hide_ne e] at h
    exact h
theorem hide_upd {p : Addr} {H : Hp} {o : HO} : hide p (upd H p o) = hide p H := by
  funext b
  by_cases e : b = p
  · rw [e, hide_at, hide_at]
  · rw [hide_ne e, hide_ne e, upd_ne e]
theorem hide_new {p q : Addr} {H : Hp} {o : HO} (h : q ≠ p) : hide p (upd H q o) = upd (hide p H) q o := by
  funext b
  by_cases e : b = p
  · rw [e, hide_at, upd_ne (Ne.symm h), hide_at]
  · rw [hide_ne e]
    by_cases f : b = q
    · rw [f, upd_same, upd_same]
    · rw [upd_ne f, upd_ne f, hide_ne e]
theorem hide_free {p q : Addr} {H : Hp} (h : H q = none) : hide p H q = none := by
  by_cases e : q = p
  · rw [e, hide_at]
  · rw [hide_ne e]
    exact h
theorem hide_mono {p : Addr} {H H' : Hp} (e : Same H H') : Same (hide p H) (hide p H') := fun b o h => by
  by_cases f : b = p
  · subst f
    rw [hide_at] at h
    cases h
  · rw [hide_ne f] at h ⊢
    exact e b o h
/-- all that was tracked, but what stands at p, is as it was -/
abbrev But (p : Addr) (H H' : Hp) : Prop := Same (hide p H) (hide p H')
theorem But.put {p : Addr} {H H1 : Hp} {o : HO} (a : But p H H1) : But p H (upd H1 p o) := by
  unfold But
  rw [hide_upd]
  exact a
theorem But.of {p : Addr} {H H1 : Hp} (a : Same H H1) : But p H H1 := hide_mono a
theorem But.new {p q : Addr} {H H1 : Hp} (a : But p H H1) (h : H1 q = none) (o : HO) : But p H (upd H1 q o) := Same.trans a (hide_mono (same_new h o))
/-- the law's box of draws -/
def boxL (l : Addr) (i w m c : Int) : List V := [.ref l, .int i, .int w, .int m, .int c]
structure BoxAt (H : Hp) (p l : Addr) : Prop where
  ex : ∃ (ns : List Int) (i w m c : Int), H p = some (.lst (boxL l i w m c)) ∧ hide p H l = some (.lst (ns.map V.int)) ∧ 0 ≤ i ∧ 0 ≤ m ∧ m < 2147483629
theorem BoxAt.mono {H H' : Hp} {p l : Addr} (b : BoxAt H p l) (e : Same H H') : BoxAt H' p l := by
  obtain ⟨ns, i, w, m, c, hp, hl, r⟩ := b
  exact ⟨ns, i, w, m, c, e _ _ hp, hide_mono e _ _ hl, r⟩
theorem BoxAt.new {H : Hp} {p q l : Addr} (b : BoxAt H p l) (h : H q = none) (o : HO) : BoxAt (upd H q o) p l := b.mono (same_new h o)
theorem BoxAt.ne {H : Hp} {p q l : Addr} (b : BoxAt H p l) (h : H q = none) : q ≠ p := by
  obtain ⟨ns, i, w, m, c, hp, _⟩ := b
  exact (ne_of_none hp h).symm
theorem BoxAt.nl {H : Hp} {p q l : Addr} (b : BoxAt H p l) (h : H q = none) : q ≠ l := by
  obtain ⟨ns, i, w, m, c, hp, hl, _⟩ := b
  exact (ne_of_none (hide_le _ _ hl) h).symm
/-- an object that is neither the box nor its cells may change -/
theorem BoxAt.mut {H : Hp} {p q l : Addr} (b : BoxAt H p l) (h : q ≠ p) (h2 : q ≠ l) (o : HO) : BoxAt (upd H q o) p l := by
  obtain ⟨ns, i, w, m, c, hp, hl, r⟩ := b
  exact ⟨ns, i, w, m, c, by rw [upd_ne h.symm]; exact hp, by rw [hide_new h, upd_ne h2.symm]; exact hl, r⟩
/-- an object that was not there may change -/
theorem But.mut {p q : Addr} {H H1 : Hp} (a : But p H H1) (h : H q = none) (o : HO) : But p H (upd H1 q o) := fun b u e => by
  have n1 : b ≠ p := by
    rintro rfl
    rw [hide_at] at e
    cases e
  have e1 := a b u e
  rw [hide_ne n1] at e e1 ⊢
  rw [upd_ne (ne_of_none e h)]
  exact e1
theorem Same.mut {q : Addr} {H H1 : Hp} (a : Same H H1) (h : H q = none) (o : HO) : Same H (upd H1 q o) := fun b u e => by
  rw [upd_ne (ne_of_none e h)]
  exact a b u e
/-- a new object is no box -/
theorem hid_same {p q : Addr} {H : Hp} {o : HO} (h : q ≠ p) : hide p (upd H q o) q = some o := by
  rw [hide_ne h, upd_same]

/-! what the draws promise -/
def spPull (K : PySem.W.Frag) : Sp := fun vs H Q _ => ∃ (p l : Addr) (n : Int), vs = [.ref p, .int n] ∧ BoxAt H p l ∧ 0 < n ∧ n < 1073741824 ∧
  ∀ (d : Int) (H' : Hp), 0 ≤ d → d < n → BoxAt H' p l → But p H H' → Q (.int d) H'
def spBox (K : PySem.W.Frag) : Sp := fun vs H Q _ => ∃ (a : Addr) (ns : List Int), vs = [.ref a] ∧ SqL K H a (ns.map V.int) ∧ ns.length ≤ 63 ∧
  ∀ (p l : Addr) (H' : Hp), H p = none → BoxAt H' p l → Same H H' → Q (.ref p) H'
/-- an item of a list, of a tuple, of a text -/
def spOf (K : PySem.W.Frag) : Sp := fun vs H Q _ => ∃ (p l : Addr) (v : V), vs = [.ref p, v] ∧ BoxAt H p l ∧
  ((∃ a xs, v = .ref a ∧ (SqL K (hide p H) a xs ∨ SqT K (hide p H) a xs) ∧ 0 < xs.length ∧ xs.length < 1000000 ∧ ∀ (i : Nat) (x : V) (H' : Hp), xs[i]? = some x → BoxAt H' p l → But p H H' → Q x H') ∨
    ∃ z : Str, v = .str z ∧ 0 < z.length ∧ z.length < 1000000 ∧ ∀ (c : Nat) (H' : Hp), c ∈ z.cps.toList → BoxAt H' p l → But p H H' → Q (.str ⟨#[c]⟩) H')

/-! small things -/
theorem atI_int {ns : List Int} {i : Int} (h0 : 0 ≤ i) (h : i < ns.length) : ∃ v : Int, atI (ns.map V.int) i = some (.int v) := by
  obtain ⟨n, rfl⟩ := Int.eq_ofNat_of_zero_le h0
  have hk : n < ns.length := by omega
  exact ⟨ns[n], atI_nat (by rw [List.getElem?_map, List.getElem?_eq_getElem hk] <;> rfl)⟩
theorem atI_some {xs : List V} {i : Int} (h0 : 0 ≤ i) (h : i < xs.length) : ∃ (n : Nat) (v : V), xs[n]? = some v ∧ atI xs i = some v := by
  obtain ⟨n, rfl⟩ := Int.eq_ofNat_of_zero_le h0
  have hk : n < xs.length := by omega
  exact ⟨n, xs[n], List.getElem?_eq_getElem hk, atI_nat (List.getElem?_eq_getElem hk)⟩
theorem mod_lt' {a b : Int} (h : 0 < b) : 0 ≤ a % b ∧ a % b < b := ⟨Int.emod_nonneg a (by omega), Int.emod_lt_of_pos a h⟩
theorem small {n : Nat} (h : n ≤ 1000000) : n ≤ sizeLine := Nat.le_trans h (by decide)
theorem small' {n : Nat} (h : n < 1000000) : n < sizeLine := Nat.lt_of_lt_of_le h (by decide)
theorem cutV_63 {ns : List Int} (h : ns.length ≤ 63) : cutV (ns.map V.int) none (some 63) = ns.map V.int := by
  unfold cutV
  rw [HT.sIx_none, show ((some 63 : Option Int)) = some ((63 : Nat) : Int) from rfl, HT.sIx_nat, List.length_map, List.drop_zero, List.take_of_length_le (by rw [List.length_map]; omega)]

/-! data -/
mutual
theorem Dp.mono {K : PySem.W.Frag} {H H' : Hp} (e : Same H H') : ∀ (d : PyData) (v : V), Dp K H v d → Dp K H' v d
  | .none, _, h => by cases h; exact .non
  | .bool _, _, h => by cases h; exact .bl _
  | .int _, _, h => by cases h; exact .int _
  | .str _, _, h => by cases h; exact .str _
  | .list ds, _, h => by
    cases h with
    | lst hs ha => exact .lst (e.seq hs) (DpAll.mono e ds _ ha)
  | .tuple ds, _, h => by
    cases h with
    | tup hs ha => exact .tup (Same.tup e hs) (DpAll.mono e ds _ ha)
  | .dict _, _, h => by cases h
theorem DpAll.mono {K : PySem.W.Frag} {H H' : Hp} (e : Same H H') : ∀ (ds : List PyData) (vs : List V), DpAll K H vs ds → DpAll K H' vs ds
  | [], _, h => by cases h; exact .nil
  | d :: ds, _, h => by
    cases h with
    | cons h1 h2 => exact .cons (Dp.mono e d _ h1) (DpAll.mono e ds _ h2)
end
theorem DpAll.len {K : PySem.W.Frag} {H : Hp} : ∀ {ds : List PyData} {vs : List V}, DpAll K H vs ds → vs.length = ds.length
  | [], _, h => by cases h; rfl
  | _ :: _, _, h => by
    cases h with
    | cons _ h2 => rw [List.length_cons, List.length_cons, DpAll.len h2]
theorem DpAll.get {K : PySem.W.Frag} {H : Hp} : ∀ {ds : List PyData} {vs : List V} {i : Nat} {v : V}, DpAll K H vs ds → vs[i]? = some v → ∃ d, ds[i]? = some d ∧ Dp K H v d
  | [], _, _, _, h, e => by cases h; simp at e
  | d :: ds, _, 0, v, h, e => by
    cases h with
    | cons h1 h2 =>
      simp at e
      subst e
      exact ⟨d, rfl, h1⟩
  | d :: ds, _, i + 1, v, h, e => by
    cases h with
    | cons h1 h2 => exact DpAll.get (i := i) h2 (by simpa using e)
theorem DpAll.app {K : PySem.W.Frag} {H : Hp} : ∀ {ds es : List PyData} {vs us : List V}, DpAll K H vs ds → DpAll K H us es → DpAll K H (vs ++ us) (ds ++ es)
  | [], _, _, _, h, k => by cases h; exact k
  | _ :: _, _, _, _, h, k => by
    cases h with
    | cons h1 h2 => exact .cons h1 (DpAll.app h2 k)
theorem tyL {K : PySem.W.Frag} {H : Hp} {a : Addr} {xs : List V} (h : SqL K H a xs) : TyX K H (.ref a) (.type "list") := by
  rcases h with (h | ⟨o, h⟩) | ⟨o, _, _, h, hc, _⟩
  · exact .base (.lst h)
  · exact .base (.frz h)
  · exact .kList h hc
theorem tyT {K : PySem.W.Frag} {H : Hp} {a : Addr} {xs : List V} (h : SqT K H a xs) : TyX K H (.ref a) (.type "tuple") := by
  rcases h with (h | ⟨o, h⟩) | ⟨o, _, _, h, hc, _⟩
  · exact .base (.tup h)
  · exact .fTuple h
  · exact .kTuple h hc
/-- the built-in type's name -/
def tyN : PyData → String
  | .none => "NoneType"
  | .bool _ => "bool"
  | .int _ => "int"
  | .str _ => "str"
  | .list _ => "list"
  | .tuple _ => "tuple"
  | .dict _ => "dict"
theorem Dp.ty {K : PySem.W.Frag} {H : Hp} : ∀ {d : PyData} {v : V}, Dp K H v d → TyX K H v (.type (tyN d))
  | .none, _, h => by cases h; exact .base .non
  | .bool _, _, h => by cases h; exact .base (.bl _)
  | .int _, _, h => by cases h; exact .base (.int _)
  | .str _, _, h => by cases h; exact .base (.str _)
  | .list ds, _, h => by
    cases h with
    | lst hs _ => exact tyL hs
  | .tuple ds, _, h => by
    cases h with
    | tup hs _ => exact tyT hs
  | .dict _, _, h => by cases h
def isD (T : String) (d : PyData) : Bool := (kitB (tyN d) T).getD false
theorem kit_d {K : PySem.W.Frag} {T : String} {d : PyData} (h : ∀ d : PyData, (kitB (tyN d) T).isSome = true) : PySem.W.kitOne K (.type (tyN d)) (.type T) = some (isD T d) := by
  refine kit_ty ?_
  have := h d
  unfold isD
  cases e : kitB (tyN d) T with
  | none => rw [e] at this; cases this
  | some b => rfl
theorem some_str (d : PyData) : (kitB (tyN d) "str").isSome = true := by cases d <;> (dsimp only [tyN]; decide +kernel)
theorem some_int (d : PyData) : (kitB (tyN d) "int").isSome = true := by cases d <;> (dsimp only [tyN]; decide +kernel)
theorem some_bool (d : PyData) : (kitB (tyN d) "bool").isSome = true := by cases d <;> (dsimp only [tyN]; decide +kernel)
theorem some_list (d : PyData) : (kitB (tyN d) "list").isSome = true := by cases d <;> (dsimp only [tyN]; decide +kernel)
theorem some_tuple (d : PyData) : (kitB (tyN d) "tuple").isSome = true := by cases d <;> (dsimp only [tyN]; decide +kernel)
theorem isStr_eq (d : PyData) : isD "str" d = (match d with | .str _ => true | _ => false) := by cases d <;> (dsimp only [isD, tyN]; decide +kernel)
theorem isInt_eq (d : PyData) : isD "int" d = (match d with | .int _ => true | .bool _ => true | _ => false) := by cases d <;> (dsimp only [isD, tyN]; decide +kernel)
theorem isBool_eq (d : PyData) : isD "bool" d = (match d with | .bool _ => true | _ => false) := by cases d <;> (dsimp only [isD, tyN]; decide +kernel)
theorem isList_eq (d : PyData) : isD "list" d = (match d with | .list _ => true | _ => false) := by cases d <;> (dsimp only [isD, tyN]; decide +kernel)
theorem isTuple_eq (d : PyData) : isD "tuple" d = (match d with | .tuple _ => true | _ => false) := by cases d <;> (dsimp only [isD, tyN]; decide +kernel)
/-- nested less than n deep, without dicts -/
def Fits : Nat → PyData → Prop
  | 0, _ => False
  | _ + 1, .none => True
  | _ + 1, .bool _ => True
  | _ + 1, .int _ => True
  | _ + 1, .str _ => True
  | n + 1, .list ds => ds.length < 1000000 ∧ ∀ d ∈ ds, Fits n d
  | n + 1, .tuple ds => ds.length < 1000000 ∧ ∀ d ∈ ds, Fits n d
  | _ + 1, .dict _ => False
/-- names -/
def alpha : List Nat := [97, 98, 99, 100, 101, 102, 103, 104, 105, 106, 107, 108, 109, 110, 111, 112, 113, 114, 115, 116, 117, 118, 119, 120, 121, 122]
def nameB (z : Str) : Bool := decide (1 ≤ z.length) && decide (z.length ≤ 6) && z.cps.toList.all (fun c => decide (c ∈ alpha))
def nameD : PyData → Bool
  | .str z => nameB z
  | _ => false
theorem alpha_eq : ("abcdefghijklmnopqrstuvwxyz" : Str).cps.toList = alpha := by decide +kernel
/-- what two same data are told -/
def spSame (K : PySem.W.Frag) (n : Nat) : Sp := fun vs H Q _ => ∃ (x y : V) (d : PyData), vs = [x, y] ∧ Dp K H x d ∧ Dp K H y d ∧ Fits n d ∧ ∀ H', Same H H' → Q (.bl true) H'
def spIsName (K : PySem.W.Frag) : Sp := fun vs H Q _ => ∃ (v : V) (d : PyData), vs = [v] ∧ Dp K H v d ∧ (∀ z, d = .str z → z.length ≤ 100000) ∧ ∀ H', Same H H' → Q (.bl (nameD d)) H'
def numD (lo hi : Int) : PyData → Bool
  | .int i => decide (lo ≤ i) && decide (i ≤ hi)
  | _ => false
def spIsNumber (K : PySem.W.Frag) : Sp := fun vs H Q _ => ∃ (v : V) (d : PyData) (lo hi : Int), vs = [v, .int lo, .int hi] ∧ Dp K H v d ∧ ∀ H', Same H H' → Q (.bl (numD lo hi d)) H'
/-- the odd values of the laws -/
def odds : List PyData := [.none, .bool true, .bool false, .str "", .str "A", .str "a1", .str "sevenst", .int (-1), .int 7, .tuple [.int 1, .str "a"], .list [.int 1], .tuple [], .int (10 ^ 14)]
def spOdd (K : PySem.W.Frag) : Sp := fun vs H Q _ => ∃ (p l q : Addr) (ys : List V) (ds : List PyData), vs = [.ref p, .ref q] ∧ BoxAt H p l ∧ H q = some (.lst ys) ∧ q ≠ p ∧ DpAll K (hide p H) ys ds ∧ ds.length ≤ 100 ∧
  ∀ (v : V) (d : PyData) (H' : Hp), d ∈ odds ++ ds → Dp K (hide p H') v d → BoxAt H' p l → But p H H' → Q v H'
end Bl

/-! names drawn: the words, as lists of code points -/
namespace Bl
open PySem L2
open SX (S)
def own : List Nat := [111, 119, 110]
def name4 : List Nat := [110, 97, 109, 101]
def tick4 : List Nat := [116, 105, 99, 107]
def worth5 : List Nat := [119, 111, 114, 116, 104]
theorem own_eq : ("own" : Str) = S own := by decide +kernel
theorem name4_eq : ("name" : Str) = S name4 := by decide +kernel
theorem tick4_eq : ("tick" : Str) = S tick4 := by decide +kernel
theorem worth5_eq : ("worth" : Str) = S worth5 := by decide +kernel
structure NameL (z : List Nat) : Prop where
  pos : 1 ≤ z.length
  six : z.length ≤ 6
  low : ∀ c ∈ z, c ∈ alpha
  no : z ≠ own ∧ z ≠ name4 ∧ z ≠ tick4 ∧ z ≠ worth5
theorem NameL.nameB {z : List Nat} (h : NameL z) : nameB (S z) = true := by
  unfold Bl.nameB
  rw [SX.S_len, decide_eq_true h.pos, decide_eq_true h.six, Bool.true_and, Bool.true_and, List.all_eq_true]
  intro c hc
  exact decide_eq_true (h.low c (by simpa [S] using hc))
theorem cut_pre {a : List Nat} {k : Nat} (h : k ≤ a.length) : cutS (S a) none (some (k : Int)) = S (a.take k) := by
  unfold cutS
  rw [HT.sIx_none, HT.sIx_nat, SX.S_len, List.drop_zero, Nat.sub_zero, Nat.min_eq_left h]
theorem cut_suf {a : List Nat} {k : Nat} (h : k ≤ a.length) : cutS (S a) (some (k : Int)) none = S (a.drop k) := by
  unfold cutS
  rw [HT.sIx_none, HT.sIx_nat, SX.S_len, Nat.min_eq_left h]
  have e : ((S a).cps.toList.drop k).take (a.length - k) = a.drop k := by
    show (a.toArray.toList.drop k).take (a.length - k) = a.drop k
    rw [List.toList_toArray, List.take_of_length_le (by rw [List.length_drop]; exact Nat.le_refl _)]
  rw [e]
theorem cutV_pre {xs : List V} {k : Nat} : cutV xs none (some (k : Int)) = xs.take k := by
  unfold cutV
  rw [HT.sIx_none, HT.sIx_nat, List.drop_zero, Nat.sub_zero]
  by_cases h : k ≤ xs.length
  · rw [Nat.min_eq_left h]
  · rw [Nat.min_eq_right (by omega), List.take_of_length_le (Nat.le_refl _), List.take_of_length_le (by omega)]
theorem alpha_len : alpha.length = 26 := rfl
theorem alpha_nd : alpha.Nodup := by decide
theorem str_ascii : ("abcdefghijklmnopqrstuvwxyz" : Str) = S alpha := by decide +kernel
/-- the k-th word -/
def wd (st : List Nat) (sp f k : Nat) : List Nat := st.take sp ++ alpha.getD ((f + 7 * k) % 26) 0 :: st.drop sp
theorem wd_len {st : List Nat} {sp f k : Nat} : (wd st sp f k).length = st.length + 1 := by
  unfold wd
  rw [List.length_append, List.length_cons, List.length_take, List.length_drop]
  omega
theorem alpha_at (i : Nat) (h : i < 26) : alpha[i]? = some (alpha.getD i 0) := by
  have h2 : i < alpha.length := h
  rw [List.getD_eq_getElem?_getD, List.getElem?_eq_getElem h2]
  rfl
theorem alpha_mem (i : Nat) (h : i < 26) : alpha.getD i 0 ∈ alpha := List.mem_of_getElem? (alpha_at i h)
theorem wd_low {st : List Nat} {sp f k : Nat} (hs : ∀ c ∈ st, c ∈ alpha) : ∀ c ∈ wd st sp f k, c ∈ alpha := by
  intro c hc
  unfold wd at hc
  rcases List.mem_append.mp hc with h | h
  · exact hs c (List.mem_of_mem_take h)
  · rcases List.mem_cons.mp h with h | h
    · rw [h]
      exact alpha_mem _ (Nat.mod_lt _ (by decide))
    · exact hs c (List.mem_of_mem_drop h)
theorem wd_inj {st : List Nat} {sp f k j : Nat} (hk : k < 8) (hj : j < 8) (e : wd st sp f k = wd st sp f j) : k = j := by
  unfold wd at e
  have e1 := List.append_cancel_left e
  have e2 : alpha.getD ((f + 7 * k) % 26) 0 = alpha.getD ((f + 7 * j) % 26) 0 := (List.cons.inj e1).1
  have h1 : (f + 7 * k) % 26 < 26 := Nat.mod_lt _ (by decide)
  have h2 : (f + 7 * j) % 26 < 26 := Nat.mod_lt _ (by decide)
  have e3 : alpha[(f + 7 * k) % 26]? = alpha[(f + 7 * j) % 26]? := by rw [alpha_at _ h1, alpha_at _ h2, e2]
  have e4 : (f + 7 * k) % 26 = (f + 7 * j) % 26 := (List.getElem?_inj (by show _ < 26; exact h1) alpha_nd).mp e3
  omega
theorem nd_map {α : Type} {g : Nat → α} : ∀ n : Nat, (∀ i j, i < n → j < n → g i = g j → i = j) → ((List.range n).map g).Nodup := by
  intro n h
  rw [List.Nodup, List.pairwise_map]
  refine List.Pairwise.imp_of_mem ?_ (List.nodup_range (n := n))
  intro a b ha hb hab e
  exact hab (h a b (List.mem_range.mp ha) (List.mem_range.mp hb) e)
theorem one_out {α : Type} [DecidableEq α] (o : α) : ∀ {l : List α}, l.Nodup → l.length ≤ (l.filter fun z => decide (z ≠ o)).length + 1
  | [], _ => Nat.zero_le _
  | z :: l, h => by
    have h2 := List.nodup_cons.mp h
    by_cases e : z = o
    · subst e
      have e2 : (l.filter fun y => decide (y ≠ z)) = l := List.filter_eq_self.mpr fun y hy => decide_eq_true (by rintro rfl; exact h2.1 hy)
      rw [List.filter_cons_of_neg (by simp), e2, List.length_cons]
      exact Nat.le_refl _
    · rw [List.filter_cons_of_pos (by simpa using e), List.length_cons, List.length_cons]
      have := one_out o h2.2
      omega
/-- the list of the forbidden words, as the law writes it -/
def bads : List V := [.str "own", .str "name", .str "tick", .str "worth"]
theorem inV_bads (z : List Nat) : inV (.str (S z)) bads = decide (z = own ∨ z = name4 ∨ z = tick4 ∨ z = worth5) := by
  have h : ∀ (o : List Nat), eqV (.str (S o)) (.str (S z)) = decide (z = o) := fun o => by
    show (S o == S z) = decide (z = o)
    rw [SX.S_beq_eq]
    by_cases e : o = z
    · rw [decide_eq_true e, decide_eq_true e.symm]
    · rw [decide_eq_false e, decide_eq_false (Ne.symm e)]
  show (eqV (.str "own") (.str (S z)) || (eqV (.str "name") (.str (S z)) || (eqV (.str "tick") (.str (S z)) || (eqV (.str "worth") (.str (S z)) || false)))) = _
  rw [own_eq, name4_eq, tick4_eq, worth5_eq, h, h, h, h, Bool.or_false, Bool.decide_or, Bool.decide_or, Bool.decide_or]
def keepB (z : List Nat) : Bool := !decide (z = own ∨ z = name4 ∨ z = tick4 ∨ z = worth5)
theorem keep_own {z : List Nat} (h : z.length = 1 ∨ z.length = 2 ∨ z.length = 3 ∨ z.length = 6) : keepB z = decide (z ≠ own) := by
  unfold keepB
  have h1 : z ≠ name4 := by rintro rfl; revert h; decide
  have h2 : z ≠ tick4 := by rintro rfl; revert h; decide
  have h3 : z ≠ worth5 := by rintro rfl; revert h; decide
  simp [h1, h2, h3]
/-- the words drawn, those let, the first n of them -/
def wds (st : List Nat) (sp f n : Nat) : List (List Nat) := (List.range n).map (wd st sp f)
theorem wds_names {st : List Nat} {sp f n : Nat} (hn : n ≤ 5) (hs : ∀ c ∈ st, c ∈ alpha) (hl : st.length = 0 ∨ st.length = 1 ∨ st.length = 2 ∨ st.length = 5) :
    (((wds st sp f (n + 2)).filter keepB).take n).length = n ∧ (∀ z ∈ ((wds st sp f (n + 2)).filter keepB).take n, NameL z) ∧ (((wds st sp f (n + 2)).filter keepB).take n).Nodup ∧
      (∀ z ∈ ((wds st sp f (n + 2)).filter keepB).take n, z.length = st.length + 1) := by
  have hlen : ∀ z ∈ wds st sp f (n + 2), z.length = st.length + 1 := fun z hz => by
    obtain ⟨k, _, rfl⟩ := List.mem_map.mp hz
    exact wd_len
  have nd : (wds st sp f (n + 2)).Nodup := nd_map _ fun i j hi hj e => wd_inj (by omega) (by omega) e
  have ef : (wds st sp f (n + 2)).filter keepB = (wds st sp f (n + 2)).filter fun z => decide (z ≠ own) :=
    List.filter_congr fun z hz => keep_own (by rw [hlen z hz]; omega)
  have h1 := one_out own nd
  have h2 : (wds st sp f (n + 2)).length = n + 2 := by unfold wds; rw [List.length_map, List.length_range]
  have mem : ∀ z ∈ ((wds st sp f (n + 2)).filter keepB).take n, z ∈ wds st sp f (n + 2) ∧ keepB z = true := fun z hz => List.mem_filter.mp (List.mem_of_mem_take hz)
  refine ⟨?_, fun z hz => ?_, (nd.sublist List.filter_sublist).sublist (List.take_sublist _ _), fun z hz => hlen z (mem z hz).1⟩
  · rw [List.length_take, ef]
    omega
  · obtain ⟨hm, hk⟩ := mem z hz
    have hlz := hlen z hm
    obtain ⟨k, _, rfl⟩ := List.mem_map.mp hm
    refine ⟨by omega, by omega, wd_low hs, ?_⟩
    unfold keepB at hk
    simpa using hk
theorem joinL_one : ∀ cs : List Nat, TL.joinL [] (cs.map fun c => [c]) = cs
  | [] => rfl
  | [c] => rfl
  | c :: d :: r => by
    show [c] ++ ([] ++ TL.joinL [] ((d :: r).map fun c => [c])) = c :: d :: r
    rw [joinL_one (d :: r)]
    rfl
theorem join_one (cs : List Nat) : Txt.join ("" : Str) (cs.map fun c => S [c]) = S cs := by
  have e : (cs.map fun c => S [c]) = (cs.map fun c => [c]).map S := by rw [List.map_map]; rfl
  rw [e, show ("" : Str) = S [] by decide +kernel, SX.join_S, joinL_one]
def nameV (z : List Nat) : V := .str (S z)
/-- n names -/
def spNames (K : PySem.W.Frag) : Sp := fun vs H Q _ => ∃ (p l : Addr) (n : Nat), vs = [.ref p, .int (n : Int)] ∧ BoxAt H p l ∧ 1 ≤ n ∧ n ≤ 5 ∧
  ∀ (q : Addr) (zs : List (List Nat)) (H' : Hp), zs.length = n → (∀ z ∈ zs, NameL z) → zs.Nodup → (∃ m, ∀ z ∈ zs, z.length = m) → hide p H q = none → q ≠ p → H' q = some (.lst (zs.map nameV)) → BoxAt H' p l → But p H H' → Q (.ref q) H'
end Bl

/-! tests of rows: their shape, what they say of a row -/
namespace Bl
open PySem L2
open SX (S)
inductive Tst where
  | is (c t : List Nat) | has (s : List Nat) | neg (a : Tst) | two (o : Bool) (a b : Tst)
def Tst.deep : Tst → Nat
  | .is _ _ => 1
  | .has _ => 1
  | .neg a => a.deep + 1
  | .two _ a b => max a.deep b.deep + 1
def twoS (o : Bool) : Str := if o then "and" else "or"
def Tst.toD : Tst → PyData
  | .is c t => .tuple [.str "is", .str (S c), .str (S t)]
  | .has s => .tuple [.str "has", .str (S s)]
  | .neg a => .tuple [.str "not", a.toD]
  | .two o a b => .tuple [.str (twoS o), a.toD, b.toD]
/-- made of these columns, this tag, this side -/
def Tst.over (cs : List (List Nat)) (t s : List Nat) : Tst → Prop
  | .is c u => c ∈ cs ∧ u = t
  | .has r => r = s
  | .neg a => a.over cs t s
  | .two _ a b => a.over cs t s ∧ b.over cs t s
theorem Tst.deep_pos : ∀ t : Tst, 1 ≤ t.deep
  | .is _ _ => Nat.le_refl 1
  | .has _ => Nat.le_refl 1
  | .neg _ => Nat.succ_le_succ (Nat.zero_le _)
  | .two _ _ _ => Nat.succ_le_succ (Nat.zero_le _)
def rowV (kvs : List (Key × V)) (k : List Nat) : V := (valV kvs (Sum.inr (S k))).getD .non
def holdB (kvs : List (Key × V)) : Tst → Bool
  | .is c t => decide (rowV kvs c = .str (S t))
  | .has s => decide (rowV kvs s = .bl true)
  | .neg a => !holdB kvs a
  | .two o a b => if o then holdB kvs a && holdB kvs b else holdB kvs a || holdB kvs b
/-- what is asked of the row: columns hold texts or nothing, sides bools or nothing -/
def RowOk (kvs : List (Key × V)) : Tst → Prop
  | .is c _ => rowV kvs c = .non ∨ (∃ b, rowV kvs c = .bl b) ∨ ∃ z, rowV kvs c = .str z
  | .has s => valV kvs (Sum.inr (S s)) = none ∨ ∃ b, valV kvs (Sum.inr (S s)) = some (.bl b)
  | .neg a => RowOk kvs a
  | .two _ a b => RowOk kvs a ∧ RowOk kvs b
theorem iteFk {b : Bool} {A B : Prop} (hb : b = false) (h : B) : if b = true then A else B := by
  rw [hb, if_neg Bool.false_ne_true]
  exact h
theorem iteTk {b : Bool} {A B : Prop} (hb : b = true) (h : A) : if b = true then A else B := by
  rw [hb, if_pos rfl]
  exact h
/-- a tuple's items by their shape -/
theorem Dp.tup2 {K : PySem.W.Frag} {H : Hp} {v : V} {d e : PyData} (h : Dp K H v (.tuple [d, e])) : ∃ a x y, v = .ref a ∧ SqT K H a [x, y] ∧ Dp K H x d ∧ Dp K H y e := by
  cases h with
  | tup hs ha =>
    cases ha with
    | cons h1 h2 =>
      cases h2 with
      | cons h3 h4 =>
        cases h4
        exact ⟨_, _, _, rfl, hs, h1, h3⟩
theorem Dp.tup3 {K : PySem.W.Frag} {H : Hp} {v : V} {d e f : PyData} (h : Dp K H v (.tuple [d, e, f])) : ∃ a x y z, v = .ref a ∧ SqT K H a [x, y, z] ∧ Dp K H x d ∧ Dp K H y e ∧ Dp K H z f := by
  cases h with
  | tup hs ha =>
    cases ha with
    | cons h1 h2 =>
      cases h2 with
      | cons h3 h4 =>
        cases h4 with
        | cons h5 h6 =>
          cases h6
          exact ⟨_, _, _, _, rfl, hs, h1, h3, h5⟩
theorem Dp.str1 {K : PySem.W.Frag} {H : Hp} {v : V} {z : Str} (h : Dp K H v (.str z)) : v = .str z := by
  cases h
  rfl
/-- is True, of a bool or None -/
def rIsNB : R2 := fun x y H Q => ∃ b : Bool, y = .bl b ∧ (x = .non ∧ Q (.bl false) H ∨ ∃ a, x = .bl a ∧ Q (.bl (decide (a = b))) H)
theorem op_isNB {X : Cx} : OpR X (compareOp .Is) rIsNB := by
  intro pins s σ H x y v u Q I rx ry h
  obtain ⟨b, rfl, ⟨rfl, q⟩ | ⟨a, rfl, q⟩⟩ := h
  · cases (show v = Value.none from rx)
    cases (show u = Value.bool b from ry)
    exact PySem.wpAny_is_other rfl (fun z => nomatch z) ⟨.bl false, H, I, rfl, q⟩
  · exact op_isBl pins s σ H _ _ v u Q I rx ry ⟨a, b, rfl, rfl, q⟩
def spHolds (K : PySem.W.Frag) (n : Nat) : Sp := fun vs H Q _ => ∃ (v : V) (t : Tst) (d : Addr) (kvs : List (Key × V)), vs = [v, .ref d] ∧ Dp K H v t.toD ∧ H d = some (.dK kvs) ∧ t.deep ≤ n ∧ RowOk kvs t ∧
  ∀ H', Same H H' → Q (.bl (holdB kvs t)) H'
def spFree (K : PySem.W.Frag) (n : Nat) : Sp := fun vs H Q _ => ∃ (p l q : Addr) (w0 w1 w2 w3 w4 : List Nat) (d : Nat), vs = [.ref p, .ref q, .int (d : Int)] ∧ BoxAt H p l ∧ hide p H q = some (.lst [nameV w0, nameV w1, nameV w2, nameV w3, nameV w4]) ∧
  w0.length ≤ 1000 ∧ w2.length ≤ 1000 ∧ 1 ≤ d ∧ d ≤ n ∧ ∀ (v : V) (t : Tst) (H' : Hp), t.deep = d → t.over [w0, w1, w2 ++ 46 :: w0] w3 w4 → Dp K (hide p H') v t.toD → BoxAt H' p l → But p H H' → Q v H'
end Bl

namespace Bl
open PySem L2
def top (i : Nat) : Stmt := PySem.Challenge.pw_bothlots_k04_tests_hold.main.body.getD i (.Pass ⟨0, 0, 0, 0⟩)
abbrev s_holds : Stmt := top 1
abbrev s_box : Stmt := top 3
abbrev s_pull : Stmt := top 4
abbrev s_of : Stmt := top 5
abbrev s_names : Stmt := top 6
abbrev s_same : Stmt := top 7
abbrev s_free_test : Stmt := top 8
abbrev s_truth : Stmt := top 9
abbrev s_law : Stmt := top 10
structure Top (K : PySem.W.Frag) (mg : Str → Option Value) : Type where
  a_holds : Addr
  d_holds : FuncData
  F_holds : Fun K "holds" "holds" s_holds a_holds d_holds
  m_holds : mg "holds" = some (.ref a_holds)
  b_holds : Binds K d_holds ["test", "row"] []
  a_box : Addr
  d_box : FuncData
  F_box : Fun K "_law_box" "_law_box" s_box a_box d_box
  m_box : mg "_law_box" = some (.ref a_box)
  b_box : Binds K d_box ["_law_script"] []
  a_pull : Addr
  d_pull : FuncData
  F_pull : Fun K "_law_pull" "_law_pull" s_pull a_pull d_pull
  m_pull : mg "_law_pull" = some (.ref a_pull)
  b_pull : Binds K d_pull ["_law_box_here", "_law_many"] []
  a_of : Addr
  d_of : FuncData
  F_of : Fun K "_law_of" "_law_of" s_of a_of d_of
  m_of : mg "_law_of" = some (.ref a_of)
  b_of : Binds K d_of ["_law_box_here", "_law_some"] []
  a_names : Addr
  d_names : FuncData
  F_names : Fun K "_law_names" "_law_names" s_names a_names d_names
  m_names : mg "_law_names" = some (.ref a_names)
  b_names : Binds K d_names ["_law_box_here", "_law_many"] []
  a_same : Addr
  d_same : FuncData
  F_same : Fun K "_law_same" "_law_same" s_same a_same d_same
  m_same : mg "_law_same" = some (.ref a_same)
  b_same : Binds K d_same ["_law_found", "_law_due"] []
  a_free_test : Addr
  d_free_test : FuncData
  F_free_test : Fun K "_law_free_test" "_law_free_test" s_free_test a_free_test d_free_test
  m_free_test : mg "_law_free_test" = some (.ref a_free_test)
  b_free_test : Binds K d_free_test ["_law_box_here", "_law_words", "_law_deep"] []
  a_truth : Addr
  d_truth : FuncData
  F_truth : Fun K "_law_truth" "_law_truth" s_truth a_truth d_truth
  m_truth : mg "_law_truth" = some (.ref a_truth)
  b_truth : Binds K d_truth ["_law_item", "_law_had"] []
  a_law : Addr
  d_law : FuncData
  F_law : Fun K "law" "law" s_law a_law d_law
  m_law : mg "law" = some (.ref a_law)
  b_law : Binds K d_law ["_law_script"] []
  z_abs : mg "abs" = none
  z_all : mg "all" = none
  z_bool : mg "bool" = none
  z_dict : mg "dict" = none
  z_int : mg "int" = none
  z_isinstance : mg "isinstance" = none
  z_len : mg "len" = none
  z_list : mg "list" = none
  z_min : mg "min" = none
  z_range : mg "range" = none
  z_str : mg "str" = none
  z_tuple : mg "tuple" = none
  z_zip : mg "zip" = none
/-! my own rules: a text n times; a def called by keywords alone -/
section
variable {X : Cx} {CX : CXT} {k : Nat} {f : Addr} {fd : FuncData} {ps ks : List Str} {sp : Sp} {E : XK} {x : Str} {p pos : Pos} {kws : List Keyword} {tk : TA} {g : List Value → List Value → List Value} {gV : List V → List V → List V}
theorem pe_callK0 (F : FnOk X.prog X.w X.K X.mg X.base CX k f fd ps sp) (hr : Room k X.A) (hg : Gl X x) (hm : X.mg x = some (.ref f)) (hk : PySem.W.keepIn X.K (.ref f) = true) (hb : KBinds X.K fd ps ks g gV) (hx : Passes CX X E)
    (hkw : PK X kws tk) (hall : (backToKw pos (keywordEach kws X.env)).all (·.1.isSome) = true := by rfl) (hks : (backToKw pos (keywordEach kws X.env)).filterMap (·.1) = ks := by rfl)
    (hdb : (x == ("__debug__" : Str)) = false := by decide) (hpl : ((backTo pos (starEach [] X.env)).any (·.1) || (backToKw pos (keywordEach kws X.env)).any (·.1.isNone)) = false := by rfl) :
    PE X (.Call (.Name x p) [] kws pos) (tCallK sp gV E tNil tk) := by
  refine ⟨fun pins s σ H Q I h => ?_⟩
  refine wpAny_Call_Name_kw (ld_glob I hg hm ?_ hdb)
  refine PySem.W.callWith_KW0 (h₀ := X.base) I.ok.mod.kin hk hall (thn (hkw.run pos pins s σ H _ I h) fun ws s2 ⟨zs, H2, I2, rz, q2⟩ => ⟨I2.kIn, ?_⟩) hpl
  rw [hks]
  exact run_fnk (us := []) (vs := []) F hr hb hx I2 .nil rz q2
/-- a text, n times -/
def repS (n : Nat) (z : Str) : Str := ⟨(List.replicate n z.cps).foldl (· ++ ·) #[]⟩
theorem fold_app (n : Nat) (b : Array Nat) : ∀ a : Array Nat, ((List.replicate n b).foldl (· ++ ·) a).size = a.size + b.size * n := by
  induction n with
  | zero => intro a; simp
  | succ n ih =>
    intro a
    rw [List.replicate_succ, List.foldl_cons, ih, Array.size_append, Nat.mul_succ]
    omega
theorem repS_len (n : Nat) (z : Str) : (repS n z).length = z.length * n := by
  show ((List.replicate n z.cps).foldl (· ++ ·) #[]).size = z.cps.size * n
  rw [fold_app]
  simp
theorem op_rep_str : OpR X (binaryOp .Mult) (fun x y H Q => ∃ z, ∃ n : Nat, x = .str z ∧ y = .int n ∧ 2 ≤ n ∧ 1 ≤ z.length ∧ n ≤ 1000 ∧ z.length ≤ 1000 ∧ Q (.str (repS n z)) H) := by
  intro pins s σ H x y v u Q I rx ry h
  obtain ⟨z, n, rfl, rfl, hn, hz, hn1, hz1, q⟩ := h
  obtain ⟨t, rfl⟩ := rx
  obtain ⟨t', rfl⟩ := ry
  have hsz : z.length * n ≤ sizeLine := small (Nat.mul_le_mul hz1 hn1)
  refine PySem.P.mul_str ?_ (fun _ _ => ?_) (fun _ _ => ?_) ?_
  · have h1 : ¬ ((n : Int) < -(2 ^ 63 : Int)) := by omega
    have h2 : ¬ ((n : Int) ≥ 2 ^ 63) := by omega
    rw [decide_eq_false h1, decide_eq_false h2]
    rfl
  · have h1 : (1000 : Int) ≤ (2 ^ 63 - 1) / (n : Int) := Int.le_ediv_of_mul_le (by omega) (by omega)
    omega
  · exact decide_eq_false (by rw [Int.toNat_natCast]; omega)
  · have e1 : ¬ ((n : Int) < 1) := by omega
    have e2 : ((n : Int) == 1 || z.length == 0) = false := by
      rw [Bool.or_eq_false_iff]
      exact ⟨beq_eq_false_iff_ne.mpr (by omega), beq_eq_false_iff_ne.mpr (by omega)⟩
    rw [if_neg e1, e2, if_neg Bool.false_ne_true]
    refine ⟨?_, .str (repS n z), H, I.tok _, ⟨_, rfl⟩, q⟩
    show (repS (n : Int).toNat z).length ≤ sizeLine
    rw [Int.toNat_natCast, repS_len]
    exact hsz
end
end Bl

namespace Bl
open PySem L2
abbrev n_box : List Str := ["_law_script", "_law_mixed", "_law_cell"]
theorem sc_box : FnScope n_box ["_law_script"] (defScope s_box) := ⟨rfl, rfl, rfl, by decide +kernel, rfl, by decide +kernel, by decide +kernel⟩
abbrev n_pull : List Str := ["_law_box_here", "_law_many", "_law_cell", "_law_digit", "_law_twice"]
theorem sc_pull : FnScope n_pull ["_law_box_here", "_law_many"] (defScope s_pull) := ⟨rfl, rfl, rfl, by decide +kernel, rfl, by decide +kernel, by decide +kernel⟩
abbrev n_of : List Str := ["_law_box_here", "_law_some"]
theorem sc_of : FnScope n_of ["_law_box_here", "_law_some"] (defScope s_of) := ⟨rfl, rfl, rfl, by decide +kernel, rfl, by decide +kernel, by decide +kernel⟩
section
variable {P : Program} {w : World} {K : PySem.W.Frag} {mg : Str → Option Value} {base : Heap}
theorem ok_pull (T : Top K mg) : FnOk P w K mg base CX0 1 T.a_pull T.d_pull ["_law_box_here", "_law_many"] (spPull K) := by
  refine T.F_pull.ok sc_pull (fun vs H Q E h => ?_) (fun cdv A outer s H vs Q E hr h => ?_)
  · obtain ⟨p, l, n, rfl, _⟩ := h
    rfl
  obtain ⟨p, l, n, rfl, ⟨ns, i, w', m, c, hp, hl, hi, hm0, hm1⟩, hn0, hn1, k⟩ := h
  -- what a box at the end gives
  have fin : ∀ (H' : Hp) (i' w2 m' c' d : Int), H' p = some (.lst (boxL l i' w2 m' c')) → But p H H' → 0 ≤ i' → 0 ≤ m' → m' < 2147483629 → 0 ≤ d → d < n → Q (.int d) H' := fun H' i' w2 m' c' d h1 h2 h3 h4 h5 h6 h7 =>
    k d H' h6 h7 ⟨ns, i', w2, m', c', h1, h2 _ _ hl, h3, h4, h5⟩ h2
  refine ⟨_, (pss_cons (ps_asg (pe_op op_add (pe_ix ix_list (pv 0) pe_int (fun _ _ => rfl)) pe_int) (pg_sub (pv 0) pe_int set_list))
    (C8.pss_cut (ps_if (PW.pt (pw_and (pt_cmpR op_eq (pe_ix ix_list (pv 0) pe_int (fun _ _ => rfl)) pe_int (nomark _)) (pw_and1 (pt_cmpR op_lt (pe_ix ix_list (pv 0) pe_int (fun _ _ => rfl)) (pe_callB call_len_seq (by rfl) T.z_len (by decide +kernel) (pa_cons (pe_ix ix_list (pv 0) pe_int (fun _ _ => rfl)) pa_nil)) (nomark _))))) (pss_cons (ps_set (i := 2) sc_pull.nd rfl (Or.inl rfl) (pe_ix ix_list (pe_ix ix_list (pv 0) pe_int (fun _ _ => rfl)) (pe_ix ix_list (pv 0) pe_int (fun _ _ => rfl)) (fun _ _ => rfl)))
    (pss_cons (ps_asg (pe_op op_add (pe_ix ix_list (pv 0) pe_int (fun _ _ => rfl)) pe_int) (pg_sub (pv 0) pe_int set_list))
    (pss_one (ps_if (pt_cmpR op_ge (pe_callB call_abs (by rfl) T.z_abs (by decide +kernel) (pa_cons (pv 2) pa_nil)) (pe_op op_pow pe_int pe_int) (nomark _)) (pss_one (ps_asg (pe_callB call_abs (by rfl) T.z_abs (by decide +kernel) (pa_cons (pv 2) pa_nil)) (pg_sub (pv 0) pe_int set_list))) (pss_one (ps_asg (pe_op op_mod (pe_callTy call_int1 (by rfl) T.z_int (by decide +kernel) (pa_cons (pe_op op_add (pe_op op_add (pe_op op_mul (pe_ix ix_list (pv 0) pe_int (fun _ _ => rfl)) pe_int) (pe_op op_mul (pe_op op_mod (pe_callTy call_int1 (by rfl) T.z_int (by decide +kernel) (pa_cons (pv 2) pa_nil)) pe_int) pe_int)) pe_int) pa_nil)) pe_int) (pg_sub (pv 0) pe_int set_list))))))) pss_nil)
    (pss_cons (ps_if (pt_cmpR op_gt (pe_ix ix_list (pv 0) pe_int (fun _ _ => rfl)) pe_int (nomark _)) (pss_cons (ps_set (i := 3) sc_pull.nd rfl (Or.inl rfl) (pe_op op_mod (pe_callTy call_int1 (by rfl) T.z_int (by decide +kernel) (pa_cons (pe_ix ix_list (pv 0) pe_int (fun _ _ => rfl)) pa_nil)) (pv 1)))
    (pss_cons (ps_asg (pe_op op_fdiv (pe_ix ix_list (pv 0) pe_int (fun _ _ => rfl)) (pv 1)) (pg_sub (pv 0) pe_int set_list))
    (pss_one (ps_ret (pv 3))))) pss_nil)
    (pss_cons (ps_set (i := 4) sc_pull.nd rfl (Or.inl rfl) (pe_op op_mod (pe_callTy call_int1 (by rfl) T.z_int (by decide +kernel) (pa_cons (pe_op op_add (pe_op op_mul (pe_ix ix_list (pv 0) pe_int (fun _ _ => rfl)) (pe_ix ix_list (pv 0) pe_int (fun _ _ => rfl))) (pe_op op_mul (pe_ix ix_list (pv 0) pe_int (fun _ _ => rfl)) pe_int)) pa_nil)) pe_int))
    (pss_cons (ps_asg (pe_op op_mod (pe_callTy call_int1 (by rfl) T.z_int (by decide +kernel) (pa_cons (pe_op op_add (pe_op op_add (pe_op op_mul (pv 4) pe_int) (pe_op op_mul (pe_ix ix_list (pv 0) pe_int (fun _ _ => rfl)) pe_int)) pe_int) pa_nil)) pe_int) (pg_sub (pv 0) pe_int set_list))
    (pss_one (ps_ret (pe_op op_mod (pe_callTy call_int1 (by rfl) T.z_int (by decide +kernel) (pa_cons (pe_op op_fdiv (pe_ix ix_list (pv 0) pe_int (fun _ _ => rfl)) pe_int) pa_nil)) (pv 1))))))))), ?_⟩
  -- box[4] = box[4] + 1
  refine ⟨_, rfl, p, _, _, _, rfl, rfl, SqL.of hp, rfl, _, _, rfl, rfl, _, rfl, p, _, _, _, rfl, rfl, hp, rfl, ?_⟩
  have e1 : But p H (upd H p (.lst (boxL l i w' m (c + 1)))) := But.put (Same.refl _)
  have hp1 : (upd H p (.lst (boxL l i w' m (c + 1)))) p = some (.lst (boxL l i w' m (c + 1))) := upd_same
  show tSeq _ _ _ _ (upd H p (.lst (boxL l i w' m (c + 1))))
  generalize (upd H p (.lst (boxL l i w' m (c + 1)))) = H1 at e1 hp1 ⊢
  have hl1 : SqL K H1 l (ns.map V.int) := SqL.of (hide_le _ _ (e1 _ _ hl))
  clear hp
  refine ⟨fun σ H2 => ∃ (o2 : Option V) (i2 w2 m2 : Int), σ = [some (.ref p), some (.int n), o2, none, none] ∧ H2 p = some (.lst (boxL l i2 w2 m2 (c + 1))) ∧ But p H H2 ∧ 0 ≤ i2 ∧ 0 ≤ m2 ∧ m2 < 2147483629, ?_, ?_⟩
  -- if box[2] == 0 and box[1] < len(box[0])
  · refine ⟨_, rfl, p, _, _, _, rfl, rfl, SqL.of hp1, rfl, rfl, _, rfl, ?_⟩
    refine ite2 (fun _ => ?_) (fun _ => iteF ⟨none, i, w', m, rfl, hp1, e1, hi, hm0, hm1⟩)
    refine ⟨_, rfl, p, _, _, _, rfl, rfl, SqL.of hp1, rfl, _, rfl, p, _, _, _, rfl, rfl, SqL.of hp1, rfl, l, _, rfl, .inl hl1, _, _, rfl, rfl, _, rfl, ?_⟩
    refine ite2 (fun hlt => ?_) (fun _ => ⟨none, i, w', m, rfl, hp1, e1, hi, hm0, hm1⟩)
    have hlt' : i < ns.length := by
      have := of_decide_eq_true hlt
      simpa using this
    obtain ⟨v, hv⟩ := atI_int hi hlt'
    -- cell = box[0][box[1]]; box[1] = box[1] + 1
    refine ⟨_, rfl, p, _, _, _, rfl, rfl, SqL.of hp1, rfl, _, rfl, p, _, _, _, rfl, rfl, SqL.of hp1, rfl, l, _, _, _, rfl, rfl, hl1, hv, ?_⟩
    refine ⟨_, rfl, p, _, _, _, rfl, rfl, SqL.of hp1, rfl, _, _, rfl, rfl, _, rfl, p, _, _, _, rfl, rfl, hp1, rfl, ?_⟩
    -- if abs(cell) >= 10 ** 18
    refine ⟨_, rfl, v, rfl, _, _, rfl, rfl, ⟨by decide, by decide, by decide⟩, _, _, rfl, rfl, _, rfl, ?_⟩
    refine ite2 (fun _ => ?_) (fun _ => ?_)
    · refine ⟨_, rfl, v, rfl, _, rfl, p, _, _, _, rfl, rfl, upd_same, rfl, ?_⟩
      exact ⟨_, i + 1, _, m, rfl, upd_same, (But.put (But.put e1)), by omega, hm0, hm1⟩
    · refine ⟨_, rfl, p, _, _, _, rfl, rfl, SqL.of upd_same, rfl, _, _, rfl, rfl, .inl (by constructor <;> omega), _, rfl, .inl ⟨v, rfl, ?_⟩⟩
      have b1 := mod_lt' (a := v) (b := 1000003) (by decide)
      refine ⟨_, _, rfl, rfl, (by show (0 : Int) < 1000003; decide), _, _, rfl, rfl, .inl (by constructor <;> omega), _, _, rfl, rfl, _, _, rfl, rfl, .inl ⟨_, rfl, ?_⟩⟩
      refine ⟨_, _, rfl, rfl, (by show (0 : Int) < 2147483629; decide), _, rfl, p, _, _, _, rfl, rfl, upd_same, rfl, ?_⟩
      exact ⟨_, i + 1, w', _, rfl, upd_same, (But.put (But.put e1)), by omega, Int.emod_nonneg _ (by decide), Int.emod_lt_of_pos _ (by decide)⟩
  -- the rest
  · rintro σ H2 ⟨o2, i2, w2, m2, rfl, hp2, e2, hi2, hm20, hm21⟩
    refine ⟨_, rfl, p, _, _, _, rfl, rfl, SqL.of hp2, rfl, _, _, rfl, rfl, _, rfl, ?_⟩
    refine ite2 (fun _ => ?_) (fun _ => ?_)
    · refine ⟨_, rfl, p, _, _, _, rfl, rfl, SqL.of hp2, rfl, .inl ⟨_, rfl, ?_⟩⟩
      refine ⟨_, rfl, _, _, rfl, rfl, hn0, ?_⟩
      refine ⟨_, rfl, p, _, _, _, rfl, rfl, SqL.of hp2, rfl, _, rfl, _, _, rfl, rfl, ⟨hn0, hn1⟩, _, rfl, p, _, _, _, rfl, rfl, hp2, rfl, ?_⟩
      refine ⟨_, rfl, ?_⟩
      exact fin _ i2 _ m2 _ _ upd_same (But.put e2) hi2 hm20 hm21 (Int.emod_nonneg _ (by omega)) (Int.emod_lt_of_pos _ hn0)
    · refine ⟨_, rfl, p, _, _, _, rfl, rfl, SqL.of hp2, rfl, _, rfl, p, _, _, _, rfl, rfl, SqL.of hp2, rfl, _, _, rfl, rfl, .inl (by constructor <;> omega), _, rfl, p, _, _, _, rfl, rfl, SqL.of hp2, rfl, _, _, rfl, rfl, .inr (by constructor <;> omega), _, _, rfl, rfl, .inl ⟨_, rfl, ?_⟩⟩
      have b1 := mod_lt' (a := m2 * m2 + (c + 1) * 8317) (b := 2147483549) (by decide)
      refine ⟨_, _, rfl, rfl, (by show (0 : Int) < 2147483549; decide), ?_⟩
      refine ⟨_, rfl, _, _, rfl, rfl, .inl (by constructor <;> omega), _, rfl, p, _, _, _, rfl, rfl, SqL.of hp2, rfl, _, _, rfl, rfl, .inl (by constructor <;> omega), _, _, rfl, rfl, _, _, rfl, rfl, .inl ⟨_, rfl, ?_⟩⟩
      refine ⟨_, _, rfl, rfl, (by show (0 : Int) < 2147483629; decide), _, rfl, p, _, _, _, rfl, rfl, hp2, rfl, ?_⟩
      refine ⟨_, rfl, p, _, _, _, rfl, rfl, SqL.of upd_same, rfl, _, _, rfl, rfl, (by constructor <;> decide), .inl ⟨_, rfl, ?_⟩⟩
      refine ⟨_, rfl, _, _, rfl, rfl, hn0, ?_⟩
      exact fin _ i2 w2 _ _ _ upd_same (But.put e2) hi2 (Int.emod_nonneg _ (by decide)) (Int.emod_lt_of_pos _ (by decide)) (Int.emod_nonneg _ (by omega)) (Int.emod_lt_of_pos _ hn0)
theorem ok_box (T : Top K mg) : FnOk P w K mg base CX0 1 T.a_box T.d_box ["_law_script"] (spBox K) := by
  refine T.F_box.ok sc_box (fun vs H Q E h => ?_) (fun cdv A outer s H vs Q E hr h => ?_)
  · obtain ⟨a, ns, rfl, _⟩ := h
    rfl
  obtain ⟨a, ns, rfl, hS, h63, k⟩ := h
  refine ⟨_, (pss_cons (ps_set (i := 1) sc_box.nd rfl (Or.inl rfl) pe_int)
    (pss_cons (ps_for PassesOwn.never rfl (pi_list (pe_slice sl_list (pv 0) po_none (po_some pe_int))) (pg_name (i := 2) sc_box.nd rfl (Or.inl rfl))
    (pss_one (ps_set (i := 1) sc_box.nd rfl (Or.inl rfl) (pe_op op_mod (pe_callTy call_int1 (by rfl) T.z_int (by decide +kernel) (pa_cons (pe_op op_add (pe_op op_add (pe_op op_mul (pv 1) pe_int) (pe_op op_mul (pe_op op_mod (pe_callTy call_int1 (by rfl) T.z_int (by decide +kernel) (pa_cons (pv 2) pa_nil)) pe_int) pe_int)) pe_int) pa_nil)) pe_int))))
    (pss_one (ps_ret (pe_lst (pa_cons (pe_callTy call_list_of (by rfl) T.z_list (by decide +kernel) (pa_cons (pe_slice sl_list (pv 0) po_none (po_some pe_int)) pa_nil)) (pa_cons pe_int (pa_cons pe_int (pa_cons (pv 1) (pa_cons pe_int pa_nil)))))))))), ?_⟩
  refine ⟨_, rfl, _, rfl, a, _, rfl, hS, fun p hp => ?_⟩
  rw [cutV_63 h63]
  have g1 : Same H (upd H p (.lst (ns.map V.int))) := same_new hp _
  refine ⟨p, rfl, ⟨_, SqL.of upd_same⟩, for_list (K := K) (a := p) (xs := ns.map V.int) (fun i σ H2 => ∃ (m : Int) (o : Option V), σ = [some (.ref a), some (.int m), o] ∧ 0 ≤ m ∧ m < 2147483629 ∧ Same (upd H p (.lst (ns.map V.int))) H2)
    ⟨10010, none, rfl, by decide, by decide, Same.refl _⟩ (fun i σ H2 _ ⟨_, _, _, _, _, s2⟩ => s2.seq (SqL.of upd_same)) ?_ ?_⟩
  · rintro i x σ H2 hx ⟨m, o, rfl, h0, h1, s2⟩
    obtain ⟨v, rfl⟩ : ∃ v : Int, x = .int v := by
      rw [List.getElem?_map] at hx
      cases e : ns[i]? with
      | none => rw [e] at hx; cases hx
      | some z => rw [e] at hx; exact ⟨z, (Option.some.inj hx).symm⟩
    have b1 := mod_lt' (a := v) (b := 1000003) (by decide)
    refine ⟨_, rfl, _, _, rfl, rfl, .inl (by constructor <;> omega), _, rfl, .inl ⟨v, rfl, ?_⟩⟩
    refine ⟨_, _, rfl, rfl, (by show (0 : Int) < 1000003; decide), _, _, rfl, rfl, .inl (by constructor <;> omega), _, _, rfl, rfl, _, _, rfl, rfl, .inl ⟨_, rfl, ?_⟩⟩
    refine ⟨_, _, rfl, rfl, (by show (0 : Int) < 2147483587; decide), ?_⟩
    have b2 := mod_lt' (a := m * 50021 + v % 1000003 * 769 + 17) (b := 2147483587) (by decide)
    exact ⟨_, _, rfl, b2.1, by omega, s2⟩
  · rintro σ H2 ⟨m, o, rfl, h0, h1, s2⟩
    have s3 := g1.trans s2
    refine ⟨_, rfl, _, rfl, a, _, rfl, s3.seq hS, fun q hq => ?_⟩
    rw [cutV_63 h63]
    have g2 := same_new hq (.lst (ns.map V.int))
    refine ⟨q, _, rfl, .inl (SqL.of upd_same), fun l hl => ?_⟩
    have g3 := same_new hl (.lst (ns.map V.int))
    refine ⟨_, rfl, (by show 5 ≤ sizeLine; decide), fun b hb => ?_⟩
    have g4 := same_new hb (.lst (boxL l 0 0 m 0))
    have nb : l ≠ b := ne_of_none upd_same hb
    refine k b l _ (s3.free (g2.free (g3.free hb))) ⟨ns, 0, 0, m, 0, upd_same, ?_, by decide, h0, h1⟩ (s3.trans (g2.trans (g3.trans g4)))
    rw [hide_ne nb, upd_ne nb, upd_same]
theorem ok_of (T : Top K mg) : FnOk P w K mg base CX0 2 T.a_of T.d_of ["_law_box_here", "_law_some"] (spOf K) := by
  refine T.F_of.ok sc_of (fun vs H Q E h => ?_) (fun cdv A outer s H vs Q E hr h => ?_)
  · obtain ⟨p, l, v, rfl, _⟩ := h
    rfl
  obtain ⟨p, l, v, rfl, B, h⟩ := h
  refine ⟨_, (pss_one (ps_ret (pe_ix ix_seq (pv 1) (pe_call (ok_pull T) (hr.mono (by decide)) rfl T.m_pull T.F_pull.kp T.b_pull .nil pass0 (pa_cons (pv 0) (pa_cons (pe_callB call_len (by rfl) T.z_len (by decide +kernel) (pa_cons (pv 1) pa_nil)) pa_nil))) (fun _ _ => rfl)))), ?_⟩
  rcases h with ⟨a, xs, rfl, hS, h0, h1, k⟩ | ⟨z, rfl, h0, h1, k⟩
  · refine ⟨_, rfl, _, rfl, _, rfl, _, xs.length, rfl, ?_, p, l, xs.length, rfl, B, by omega, by omega, fun d H' hd0 hd1 B' e => ?_⟩
    · rcases hS with hS | hS
      · exact .inl ⟨xs, hide_le.seq hS, rfl⟩
      · exact .inr ⟨xs, Same.tup hide_le hS, rfl⟩
    · obtain ⟨n, x, hx, hat⟩ := atI_some hd0 hd1
      rcases hS with hS | hS
      · exact .inl ⟨a, xs, d, x, rfl, rfl, hide_le.seq (e.seq hS), hat, k n x H' hx B' e⟩
      · exact .inr (.inl ⟨a, xs, d, x, rfl, rfl, Same.tup hide_le (Same.tup e hS), hat, k n x H' hx B' e⟩)
  · refine ⟨_, rfl, _, rfl, _, rfl, _, z.length, rfl, ⟨small (by omega), rfl⟩, p, l, z.length, rfl, B, by omega, by omega, fun d H' hd0 hd1 B' e => ?_⟩
    obtain ⟨n, rfl⟩ := Int.eq_ofNat_of_zero_le hd0
    have hn : n < z.cps.toList.length := by
      rw [Array.length_toList]
      show n < z.length
      omega
    exact .inr (.inr ⟨z, n, z.cps.toList[n], rfl, rfl, small (by omega), atI_nat (List.getElem?_eq_getElem hn), k _ H' (List.getElem_mem hn) B' e⟩)
end
end Bl

namespace Bl
open PySem L2
abbrev n_same : List Str := ["_law_found", "_law_due", "_law_a", "_law_b"]
theorem sc_same : FnScope n_same ["_law_found", "_law_due"] (defScope s_same) := ⟨rfl, rfl, rfl, by decide +kernel, rfl, by decide +kernel, by decide +kernel⟩
section
variable {P : Program} {w : World} {K : PySem.W.Frag} {mg : Str → Option Value} {base : Heap}
theorem walk_zipT {a b : Addr} {xs ys : List V} {n : Nat} (hn : n = min xs.length ys.length) : Walk (RZ.ItzT K a b) n (fun H => SqT K H a xs ∧ SqT K H b ys) (YPair (fun i => xs[i]?) (fun i => ys[i]?)) := by
  subst hn
  refine ⟨fun i _ hi q => ?_, fun _ q => ⟨xs, ys, q.1, q.2, by omega⟩, fun i H v H' _ q y => ?_⟩
  · have h1 : i < xs.length := by omega
    have h2 : i < ys.length := by omega
    exact ⟨xs, ys, xs[i], ys[i], q.1, q.2, by simp [h1], by simp [h2]⟩
  · obtain ⟨T, x, z, h1, h2, h3, h4, h5⟩ := y
    exact ⟨T, x, z, h1, h2, h3, h4 xs q.1, h5 ys q.2⟩
theorem kit_lt (d : PyData) : PySem.W.kitAny K (.type (tyN d)) [.type "list", .type "tuple"] = some (match d with | .list _ => true | .tuple _ => true | _ => false) := by
  cases d with
  | list ds => exact kitAny_cons (b := true) (kit_ty (by dsimp only [tyN]; decide +kernel)) (fun h => nomatch h) (fun _ => rfl)
  | tuple ds => exact kitAny_cons (b := false) (kit_ty (by dsimp only [tyN]; decide +kernel)) (fun _ => kitAny_cons (b := true) (kit_ty (by dsimp only [tyN]; decide +kernel)) (fun h => nomatch h) (fun _ => rfl)) (fun h => nomatch h)
  | _ => exact kitAny_cons (b := false) (kit_ty (by dsimp only [tyN]; decide +kernel)) (fun _ => kitAny_cons (b := false) (kit_ty (by dsimp only [tyN]; decide +kernel)) (fun _ => kitAny_nil) (fun h => nomatch h)) (fun h => nomatch h)
theorem ok_same0 (T : Top K mg) : FnOk P w K mg base CX0 0 T.a_same T.d_same ["_law_found", "_law_due"] (spSame K 0) := by
  have no : ∀ vs H Q E, ¬ spSame K 0 vs H Q E := fun vs H Q E h => by
    obtain ⟨x, y, d, _, _, _, h1, _⟩ := h
    cases d <;> exact h1
  exact ⟨fun vs H Q E h => absurd h (no vs H Q E), fun A outer s H args us vs Q E _ _ _ _ h => absurd h (no vs H Q E)⟩
theorem ok_same1 (T : Top K mg) {n : Nat} (G : FnOk P w K mg base CX0 n T.a_same T.d_same ["_law_found", "_law_due"] (spSame K n)) : FnOk P w K mg base CX0 (n + 1) T.a_same T.d_same ["_law_found", "_law_due"] (spSame K (n + 1)) := by
  refine T.F_same.ok sc_same (fun vs H Q E h => ?_) (fun cdv A outer s H vs Q E hr h => ?_)
  · obtain ⟨x, y, d, rfl, _⟩ := h
    rfl
  obtain ⟨x, y, d, rfl, hx, hy, hf, k⟩ := h
  refine ⟨_, (pss_cons (ps_if (PW.pt (pw_or (pt_cmpR op_isN (pv 1) pe_non (nomark _)) (pw_or1 (pt_cmpR op_isN (pv 0) pe_non (nomark _))))) (pss_one (ps_ret (pe_and (pe_cmpR op_isN (pv 1) pe_non (nomark _)) (pe_one (pe_cmpR op_isN (pv 0) pe_non (nomark _)))))) pss_nil)
    (pss_cons (ps_if (pt_val (pe_callB call_isiT (by rfl) T.z_isinstance (by decide +kernel) (pa_cons (pv 1) (pa_cons (pe_tup (pa_cons (pe_bltn (v := .ty "list") (by rfl) T.z_list (by decide +kernel) rfl) (pa_cons (pe_bltn (v := .ty "tuple") (by rfl) T.z_tuple (by decide +kernel) rfl) pa_nil))) pa_nil)))) (pss_cons (ps_if (PW.pt (pw_or (pt_cmpR op_ne (pe_callB call_isi (by rfl) T.z_isinstance (by decide +kernel) (pa_cons (pv 0) (pa_cons (pe_bltn (v := .ty "list") (by rfl) T.z_list (by decide +kernel) rfl) pa_nil))) (pe_callB call_isi (by rfl) T.z_isinstance (by decide +kernel) (pa_cons (pv 1) (pa_cons (pe_bltn (v := .ty "list") (by rfl) T.z_list (by decide +kernel) rfl) pa_nil))) (nomark _)) (pw_or1 (pt_cmpR op_ne (pe_callB call_isi (by rfl) T.z_isinstance (by decide +kernel) (pa_cons (pv 0) (pa_cons (pe_bltn (v := .ty "tuple") (by rfl) T.z_tuple (by decide +kernel) rfl) pa_nil))) (pe_callB call_isi (by rfl) T.z_isinstance (by decide +kernel) (pa_cons (pv 1) (pa_cons (pe_bltn (v := .ty "tuple") (by rfl) T.z_tuple (by decide +kernel) rfl) pa_nil))) (nomark _))))) (pss_one (ps_ret pe_bl)) pss_nil)
    (pss_one (ps_ret (pe_and (pe_cmpR op_eq (pe_callB call_len (by rfl) T.z_len (by decide +kernel) (pa_cons (pv 0) pa_nil)) (pe_callB call_len (by rfl) T.z_len (by decide +kernel) (pa_cons (pv 1) pa_nil)) (nomark _)) (pe_one (pe_callB (cr_all rfl) (by rfl) T.z_all (by decide +kernel) (pa_cons (pe_lc (own := [("_law_a", 2), ("_law_b", 3)]) (g := gTup K 2 (gCons (gName 2) (gCons (gName 3) gNil))) (tt := tYes) rfl sc_same.nd (RZ.pi_zipA (by rfl) T.z_zip (pa_cons (pv 0) (pa_cons (pv 1) pa_nil))) (blkOk_by (own := [("_law_a", 2), ("_law_b", 3)]) (N := n_same) (sc := defScope s_same) (by decide +kernel)) (fun _ _ _ _ _ => by exact (pg_tup rfl (pgs_cons (pg_name (i := 2) sc_same.nd rfl (Or.inl rfl)) (pgs_cons (pg_name (i := 3) sc_same.nd rfl (Or.inl rfl)) pgs_nil)))) (fun _ _ _ _ _ => pts_nil) (fun _ _ _ _ _ => (pe_call G hr rfl T.m_same T.F_same.kp T.b_same .nil pass0 (pa_cons (pv 2) (pa_cons (pv 3) pa_nil))))) pa_nil))))))) pss_nil)
    (pss_cons (ps_if (PW.pt (pw_or (pt_val (pe_callB call_isi (by rfl) T.z_isinstance (by decide +kernel) (pa_cons (pv 1) (pa_cons (pe_bltn (v := .ty "bool") (by rfl) T.z_bool (by decide +kernel) rfl) pa_nil)))) (pw_or1 (pt_val (pe_callB call_isi (by rfl) T.z_isinstance (by decide +kernel) (pa_cons (pv 0) (pa_cons (pe_bltn (v := .ty "bool") (by rfl) T.z_bool (by decide +kernel) rfl) pa_nil))))))) (pss_one (ps_ret (pe_and (pe_callB call_isi (by rfl) T.z_isinstance (by decide +kernel) (pa_cons (pv 1) (pa_cons (pe_bltn (v := .ty "bool") (by rfl) T.z_bool (by decide +kernel) rfl) pa_nil))) (pe_and (pe_callB call_isi (by rfl) T.z_isinstance (by decide +kernel) (pa_cons (pv 0) (pa_cons (pe_bltn (v := .ty "bool") (by rfl) T.z_bool (by decide +kernel) rfl) pa_nil))) (pe_one (pe_cmpR op_eq (pv 0) (pv 1) (nomark _))))))) pss_nil)
    (pss_cons (ps_if (pt_val (pe_callB call_isi (by rfl) T.z_isinstance (by decide +kernel) (pa_cons (pv 1) (pa_cons (pe_bltn (v := .ty "int") (by rfl) T.z_int (by decide +kernel) rfl) pa_nil)))) (pss_one (ps_ret (pe_and (pe_callB call_isi (by rfl) T.z_isinstance (by decide +kernel) (pa_cons (pv 0) (pa_cons (pe_bltn (v := .ty "int") (by rfl) T.z_int (by decide +kernel) rfl) pa_nil))) (pe_one (pe_cmpR op_eq (pv 0) (pv 1) (nomark _)))))) pss_nil)
    (pss_one (ps_ret (pe_and (pe_callB call_isi (by rfl) T.z_isinstance (by decide +kernel) (pa_cons (pv 0) (pa_cons (pe_bltn (v := .ty "str") (by rfl) T.z_str (by decide +kernel) rfl) pa_nil))) (pe_and (pe_callB call_isi (by rfl) T.z_isinstance (by decide +kernel) (pa_cons (pv 1) (pa_cons (pe_bltn (v := .ty "str") (by rfl) T.z_str (by decide +kernel) rfl) pa_nil))) (pe_one (pe_cmpR op_eq (pv 0) (pv 1) (nomark _))))))))))), ?_⟩
  cases d with
  | none =>
    obtain rfl : x = .non := by cases hx; rfl
    obtain rfl : y = .non := by cases hy; rfl
    refine ⟨_, rfl, rfl, _, rfl, ?_⟩
    refine iteT ?_
    refine ⟨_, rfl, rfl, _, rfl, ?_⟩
    refine iteT ?_
    refine ⟨_, rfl, rfl, ?_⟩
    exact k H (Same.refl _)
  | bool b =>
    obtain rfl : x = .bl b := by cases hx; rfl
    obtain rfl : y = .bl b := by cases hy; rfl
    refine ⟨_, rfl, rfl, _, rfl, ?_⟩
    refine iteF ?_
    refine ⟨_, rfl, rfl, _, rfl, ?_⟩
    refine iteF ?_
    refine ⟨_, rfl, (by show 2 ≤ sizeLine; decide), fun tp htp => ?_⟩
    have g := same_new htp (.tup [.ty "list", .ty "tuple"])
    have hx' := Dp.mono g _ _ hx
    refine ⟨_, tp, _, _, _, _, rfl, upd_same, .cons (.ty "list") (.cons (.ty "tuple") .nil), Dp.ty hx', kit_lt _, _, rfl, ?_⟩
    refine iteF ?_
    refine ⟨_, rfl, _, .ty "bool", _, _, _, rfl, .ty "bool", Dp.ty hx', kit_d some_bool, _, rfl, ?_⟩
    rw [isBool_eq]
    refine iteT ?_
    refine ⟨_, rfl, _, .ty "bool", _, _, _, rfl, .ty "bool", Dp.ty hx', kit_d some_bool, _, rfl, ?_⟩
    rw [isBool_eq]
    refine iteT ?_
    refine ⟨_, rfl, _, .ty "bool", _, _, _, rfl, .ty "bool", Dp.ty hx', kit_d some_bool, _, rfl, ?_⟩
    rw [isBool_eq]
    refine iteT ?_
    refine ⟨_, rfl, _, rfl, rfl, ?_⟩
    rw [decide_eq_true rfl]
    exact k _ g
  | int i =>
    obtain rfl : x = .int i := by cases hx; rfl
    obtain rfl : y = .int i := by cases hy; rfl
    refine ⟨_, rfl, rfl, _, rfl, ?_⟩
    refine iteF ?_
    refine ⟨_, rfl, rfl, _, rfl, ?_⟩
    refine iteF ?_
    refine ⟨_, rfl, (by show 2 ≤ sizeLine; decide), fun tp htp => ?_⟩
    have g := same_new htp (.tup [.ty "list", .ty "tuple"])
    have hx' := Dp.mono g _ _ hx
    refine ⟨_, tp, _, _, _, _, rfl, upd_same, .cons (.ty "list") (.cons (.ty "tuple") .nil), Dp.ty hx', kit_lt _, _, rfl, ?_⟩
    refine iteF ?_
    refine ⟨_, rfl, _, .ty "bool", _, _, _, rfl, .ty "bool", Dp.ty hx', kit_d some_bool, _, rfl, ?_⟩
    rw [isBool_eq]
    refine iteF ?_
    refine ⟨_, rfl, _, .ty "bool", _, _, _, rfl, .ty "bool", Dp.ty hx', kit_d some_bool, _, rfl, ?_⟩
    rw [isBool_eq]
    refine iteF ?_
    refine ⟨_, rfl, _, .ty "int", _, _, _, rfl, .ty "int", Dp.ty hx', kit_d some_int, _, rfl, ?_⟩
    rw [isInt_eq]
    refine iteT ?_
    refine ⟨_, rfl, _, .ty "int", _, _, _, rfl, .ty "int", Dp.ty hx', kit_d some_int, _, rfl, ?_⟩
    rw [isInt_eq]
    refine iteT ?_
    refine ⟨_, rfl, _, rfl, rfl, ?_⟩
    rw [decide_eq_true rfl]
    exact k _ g
  | str z =>
    obtain rfl : x = .str z := by cases hx; rfl
    obtain rfl : y = .str z := by cases hy; rfl
    refine ⟨_, rfl, rfl, _, rfl, ?_⟩
    refine iteF ?_
    refine ⟨_, rfl, rfl, _, rfl, ?_⟩
    refine iteF ?_
    refine ⟨_, rfl, (by show 2 ≤ sizeLine; decide), fun tp htp => ?_⟩
    have g := same_new htp (.tup [.ty "list", .ty "tuple"])
    have hx' := Dp.mono g _ _ hx
    refine ⟨_, tp, _, _, _, _, rfl, upd_same, .cons (.ty "list") (.cons (.ty "tuple") .nil), Dp.ty hx', kit_lt _, _, rfl, ?_⟩
    refine iteF ?_
    refine ⟨_, rfl, _, .ty "bool", _, _, _, rfl, .ty "bool", Dp.ty hx', kit_d some_bool, _, rfl, ?_⟩
    rw [isBool_eq]
    refine iteF ?_
    refine ⟨_, rfl, _, .ty "bool", _, _, _, rfl, .ty "bool", Dp.ty hx', kit_d some_bool, _, rfl, ?_⟩
    rw [isBool_eq]
    refine iteF ?_
    refine ⟨_, rfl, _, .ty "int", _, _, _, rfl, .ty "int", Dp.ty hx', kit_d some_int, _, rfl, ?_⟩
    rw [isInt_eq]
    refine iteF ?_
    refine ⟨_, rfl, _, .ty "str", _, _, _, rfl, .ty "str", Dp.ty hx', kit_d some_str, _, rfl, ?_⟩
    rw [isStr_eq]
    refine iteT ?_
    refine ⟨_, rfl, _, .ty "str", _, _, _, rfl, .ty "str", Dp.ty hx', kit_d some_str, _, rfl, ?_⟩
    rw [isStr_eq]
    refine iteT ?_
    refine ⟨_, rfl, _, rfl, rfl, ?_⟩
    rw [decide_eq_true rfl]
    exact k _ g
  | list ds =>
    cases hx with
    | lst hsx hax =>
    cases hy with
    | lst hsy hay =>
    rename_i ax xs ay ys
    have hx : Dp K H (.ref ax) (.list ds) := .lst hsx hax
    have hy : Dp K H (.ref ay) (.list ds) := .lst hsy hay
    refine ⟨_, rfl, rfl, _, rfl, ?_⟩
    refine iteF ?_
    refine ⟨_, rfl, rfl, _, rfl, ?_⟩
    refine iteF ?_
    refine ⟨_, rfl, (by show 2 ≤ sizeLine; decide), fun tp htp => ?_⟩
    have g := same_new htp (.tup [.ty "list", .ty "tuple"])
    have hT1 : (upd H tp (.tup [.ty "list", .ty "tuple"])) tp = some (.tup [.ty "list", .ty "tuple"]) := upd_same
    generalize upd H tp (.tup [.ty "list", .ty "tuple"]) = H1 at g hT1 ⊢
    have hx' := Dp.mono g _ _ hx
    have hy' := Dp.mono g _ _ hy
    refine ⟨_, tp, _, _, _, _, rfl, hT1, .cons (.ty "list") (.cons (.ty "tuple") .nil), Dp.ty hy', kit_lt _, _, rfl, ?_⟩
    refine iteT ?_
    refine ⟨_, rfl, _, .ty "list", _, _, _, rfl, .ty "list", Dp.ty hx', kit_d some_list, _, rfl, _, .ty "list", _, _, _, rfl, .ty "list", Dp.ty hy', kit_d some_list, rfl, _, rfl, ?_⟩
    refine iteNS rfl ?_
    refine ⟨_, rfl, _, .ty "tuple", _, _, _, rfl, .ty "tuple", Dp.ty hx', kit_d some_tuple, _, rfl, _, .ty "tuple", _, _, _, rfl, .ty "tuple", Dp.ty hy', kit_d some_tuple, rfl, _, rfl, ?_⟩
    refine iteNS rfl ?_
    have lx := DpAll.len hax
    have ly := DpAll.len hay
    refine ⟨_, rfl, _, ds.length, rfl, .inl ⟨xs, Same.seq g hsx, lx.symm⟩, _, rfl, _, ds.length, rfl, .inl ⟨ys, Same.seq g hsy, ly.symm⟩, rfl, _, rfl, ?_⟩
    rw [decide_eq_true rfl]
    refine iteT ?_
    refine ⟨_, rfl, _, rfl, ax, ay, xs, ys, rfl, .inl ⟨Same.seq g hsx, Same.seq g hsy, fun D hD => ?_⟩⟩
    refine lc_it (walk_zip (xs := xs) (ys := ys) (n := ds.length) (by omega)) (fun i H2 => Same H1 H2 ∧ H2 D = some (.lst ((List.replicate i true).map V.bl))) ⟨same_new hD _, upd_same⟩ (fun i H2 _ q => ⟨Same.seq (g.trans q.1) hsx, Same.seq (g.trans q.1) hsy⟩) ?_ ?_
    · rintro i x H2 H3 hi ⟨g2, hl⟩ ⟨Tt, u, v, rfl, hT, rfl, hu, hv⟩
      obtain ⟨d1, hd1, du⟩ := DpAll.get hax hu
      obtain ⟨d2, hd2, dv⟩ := DpAll.get hay hv
      rw [hd1] at hd2
      cases hd2
      have g3 := g.trans (g2.trans (same_new hT (.tup [u, v])))
      have hfd : Fits n d1 := hf.2 d1 (List.mem_of_getElem? hd1)
      refine ⟨Tt, _, rfl, SqT.of upd_same, rfl, _, _, rfl, _, _, rfl, rfl, rfl, ?_⟩
      refine ⟨_, rfl, _, rfl, u, v, d1, rfl, Dp.mono g3 _ _ du, Dp.mono g3 _ _ dv, hfd, fun H' g4 => ?_⟩
      have hD' : H' D = some (.lst ((List.replicate i true).map V.bl)) := g4 _ _ (by rw [upd_ne (ne_of_none hl hT)]; exact hl)
      have hlen : ((List.replicate i true).map V.bl).length < sizeLine := by
        rw [List.length_map, List.length_replicate]
        exact small' (Nat.lt_trans hi hf.1)
      refine ⟨_, hD', hlen, fun b o q => ?_, ?_⟩
      · rw [upd_ne (ne_of_none q hD)]
        exact g4 _ _ (same_new hT _ _ _ (g2 b o q))
      · rw [upd_same, List.replicate_succ', List.map_append]
        rfl
    · rintro H2 ⟨g2, hl⟩
      refine ⟨D, _, rfl, SqL.of hl, ?_⟩
      have e : (List.replicate ds.length true).all id = true := by simp
      rw [e]
      exact k H2 (g.trans g2)
  | tuple ds =>
    cases hx with
    | tup hsx hax =>
    cases hy with
    | tup hsy hay =>
    rename_i ax xs ay ys
    have hx : Dp K H (.ref ax) (.tuple ds) := .tup hsx hax
    have hy : Dp K H (.ref ay) (.tuple ds) := .tup hsy hay
    refine ⟨_, rfl, rfl, _, rfl, ?_⟩
    refine iteF ?_
    refine ⟨_, rfl, rfl, _, rfl, ?_⟩
    refine iteF ?_
    refine ⟨_, rfl, (by show 2 ≤ sizeLine; decide), fun tp htp => ?_⟩
    have g := same_new htp (.tup [.ty "list", .ty "tuple"])
    have hT1 : (upd H tp (.tup [.ty "list", .ty "tuple"])) tp = some (.tup [.ty "list", .ty "tuple"]) := upd_same
    generalize upd H tp (.tup [.ty "list", .ty "tuple"]) = H1 at g hT1 ⊢
    have hx' := Dp.mono g _ _ hx
    have hy' := Dp.mono g _ _ hy
    refine ⟨_, tp, _, _, _, _, rfl, hT1, .cons (.ty "list") (.cons (.ty "tuple") .nil), Dp.ty hy', kit_lt _, _, rfl, ?_⟩
    refine iteT ?_
    refine ⟨_, rfl, _, .ty "list", _, _, _, rfl, .ty "list", Dp.ty hx', kit_d some_list, _, rfl, _, .ty "list", _, _, _, rfl, .ty "list", Dp.ty hy', kit_d some_list, rfl, _, rfl, ?_⟩
    refine iteNS rfl ?_
    refine ⟨_, rfl, _, .ty "tuple", _, _, _, rfl, .ty "tuple", Dp.ty hx', kit_d some_tuple, _, rfl, _, .ty "tuple", _, _, _, rfl, .ty "tuple", Dp.ty hy', kit_d some_tuple, rfl, _, rfl, ?_⟩
    refine iteNS rfl ?_
    have lx := DpAll.len hax
    have ly := DpAll.len hay
    refine ⟨_, rfl, _, ds.length, rfl, .inr ⟨xs, Same.tup g hsx, lx.symm⟩, _, rfl, _, ds.length, rfl, .inr ⟨ys, Same.tup g hsy, ly.symm⟩, rfl, _, rfl, ?_⟩
    rw [decide_eq_true rfl]
    refine iteT ?_
    refine ⟨_, rfl, _, rfl, ax, ay, xs, ys, rfl, .inr ⟨Same.tup g hsx, Same.tup g hsy, fun D hD => ?_⟩⟩
    refine lc_it (walk_zipT (xs := xs) (ys := ys) (n := ds.length) (by omega)) (fun i H2 => Same H1 H2 ∧ H2 D = some (.lst ((List.replicate i true).map V.bl))) ⟨same_new hD _, upd_same⟩ (fun i H2 _ q => ⟨Same.tup (g.trans q.1) hsx, Same.tup (g.trans q.1) hsy⟩) ?_ ?_
    · rintro i x H2 H3 hi ⟨g2, hl⟩ ⟨Tt, u, v, rfl, hT, rfl, hu, hv⟩
      obtain ⟨d1, hd1, du⟩ := DpAll.get hax hu
      obtain ⟨d2, hd2, dv⟩ := DpAll.get hay hv
      rw [hd1] at hd2
      cases hd2
      have g3 := g.trans (g2.trans (same_new hT (.tup [u, v])))
      have hfd : Fits n d1 := hf.2 d1 (List.mem_of_getElem? hd1)
      refine ⟨Tt, _, rfl, SqT.of upd_same, rfl, _, _, rfl, _, _, rfl, rfl, rfl, ?_⟩
      refine ⟨_, rfl, _, rfl, u, v, d1, rfl, Dp.mono g3 _ _ du, Dp.mono g3 _ _ dv, hfd, fun H' g4 => ?_⟩
      have hD' : H' D = some (.lst ((List.replicate i true).map V.bl)) := g4 _ _ (by rw [upd_ne (ne_of_none hl hT)]; exact hl)
      have hlen : ((List.replicate i true).map V.bl).length < sizeLine := by
        rw [List.length_map, List.length_replicate]
        exact small' (Nat.lt_trans hi hf.1)
      refine ⟨_, hD', hlen, fun b o q => ?_, ?_⟩
      · rw [upd_ne (ne_of_none q hD)]
        exact g4 _ _ (same_new hT _ _ _ (g2 b o q))
      · rw [upd_same, List.replicate_succ', List.map_append]
        rfl
    · rintro H2 ⟨g2, hl⟩
      refine ⟨D, _, rfl, SqL.of hl, ?_⟩
      have e : (List.replicate ds.length true).all id = true := by simp
      rw [e]
      exact k H2 (g.trans g2)
  | dict _ => cases hx
theorem ok_same (T : Top K mg) : ∀ n : Nat, FnOk P w K mg base CX0 n T.a_same T.d_same ["_law_found", "_law_due"] (spSame K n)
  | 0 => ok_same0 T
  | n + 1 => ok_same1 T (ok_same T n)
end
end Bl

namespace Bl
open PySem L2
open SX (S)
abbrev n_names : List Str := ["_law_box_here", "_law_many", "_law_letters", "_law_stem", "_law_spot", "_law_first", "_law_found", "_law_k", "_law_word"]
theorem sc_names : FnScope n_names ["_law_box_here", "_law_many"] (defScope s_names) := ⟨rfl, rfl, rfl, by decide +kernel, rfl, by decide +kernel, by decide +kernel⟩
section
variable {P : Program} {w : World} {K : PySem.W.Frag} {mg : Str → Option Value} {base : Heap}
theorem ok_names (T : Top K mg) : FnOk P w K mg base CX0 3 T.a_names T.d_names ["_law_box_here", "_law_many"] (spNames K) := by
  refine T.F_names.ok sc_names (fun vs H Q E h => ?_) (fun cdv A outer s H vs Q E hr h => ?_)
  · obtain ⟨p, b, n, rfl, _⟩ := h
    rfl
  obtain ⟨p, b, n, rfl, B, hn1, hn5, k⟩ := h
  refine ⟨_, (pss_cons (ps_set (i := 2) sc_names.nd rfl (Or.inr rfl) pe_str)
    (pss_cons (ps_set (i := 3) sc_names.nd rfl (Or.inr rfl) (pe_join pe_str (pe_lc (own := [("_law_k", 7)]) (g := gName 7) (tt := tYes) rfl sc_names.nd (pi_range1 (by rfl) T.z_range (pa_cons (pe_call (ok_of T) (hr.mono (by decide)) rfl T.m_of T.F_of.kp T.b_of .nil pass0 (pa_cons (pv 0) (pa_cons (pe_lst (pa_cons pe_int (pa_cons pe_int (pa_cons pe_int (pa_cons pe_int pa_nil))))) pa_nil))) pa_nil)) (blkOk_by (own := [("_law_k", 7)]) (N := n_names) (sc := defScope s_names) (by decide +kernel)) (fun _ _ _ _ _ => (pg_name (i := 7) sc_names.nd rfl (Or.inl rfl))) (fun _ _ _ _ _ => pts_nil) (fun _ _ _ _ _ => (pe_call (ok_of T) (hr.mono (by decide)) rfl T.m_of T.F_of.kp T.b_of .nil pass0 (pa_cons (pv 0) (pa_cons (pv 2) pa_nil)))))))
    (pss_cons (ps_asg (pe_tup (pa_cons (pe_call (ok_pull T) (hr.mono (by decide)) rfl T.m_pull T.F_pull.kp T.b_pull .nil pass0 (pa_cons (pv 0) (pa_cons (pe_op op_add (pe_callB call_len_str (by rfl) T.z_len (by decide +kernel) (pa_cons (pv 3) pa_nil)) pe_int) pa_nil))) (pa_cons (pe_call (ok_pull T) (hr.mono (by decide)) rfl T.m_pull T.F_pull.kp T.b_pull .nil pass0 (pa_cons (pv 0) (pa_cons pe_int pa_nil))) pa_nil))) (pg_tup rfl (pgs_cons (pg_name (i := 4) sc_names.nd rfl (Or.inr rfl)) (pgs_cons (pg_name (i := 5) sc_names.nd rfl (Or.inr rfl)) pgs_nil))))
    (pss_cons (ps_setLc (i := 6) (own := [("_law_k", 7)]) (g := gName 7) (tt := tYes) rfl sc_names.nd rfl rfl (sw_true rfl rfl rfl (by decide +kernel)) (pi_range1 (by rfl) T.z_range (pa_cons (pe_op op_add (pv 1) pe_int) pa_nil)) (blkOk_by (own := [("_law_k", 7)]) (N := n_names) (sc := defScope s_names) (by decide +kernel)) (fun _ _ _ _ _ => (pg_name (i := 7) sc_names.nd rfl (Or.inl rfl))) (fun _ _ _ _ _ => pts_nil) (fun _ _ _ _ _ => (pe_op op_add_str (pe_op op_add_str (pe_slice sl_str (pv 3) po_none (po_some (pv 4))) (pe_ix ix_str (pv 2) (pe_op op_mod (pe_callTy call_int1 (by rfl) T.z_int (by decide +kernel) (pa_cons (pe_op op_add (pv 5) (pe_op op_mul pe_int (pv 7))) pa_nil)) pe_int) (fun _ _ => rfl))) (pe_slice sl_str (pv 3) (po_some (pv 4)) po_none))))
    (pss_one (ps_ret (pe_slice sl_list (pe_lc (own := [("_law_word", 8)]) (g := gName 8) rfl sc_names.nd (pi_list (pv 6)) (blkOk_by (own := [("_law_word", 8)]) (N := n_names) (sc := defScope s_names) (by decide +kernel)) (fun _ _ _ _ _ => (pg_name (i := 8) sc_names.nd rfl (Or.inl rfl))) (fun _ _ _ _ _ => (pts_one (pt_cmpR (r := rIn K true) op_notIn_seq (pv 8) (pe_lst (pa_cons pe_str (pa_cons pe_str (pa_cons pe_str (pa_cons pe_str pa_nil))))) rfl))) (fun _ _ _ _ _ => (pv 8))) po_none (po_some (pv 1))))))))), ?_⟩
  -- the stem
  refine ⟨⟨_, rfl⟩, _, rfl, (by show 4 ≤ sizeLine; decide), fun l hl => ?_⟩
  have B1 := B.new hl (.lst [.int 0, .int 1, .int 2, .int 5])
  have e1 : But p H _ := But.of (same_new hl (.lst [.int 0, .int 1, .int 2, .int 5]))
  refine ⟨p, b, _, rfl, B1, .inl ⟨l, _, rfl, .inl (SqL.of (hid_same (B.ne hl))), (by decide), (by decide), fun i x H1 hx B2 e2 => ?_⟩⟩
  obtain ⟨j, rfl, hj⟩ : ∃ j : Nat, x = .int (j : Int) ∧ (j = 0 ∨ j = 1 ∨ j = 2 ∨ j = 5) := by
    match i, hx with
    | 0, h => exact ⟨0, (Option.some.inj h).symm, by decide⟩
    | 1, h => exact ⟨1, (Option.some.inj h).symm, by decide⟩
    | 2, h => exact ⟨2, (Option.some.inj h).symm, by decide⟩
    | 3, h => exact ⟨5, (Option.some.inj h).symm, by decide⟩
    | n + 4, h => cases h
  have e12 : But p H H1 := Same.trans e1 e2
  clear e1 e2 B1
  refine ⟨(j : Int), rfl, by omega, by omega, fun D hD => ?_⟩
  have nD := B2.ne hD
  have nDb := B2.nl hD
  refine lc_range (lo := 0) (n := (j : Int).toNat) (fun i H2 => BoxAt H2 p b ∧ But p H1 H2 ∧ ∃ cs : List Nat, cs.length = i ∧ (∀ c ∈ cs, c ∈ alpha) ∧ H2 D = some (.lst ((cs.map fun c => S [c]).map V.str)))
    ⟨B2.new hD _, But.of (same_new hD _), [], rfl, (by intro c hc; cases hc), upd_same⟩ ?_ ?_
  · rintro i H2 hi ⟨B3, e3, cs, hcs, hlow, hd⟩
    refine ⟨rfl, _, rfl, _, rfl, p, b, _, rfl, B3, .inr ⟨_, rfl, by decide +kernel, by decide +kernel, fun c H3 hc B4 e4 => ?_⟩⟩
    have hd' : H3 D = some (.lst ((cs.map fun c => S [c]).map V.str)) := hide_le _ _ (e4 _ _ (by rw [hide_ne nD]; exact hd))
    refine ⟨_, hd', ?_, B4.mut nD nDb _, But.mut (Same.trans e3 e4) hD _, cs ++ [c], by rw [List.length_append, hcs]; rfl, ?_, ?_⟩
    · rw [List.length_map, List.length_map]
      exact small' (by omega)
    · intro x hx
      rcases List.mem_append.mp hx with h | h
      · exact hlow x h
      · rw [List.mem_singleton.mp h, ← alpha_eq]
        exact hc
    · rw [upd_same, List.map_append, List.map_append]
      rfl
  · rintro H2 ⟨B3, e3, cs, hcs, hlow, hd⟩
    rw [Int.toNat_natCast] at hcs
    refine ⟨_, D, cs.map fun c => S [c], rfl, rfl, .inl (SqL.of hd), ?_, ?_⟩
    · have h1 : ∀ l : List Nat, ((l.map fun c => S [c]).map (·.length)).sum = l.length := by
        intro l
        induction l with
        | nil => rfl
        | cons c l ih =>
          rw [List.map_cons, List.map_cons, List.sum_cons, ih, List.length_cons]
          show 1 + l.length = l.length + 1
          omega
      rw [h1, show ("" : Str).length = 0 by decide +kernel, Nat.mul_zero]
      omega
    rw [join_one]
    have e123 : But p H H2 := Same.trans e12 e3
    -- spot, first
    refine ⟨_, rfl, _, rfl, _, rfl, small (by rw [SX.S_len]; omega), _, _, rfl, rfl, ?_⟩
    refine ⟨p, b, _, rfl, B3, by omega, by rw [SX.S_len]; omega, fun sp H3 hsp0 hsp1 B4 e4 => ?_⟩
    refine ⟨_, rfl, p, b, _, rfl, B4, by decide, by decide, fun fi H4 hf0 hf1 B5 e5 => ?_⟩
    obtain ⟨sp, rfl⟩ := Int.eq_ofNat_of_zero_le hsp0
    obtain ⟨f, rfl⟩ := Int.eq_ofNat_of_zero_le hf0
    rw [SX.S_len] at hsp1
    have hsp : sp ≤ cs.length := by omega
    refine ⟨(by show 2 ≤ sizeLine; decide), fun t ht => ?_⟩
    have B6 := B5.new ht (.tup [.int sp, .int f])
    have e6 : But p H _ := Same.trans e123 (Same.trans e4 (Same.trans e5 (But.of (same_new ht (.tup [.int sp, .int f])))))
    have ht1 : (upd H4 t (.tup [.int sp, .int f])) t = some (.tup [.int sp, .int f]) := upd_same
    refine ⟨t, _, rfl, SqT.of ht1, rfl, _, _, rfl, _, _, rfl, rfl, ?_⟩
    show tSeq _ _ _ _ (upd H4 t (.tup [.int sp, .int f]))
    generalize (upd H4 t (.tup [.int sp, .int f])) = H5 at B6 e6 ⊢
    -- the words
    refine ⟨_, rfl, _, _, rfl, rfl, _, rfl, (by omega), (by omega), fun D2 hD2 => ?_⟩
    refine lc_range (lo := 0) (n := ((n : Int) + 2).toNat) (fun i H2 => Same H5 H2 ∧ H2 D2 = some (.lst (((List.range i).map (wd cs sp f)).map nameV))) ⟨same_new hD2 _, upd_same⟩ ?_ ?_
    · rintro i H6 hi ⟨g, hd6⟩
      have hidx : ((f : Int) + 7 * (0 + (i : Int))) % 26 = (((f + 7 * i) % 26 : Nat) : Int) := by omega
      have hlt : (f + 7 * i) % 26 < 26 := Nat.mod_lt _ (by decide)
      refine ⟨rfl, _, rfl, _, rfl, _, rfl, _, rfl, small (by rw [SX.S_len]; omega), ?_⟩
      refine ⟨_, rfl, _, rfl, _, rfl, _, _, rfl, rfl, .inl (by constructor <;> decide), _, _, rfl, rfl, .inl ⟨_, rfl, _, _, rfl, rfl, (by show (0 : Int) < 26; decide), ?_⟩⟩
      refine ⟨_, _, alpha.getD ((f + 7 * i) % 26) 0, rfl, rfl, (by decide +kernel), ?_, ?_⟩
      · rw [hidx, alpha_eq]
        exact atI_nat (alpha_at _ hlt)
      · rw [cut_pre hsp]
        refine ⟨_, _, rfl, rfl, ?_, ?_⟩
        · rw [SX.S_len, List.length_take]
          show min sp cs.length + 1 ≤ sizeLine
          exact small (by omega)
        refine ⟨_, rfl, _, rfl, _, rfl, _, rfl, small (by rw [SX.S_len]; omega), ?_⟩
        rw [cut_suf hsp]
        have ew : S (cs.take sp) ++ (⟨#[alpha.getD ((f + 7 * i) % 26) 0]⟩ : Str) ++ S (cs.drop sp) = S (wd cs sp f i) := by
          show S (cs.take sp) ++ S [alpha.getD ((f + 7 * i) % 26) 0] ++ S (cs.drop sp) = _
          rw [SX.S_cat, SX.S_cat, List.append_assoc]
          rfl
        refine ⟨_, _, rfl, rfl, ?_, ?_⟩
        · have h1 : (S (cs.take sp) ++ (⟨#[alpha.getD ((f + 7 * i) % 26) 0]⟩ : Str)).length = min sp cs.length + 1 := by
            show (S (cs.take sp) ++ S [alpha.getD ((f + 7 * i) % 26) 0]).length = _
            rw [SX.S_cat, SX.S_len, List.length_append, List.length_take]
            rfl
          rw [h1, SX.S_len, List.length_drop]
          exact small (by omega)
        · rw [ew]
          refine ⟨_, hd6, ?_, Same.mut g hD2 _, ?_⟩
          · rw [List.length_map, List.length_map, List.length_range]
            exact small' (by omega)
          · rw [upd_same, List.range_succ, List.map_append, List.map_append]
            rfl
    rintro H6 ⟨g6, hd6⟩
    rw [show ((n : Int) + 2).toNat = n + 2 by omega] at hd6
    obtain ⟨hz1, hz2, hz3, hz4⟩ := wds_names (sp := sp) (f := f) hn5 hlow (by omega)
    -- those let
    refine ⟨_, rfl, D2, rfl, ⟨_, SqL.of hd6⟩, fun D3 hD3 => ?_⟩
    refine lc_list (K := K) (a := D2) (xs := (wds cs sp f (n + 2)).map nameV) (fun i H2 => Same H6 H2 ∧ H2 D3 = some (.lst ((((wds cs sp f (n + 2)).take i).filter keepB).map nameV))) ⟨same_new hD3 _, upd_same⟩ (fun i H2 _ q => q.1.seq (SqL.of hd6)) ?_ ?_
    · rintro i x H7 hx ⟨g, hd7⟩
      rw [List.getElem?_map] at hx
      obtain ⟨z, hz, rfl⟩ : ∃ z, (wds cs sp f (n + 2))[i]? = some z ∧ x = nameV z := by
        cases e : (wds cs sp f (n + 2))[i]? with
        | none => rw [e] at hx; cases hx
        | some z => rw [e] at hx; exact ⟨z, rfl, (Option.some.inj hx).symm⟩
      refine ⟨rfl, _, rfl, (by show 4 ≤ sizeLine; decide), fun l4 hl4 => ?_⟩
      have g8 := g.trans (same_new hl4 (.lst bads))
      have hd8 : (upd H7 l4 (.lst bads)) D3 = some (.lst ((((wds cs sp f (n + 2)).take i).filter keepB).map nameV)) := by
        rw [upd_ne (ne_of_none hd7 hl4)]
        exact hd7
      refine ⟨l4, bads, rfl, .inl (SqL.of upd_same), rfl, rfl, _, rfl, ?_⟩
      show if (!inV (.str (S z)) bads) = true then _ else _
      rw [inV_bads]
      have ef : ((wds cs sp f (n + 2)).take (i + 1)).filter keepB = ((wds cs sp f (n + 2)).take i).filter keepB ++ (if keepB z = true then [z] else []) := by
        rw [List.take_add_one, hz, List.filter_append]
        congr 1
        by_cases hk : keepB z = true
        · rw [if_pos hk]
          exact List.filter_cons_of_pos hk
        · rw [if_neg hk]
          exact List.filter_cons_of_neg hk
      refine ite2 (fun hk => ?_) (fun hk => ?_)
      · have hk' : keepB z = true := hk
        rw [if_pos hk'] at ef
        refine ⟨_, rfl, _, hd8, ?_, Same.mut g8 hD3 _, ?_⟩
        · rw [List.length_map]
          have h1 := List.length_filter_le keepB ((wds cs sp f (n + 2)).take i)
          have h2 : ((wds cs sp f (n + 2)).take i).length ≤ n + 2 := by
            rw [List.length_take]
            unfold wds
            rw [List.length_map, List.length_range]
            omega
          exact small' (by omega)
        · rw [upd_same, ef, List.map_append]
          rfl
      · have hk' : ¬ keepB z = true := hk
        rw [if_neg hk', List.append_nil] at ef
        refine ⟨g8, ?_⟩
        rw [ef]
        exact hd8
    · rintro H7 ⟨g7, hd7⟩
      rw [List.length_map, List.take_of_length_le (Nat.le_refl _)] at hd7
      refine ⟨_, rfl, _, rfl, D3, _, rfl, SqL.of hd7, fun q hq => ?_⟩
      rw [cutV_pre, ← List.map_take]
      have B7 := (B6.mono g6).mono g7
      have e7 : But p H H7 := Same.trans e6 (But.of (g6.trans g7))
      refine k q _ _ hz1 hz2 hz3 ⟨_, hz4⟩ ?_ (B7.ne hq) upd_same (B7.new hq _) (Same.trans e7 (But.of (same_new hq _)))
      exact e7.free (hide_free hq)
end
end Bl

namespace Bl
open PySem L2
open SX (S)
abbrev n_holds : List Str := ["test", "row", "head"]
theorem sc_holds : FnScope n_holds ["test", "row"] (defScope s_holds) := ⟨rfl, rfl, rfl, by decide +kernel, rfl, by decide +kernel, by decide +kernel⟩
section
variable {P : Program} {w : World} {K : PySem.W.Frag} {mg : Str → Option Value} {base : Heap}
theorem ok_holds0 (T : Top K mg) : FnOk P w K mg base CX0 0 T.a_holds T.d_holds ["test", "row"] (spHolds K 0) := by
  have no : ∀ vs H Q E, ¬ spHolds K 0 vs H Q E := fun vs H Q E h => by
    obtain ⟨v, t, d, kvs, _, _, _, h1, _⟩ := h
    have := t.deep_pos
    omega
  exact ⟨fun vs H Q E h => absurd h (no vs H Q E), fun A outer s H args us vs Q E _ _ _ _ h => absurd h (no vs H Q E)⟩
theorem scal_row {kvs : List (Key × V)} {c t : List Nat} (h : rowV kvs c = .non ∨ (∃ b, rowV kvs c = .bl b) ∨ ∃ z, rowV kvs c = .str z) : scal (rowV kvs c) (.str (S t)) = true := by
  rcases h with e | ⟨b, e⟩ | ⟨z, e⟩ <;> rw [e] <;> rfl
theorem ok_holds1 (T : Top K mg) {n : Nat} (G : FnOk P w K mg base CX0 n T.a_holds T.d_holds ["test", "row"] (spHolds K n)) : FnOk P w K mg base CX0 (n + 1) T.a_holds T.d_holds ["test", "row"] (spHolds K (n + 1)) := by
  refine T.F_holds.ok sc_holds (fun vs H Q E h => ?_) (fun cdv A outer s H vs Q E hr h => ?_)
  · obtain ⟨v, t, d, kvs, rfl, _⟩ := h
    rfl
  obtain ⟨v, t, d, kvs, rfl, hv, hd, hn, hok, k⟩ := h
  refine ⟨_, (pss_cons (ps_set (i := 2) sc_holds.nd rfl (Or.inl rfl) (pe_ix ix_tup (pv 0) pe_int (fun _ _ => rfl)))
    (pss_cons (ps_if (pt_cmpR op_eq (pv 2) pe_str (nomark _)) (pss_one (ps_ret (pe_cmpR op_eq (pe_dget1 (hu_of hr) (pv 1) (pe_ix ix_tup (pv 0) pe_int (fun _ _ => rfl)) ⟨rfl, rfl, rfl, rfl⟩) (pe_ix ix_tup (pv 0) pe_int (fun _ _ => rfl)) (nomark _)))) pss_nil)
    (pss_cons (ps_if (pt_cmpR op_eq (pv 2) pe_str (nomark _)) (pss_one (ps_ret (pe_cmpR op_isNB (pe_dget1 (hu_of hr) (pv 1) (pe_ix ix_tup (pv 0) pe_int (fun _ _ => rfl)) ⟨rfl, rfl, rfl, rfl⟩) pe_bl (nomark _)))) pss_nil)
    (pss_cons (ps_if (pt_cmpR op_eq (pv 2) pe_str (nomark _)) (pss_one (ps_ret (pe_not (pe_call G hr rfl T.m_holds T.F_holds.kp T.b_holds .nil pass0 (pa_cons (pe_ix ix_tup (pv 0) pe_int (fun _ _ => rfl)) (pa_cons (pv 1) pa_nil)))))) pss_nil)
    (pss_cons (ps_if (pt_cmpR op_eq (pv 2) pe_str (nomark _)) (pss_one (ps_ret (pe_and (pe_call G hr rfl T.m_holds T.F_holds.kp T.b_holds .nil pass0 (pa_cons (pe_ix ix_tup (pv 0) pe_int (fun _ _ => rfl)) (pa_cons (pv 1) pa_nil))) (pe_one (pe_call G hr rfl T.m_holds T.F_holds.kp T.b_holds .nil pass0 (pa_cons (pe_ix ix_tup (pv 0) pe_int (fun _ _ => rfl)) (pa_cons (pv 1) pa_nil))))))) pss_nil)
    (pss_one (ps_ret (pe_or (pe_call G hr rfl T.m_holds T.F_holds.kp T.b_holds .nil pass0 (pa_cons (pe_ix ix_tup (pv 0) pe_int (fun _ _ => rfl)) (pa_cons (pv 1) pa_nil))) (pe_one (pe_call G hr rfl T.m_holds T.F_holds.kp T.b_holds .nil pass0 (pa_cons (pe_ix ix_tup (pv 0) pe_int (fun _ _ => rfl)) (pa_cons (pv 1) pa_nil)))))))))))), ?_⟩
  cases t with
  | is c t =>
    obtain ⟨a, x, y, z, rfl, hs, hx, hy, hz⟩ := Dp.tup3 hv
    obtain rfl := Dp.str1 hx
    obtain rfl := Dp.str1 hy
    obtain rfl := Dp.str1 hz
    refine ⟨_, rfl, a, _, _, _, rfl, rfl, hs, rfl, _, rfl, rfl, _, rfl, ?_⟩
    refine iteTk (by decide +kernel) ?_
    refine ⟨_, rfl, d, rfl, .inl ⟨kvs, .inl hd⟩, _, rfl, a, _, _, _, rfl, rfl, hs, rfl, _, DGet.k (k := Sum.inr (S c)) hd, _, rfl, a, _, _, _, rfl, rfl, hs, rfl, scal_row hok, ?_⟩
    exact k H (Same.refl _)
  | has r =>
    obtain ⟨a, x, y, rfl, hs, hx, hy⟩ := Dp.tup2 hv
    obtain rfl := Dp.str1 hx
    obtain rfl := Dp.str1 hy
    refine ⟨_, rfl, a, _, _, _, rfl, rfl, hs, rfl, _, rfl, rfl, _, rfl, ?_⟩
    refine iteFk (by decide +kernel) ?_
    refine ⟨_, rfl, rfl, _, rfl, ?_⟩
    refine iteTk (by decide +kernel) ?_
    refine ⟨_, rfl, d, rfl, .inl ⟨kvs, .inl hd⟩, _, rfl, a, _, _, _, rfl, rfl, hs, rfl, _, DGet.k (k := Sum.inr (S r)) hd, true, rfl, ?_⟩
    have q := k H (Same.refl _)
    rcases hok with e | ⟨b, e⟩
    · refine .inl ⟨by rw [e]; rfl, ?_⟩
      have e2 : holdB kvs (.has r) = false := by
        show decide ((valV kvs (Sum.inr (S r))).getD .non = .bl true) = false
        rw [e]
        exact decide_eq_false (fun h => nomatch h)
      rw [e2] at q
      exact q
    · refine .inr ⟨b, by rw [e]; rfl, ?_⟩
      have e2 : holdB kvs (.has r) = decide (b = true) := by
        show decide ((valV kvs (Sum.inr (S r))).getD .non = .bl true) = _
        rw [e]
        cases b <;> rfl
      rw [e2] at q
      exact q
  | neg t =>
    obtain ⟨a, x, y, rfl, hs, hx, hy⟩ := Dp.tup2 hv
    obtain rfl := Dp.str1 hx
    refine ⟨_, rfl, a, _, _, _, rfl, rfl, hs, rfl, _, rfl, rfl, _, rfl, ?_⟩
    refine iteFk (by decide +kernel) ?_
    refine ⟨_, rfl, rfl, _, rfl, ?_⟩
    refine iteFk (by decide +kernel) ?_
    refine ⟨_, rfl, rfl, _, rfl, ?_⟩
    refine iteTk (by decide +kernel) ?_
    have h1 : t.deep + 1 ≤ n + 1 := hn
    refine ⟨_, rfl, a, _, _, _, rfl, rfl, hs, rfl, _, rfl, y, t, d, kvs, rfl, hy, hd, by omega, hok, fun H1 g1 => ⟨_, rfl, k H1 g1⟩⟩
  | two o t u =>
    obtain ⟨a, x, y, z, rfl, hs, hx, hy, hz⟩ := Dp.tup3 hv
    obtain rfl := Dp.str1 hx
    have h1 : max t.deep u.deep + 1 ≤ n + 1 := hn
    refine ⟨_, rfl, a, _, _, _, rfl, rfl, hs, rfl, _, rfl, rfl, _, rfl, ?_⟩
    refine iteFk (by cases o <;> decide +kernel) ?_
    refine ⟨_, rfl, rfl, _, rfl, ?_⟩
    refine iteFk (by cases o <;> decide +kernel) ?_
    refine ⟨_, rfl, rfl, _, rfl, ?_⟩
    refine iteFk (by cases o <;> decide +kernel) ?_
    refine ⟨_, rfl, rfl, _, rfl, ?_⟩
    cases o with
    | true =>
      refine iteTk (by decide +kernel) ?_
      refine ⟨_, rfl, a, _, _, _, rfl, rfl, hs, rfl, _, rfl, y, t, d, kvs, rfl, hy, hd, by omega, hok.1, fun H1 g1 => ⟨_, rfl, ?_⟩⟩
      have e : holdB kvs (.two true t u) = (holdB kvs t && holdB kvs u) := rfl
      rw [e] at k
      cases ht : holdB kvs t with
      | false =>
        rw [ht] at k
        exact iteF (k H1 g1)
      | true =>
        rw [ht] at k
        refine iteT ?_
        exact ⟨_, rfl, a, _, _, _, rfl, rfl, Same.tup g1 hs, rfl, _, rfl, z, u, d, kvs, rfl, Dp.mono g1 _ _ hz, g1 _ _ hd, by omega, hok.2, fun H2 g2 => k H2 (g1.trans g2)⟩
    | false =>
      refine iteFk (by decide +kernel) ?_
      refine ⟨_, rfl, a, _, _, _, rfl, rfl, hs, rfl, _, rfl, y, t, d, kvs, rfl, hy, hd, by omega, hok.1, fun H1 g1 => ⟨_, rfl, ?_⟩⟩
      have e : holdB kvs (.two false t u) = (holdB kvs t || holdB kvs u) := rfl
      rw [e] at k
      cases ht : holdB kvs t with
      | true =>
        rw [ht] at k
        exact iteT (k H1 g1)
      | false =>
        rw [ht] at k
        refine iteF ?_
        exact ⟨_, rfl, a, _, _, _, rfl, rfl, Same.tup g1 hs, rfl, _, rfl, z, u, d, kvs, rfl, Dp.mono g1 _ _ hz, g1 _ _ hd, by omega, hok.2, fun H2 g2 => k H2 (g1.trans g2)⟩
theorem ok_holds (T : Top K mg) : ∀ n : Nat, FnOk P w K mg base CX0 n T.a_holds T.d_holds ["test", "row"] (spHolds K n)
  | 0 => ok_holds0 T
  | n + 1 => ok_holds1 T (ok_holds T n)
end
end Bl

namespace Bl
open PySem L2
open SX (S)
abbrev n_free_test : List Str := ["_law_box_here", "_law_words", "_law_deep", "_law_column", "_law_way", "_law_part", "_law_other"]
theorem sc_free_test : FnScope n_free_test ["_law_box_here", "_law_words", "_law_deep"] (defScope s_free_test) := ⟨rfl, rfl, rfl, by decide +kernel, rfl, by decide +kernel, by decide +kernel⟩
section
variable {P : Program} {w : World} {K : PySem.W.Frag} {mg : Str → Option Value} {base : Heap}
theorem ok_free0 (T : Top K mg) : FnOk P w K mg base CX0 2 T.a_free_test T.d_free_test ["_law_box_here", "_law_words", "_law_deep"] (spFree K 0) := by
  have no : ∀ vs H Q E, ¬ spFree K 0 vs H Q E := fun vs H Q E h => by
    obtain ⟨p, l, q, w0, w1, w2, w3, w4, d, _, _, _, _, _, h1, h2, _⟩ := h
    omega
  exact ⟨fun vs H Q E h => absurd h (no vs H Q E), fun A outer s H args us vs Q E _ _ _ _ h => absurd h (no vs H Q E)⟩
theorem ok_free1 (T : Top K mg) {n : Nat} (G : FnOk P w K mg base CX0 (n + 2) T.a_free_test T.d_free_test ["_law_box_here", "_law_words", "_law_deep"] (spFree K n)) : FnOk P w K mg base CX0 (n + 3) T.a_free_test T.d_free_test ["_law_box_here", "_law_words", "_law_deep"] (spFree K (n + 1)) := by
  refine T.F_free_test.ok sc_free_test (fun vs H Q E h => ?_) (fun cdv A outer s H vs Q E hr h => ?_)
  · obtain ⟨p, l, q, w0, w1, w2, w3, w4, d, rfl, _⟩ := h
    rfl
  obtain ⟨p, l, q, w0, w1, w2, w3, w4, d, rfl, B, hq, hl0, hl2, hd1, hdn, k⟩ := h
  have hqp : q ≠ p := by
    rintro rfl
    rw [hide_at] at hq
    cases hq
  have sq : ∀ {H'}, But p H H' → SqL K H' q [nameV w0, nameV w1, nameV w2, nameV w3, nameV w4] := fun e => SqL.of (hide_le _ _ (e _ _ hq))
  refine ⟨_, (pss_cons (ps_if (pt_cmpR op_eq (pv 2) pe_int (nomark _)) (pss_cons (ps_set (i := 3) sc_free_test.nd rfl (Or.inl rfl) (pe_call (ok_of T) (hr.mono (by omega)) rfl T.m_of T.F_of.kp T.b_of .nil pass0 (pa_cons (pv 0) (pa_cons (pe_lst (pa_cons (pe_ix ix_list (pv 1) pe_int (fun _ _ => rfl)) (pa_cons (pe_ix ix_list (pv 1) pe_int (fun _ _ => rfl)) (pa_cons (pe_op op_add_str (pe_op op_add_str (pe_ix ix_list (pv 1) pe_int (fun _ _ => rfl)) pe_str) (pe_ix ix_list (pv 1) pe_int (fun _ _ => rfl))) pa_nil)))) pa_nil))))
    (pss_one (ps_ret (pe_ifExp (pt_cmpR op_gt (pe_call (ok_pull T) (hr.mono (by omega)) rfl T.m_pull T.F_pull.kp T.b_pull .nil pass0 (pa_cons (pv 0) (pa_cons pe_int pa_nil))) pe_int (nomark _)) (pe_tup (pa_cons pe_str (pa_cons (pv 3) (pa_cons (pe_ix ix_list (pv 1) pe_int (fun _ _ => rfl)) pa_nil)))) (pe_tup (pa_cons pe_str (pa_cons (pe_ix ix_list (pv 1) pe_int (fun _ _ => rfl)) pa_nil))))))) pss_nil)
    (pss_cons (ps_par (i := 4) (j := 5) (by rfl) sc_free_test.nd rfl rfl (by decide) rfl rfl (pa_cons (pe_call (ok_pull T) (hr.mono (by omega)) rfl T.m_pull T.F_pull.kp T.b_pull .nil pass0 (pa_cons (pv 0) (pa_cons pe_int pa_nil))) (pa_cons (pe_call G hr rfl T.m_free_test T.F_free_test.kp T.b_free_test .nil pass0 (pa_cons (pv 0) (pa_cons (pv 1) (pa_cons (pe_op op_sub (pv 2) pe_int) pa_nil)))) pa_nil)) (by rfl))
    (pss_cons (ps_if (pt_cmpR op_eq (pv 4) pe_int (nomark _)) (pss_one (ps_ret (pe_tup (pa_cons pe_str (pa_cons (pv 5) pa_nil))))) pss_nil)
    (pss_cons (ps_set (i := 6) sc_free_test.nd rfl (Or.inl rfl) (pe_call G hr rfl T.m_free_test T.F_free_test.kp T.b_free_test .nil pass0 (pa_cons (pv 0) (pa_cons (pv 1) (pa_cons (pe_op op_add pe_int (pe_call (ok_pull T) (hr.mono (by omega)) rfl T.m_pull T.F_pull.kp T.b_pull .nil pass0 (pa_cons (pv 0) (pa_cons (pe_callB (call_min2 rfl) (by rfl) T.z_min (by decide +kernel) (pa_cons (pe_op op_sub (pv 2) pe_int) (pa_cons pe_int pa_nil))) pa_nil)))) pa_nil)))))
    (pss_one (ps_ret (pe_ifExp (pt_cmpR op_eq (pe_call (ok_pull T) (hr.mono (by omega)) rfl T.m_pull T.F_pull.kp T.b_pull .nil pass0 (pa_cons (pv 0) (pa_cons pe_int pa_nil))) pe_int (nomark _)) (pe_tup (pa_cons (pe_ix ix_list (pe_lst (pa_cons pe_str (pa_cons pe_str pa_nil))) (pe_op op_sub (pv 4) pe_int) (fun _ _ => rfl)) (pa_cons (pv 5) (pa_cons (pv 6) pa_nil)))) (pe_tup (pa_cons (pe_ix ix_list (pe_lst (pa_cons pe_str (pa_cons pe_str pa_nil))) (pe_op op_sub (pv 4) pe_int) (fun _ _ => rfl)) (pa_cons (pv 6) (pa_cons (pv 5) pa_nil))))))))))), ?_⟩
  refine ⟨_, rfl, rfl, _, rfl, ?_⟩
  have s0 := sq (Same.refl _)
  refine ite2 (fun hd => ?_) (fun hd => ?_)
  · -- a leaf
    have hd' : d = 1 := by
      have := V.int.inj (of_decide_eq_true hd)
      omega
    subst hd'
    refine ⟨_, rfl, _, rfl, q, _, _, _, rfl, rfl, s0, rfl, _, rfl, q, _, _, _, rfl, rfl, s0, rfl, _, rfl, q, _, _, _, rfl, rfl, s0, rfl, ?_⟩
    refine ⟨_, _, rfl, rfl, ?_, ?_⟩
    · show (S w2).length + 1 ≤ sizeLine
      rw [SX.S_len]
      exact small (by omega)
    refine ⟨_, rfl, q, _, _, _, rfl, rfl, s0, rfl, ?_⟩
    have ed : S w2 ++ ("." : Str) = S (w2 ++ [46]) := by
      rw [show ("." : Str) = S [46] by decide +kernel, SX.S_cat]
    refine ⟨_, _, rfl, rfl, ?_, ?_⟩
    · rw [ed, SX.S_len, SX.S_len, List.length_append]
      show w2.length + 1 + w0.length ≤ sizeLine
      exact small (by omega)
    rw [ed, SX.S_cat]
    have ew : w2 ++ [46] ++ w0 = w2 ++ 46 :: w0 := by rw [List.append_assoc]; rfl
    rw [ew]
    refine ⟨(by show 3 ≤ sizeLine; decide), fun c hc => ?_⟩
    have B1 := B.new hc (.lst [nameV w0, nameV w1, nameV (w2 ++ 46 :: w0)])
    have e1 : But p H _ := But.of (same_new hc (.lst [nameV w0, nameV w1, nameV (w2 ++ 46 :: w0)]))
    refine ⟨p, l, .ref c, rfl, B1, .inl ⟨c, _, rfl, .inl (SqL.of (hid_same (B.ne hc))), (by show 0 < 3; decide), (by show 3 < 1000000; decide), fun i x H1 hx B2 e2 => ?_⟩⟩
    obtain ⟨cl, hcl, rfl⟩ : ∃ cl, cl ∈ [w0, w1, w2 ++ 46 :: w0] ∧ x = nameV cl := by
      match i, hx with
      | 0, h => exact ⟨w0, List.mem_cons_self, (Option.some.inj h).symm⟩
      | 1, h => exact ⟨w1, List.mem_cons_of_mem _ List.mem_cons_self, (Option.some.inj h).symm⟩
      | 2, h => exact ⟨w2 ++ 46 :: w0, List.mem_cons_of_mem _ (List.mem_cons_of_mem _ List.mem_cons_self), (Option.some.inj h).symm⟩
      | i + 3, h => cases h
    refine ⟨_, rfl, p, l, 3, rfl, B2, by decide, by decide, fun g H2 _ _ B3 e3 => ?_⟩
    refine ⟨_, _, rfl, rfl, _, rfl, ?_⟩
    have e03 := Same.trans e1 (Same.trans e2 e3)
    have s3 := sq e03
    refine ite2 (fun _ => ?_) (fun _ => ?_)
    · refine ⟨_, rfl, _, rfl, q, _, _, _, rfl, rfl, s3, rfl, (by show 3 ≤ sizeLine; decide), fun t ht => ?_⟩
      refine k _ (.is cl w3) _ rfl ⟨hcl, rfl⟩ (.tup (SqT.of (hid_same (B3.ne ht))) (.cons (.str _) (.cons (.str _) (.cons (.str _) .nil)))) (B3.new ht _) (Same.trans e03 (But.of (same_new ht _)))
    · refine ⟨_, rfl, q, _, _, _, rfl, rfl, s3, rfl, (by show 2 ≤ sizeLine; decide), fun t ht => ?_⟩
      refine k _ (.has w4) _ rfl rfl (.tup (SqT.of (hid_same (B3.ne ht))) (.cons (.str _) (.cons (.str _) .nil))) (B3.new ht _) (Same.trans e03 (But.of (same_new ht _)))
  · -- a node
    have hd' : 2 ≤ d := by
      have h1 : d ≠ 1 := by
        rintro rfl
        exact hd rfl
      omega
    refine ⟨_, rfl, p, l, 3, rfl, B, by decide, by decide, fun way H1 hw0 hw3 B1 e1 => ?_⟩
    refine ⟨_, rfl, _, rfl, _, rfl, _, _, rfl, rfl, p, l, q, w0, w1, w2, w3, w4, d - 1, ?_, B1, e1 _ _ hq, hl0, hl2, by omega, by omega, fun v t H2 hdt hov hv B2 e2 => ?_⟩
    · show [V.ref p, V.ref q, V.int ((d : Int) - 1)] = _
      rw [show ((d : Int) - 1) = ((d - 1 : Nat) : Int) by omega]
    have e12 := Same.trans e1 e2
    refine ⟨_, _, rfl, ?_⟩
    refine ⟨_, rfl, rfl, _, rfl, ?_⟩
    refine ite2 (fun _ => ?_) (fun hw => ?_)
    · refine ⟨_, rfl, (by show 2 ≤ sizeLine; decide), fun b hb => ?_⟩
      refine k _ (.neg t) _ (by show t.deep + 1 = d; omega) hov (.tup (SqT.of (hid_same (B2.ne hb))) (.cons (.str _) (.cons (Dp.mono (hide_mono (same_new hb _)) _ _ hv) .nil))) (B2.new hb _) (Same.trans e12 (But.of (same_new hb _)))
    have hw' : way = 1 ∨ way = 2 := by
      have h1 : way ≠ 0 := by
        rintro rfl
        exact hw rfl
      omega
    refine ⟨_, rfl, _, rfl, _, rfl, _, rfl, _, _, rfl, rfl, _, _, rfl, ?_⟩
    have hm : (if (2 : Int) < (d : Int) - 1 then (2 : Int) else (d : Int) - 1) = ((min (d - 1) 2 : Nat) : Int) := by
      by_cases h : (2 : Int) < (d : Int) - 1
      · rw [if_pos h]
        omega
      · rw [if_neg h]
        omega
    rw [hm]
    refine ⟨p, l, _, rfl, B2, by omega, by omega, fun m H3 hm0 hm1 B3 e3 => ?_⟩
    obtain ⟨m, rfl⟩ := Int.eq_ofNat_of_zero_le hm0
    have e13 := Same.trans e12 e3
    refine ⟨_, _, rfl, rfl, p, l, q, w0, w1, w2, w3, w4, 1 + m, ?_, B3, e13 _ _ hq, hl0, hl2, by omega, by omega, fun v2 t2 H4 hdt2 hov2 hv2 B4 e4 => ?_⟩
    · show [V.ref p, V.ref q, V.int (1 + (m : Int))] = _
      rw [show (1 + (m : Int)) = ((1 + m : Nat) : Int) by omega]
    have e14 := Same.trans e13 e4
    have hv4 := Dp.mono (Same.trans e3 e4) _ _ hv
    refine ⟨_, rfl, p, l, 2, rfl, B4, by decide, by decide, fun g H5 _ _ B5 e5 => ?_⟩
    have e15 := Same.trans e14 e5
    have hv5 := Dp.mono e5 _ _ hv4
    have hv25 := Dp.mono e5 _ _ hv2
    refine ⟨rfl, _, rfl, ?_⟩
    have hat : ∃ o : Bool, atI ([.str "and", .str "or"] : List V) (way - 1) = some (.str (twoS o)) := by
      rcases hw' with rfl | rfl
      · exact ⟨true, rfl⟩
      · exact ⟨false, rfl⟩
    obtain ⟨o, hat⟩ := hat
    refine ite2 (fun _ => ?_) (fun _ => ?_)
    · refine ⟨(by show 2 ≤ sizeLine; decide), fun c hc => ⟨_, rfl, _, _, rfl, rfl, c, _, _, _, rfl, rfl, SqL.of upd_same, hat, _, rfl, _, rfl, (by show 3 ≤ sizeLine; decide), fun b hb => ?_⟩⟩
      have s6 := (same_new hc (.lst [.str "and", .str "or"])).trans (same_new hb (.tup [.str (twoS o), v, v2]))
      have B6 := B5.new hc (.lst [.str "and", .str "or"])
      refine k _ (.two o t t2) _ (by show max t.deep t2.deep + 1 = d; omega) ⟨hov, hov2⟩ (.tup (SqT.of (hid_same (B6.ne hb))) (.cons (.str _) (.cons (Dp.mono (hide_mono s6) _ _ hv5) (.cons (Dp.mono (hide_mono s6) _ _ hv25) .nil)))) (B6.new hb _) (Same.trans e15 (But.of s6))
    · refine ⟨(by show 2 ≤ sizeLine; decide), fun c hc => ⟨_, rfl, _, _, rfl, rfl, c, _, _, _, rfl, rfl, SqL.of upd_same, hat, _, rfl, _, rfl, (by show 3 ≤ sizeLine; decide), fun b hb => ?_⟩⟩
      have s6 := (same_new hc (.lst [.str "and", .str "or"])).trans (same_new hb (.tup [.str (twoS o), v2, v]))
      have B6 := B5.new hc (.lst [.str "and", .str "or"])
      refine k _ (.two o t2 t) _ (by show max t2.deep t.deep + 1 = d; omega) ⟨hov2, hov⟩ (.tup (SqT.of (hid_same (B6.ne hb))) (.cons (.str _) (.cons (Dp.mono (hide_mono s6) _ _ hv25) (.cons (Dp.mono (hide_mono s6) _ _ hv5) .nil)))) (B6.new hb _) (Same.trans e15 (But.of s6))
theorem ok_free (T : Top K mg) : ∀ n : Nat, FnOk P w K mg base CX0 (n + 2) T.a_free_test T.d_free_test ["_law_box_here", "_law_words", "_law_deep"] (spFree K n)
  | 0 => ok_free0 T
  | n + 1 => ok_free1 T (ok_free T n)
end
end Bl

namespace Bl
open PySem L2
open SX (S)
abbrev n_truth : List Str := ["_law_item", "_law_had", "_law_both", "_law_part"]
theorem sc_truth : FnScope n_truth ["_law_item", "_law_had"] (defScope s_truth) := ⟨rfl, rfl, rfl, by decide +kernel, rfl, by decide +kernel, by decide +kernel⟩
section
variable {P : Program} {w : World} {K : PySem.W.Frag} {mg : Str → Option Value} {base : Heap}
theorem ok_truth0 (T : Top K mg) : FnOk P w K mg base CX0 0 T.a_truth T.d_truth ["_law_item", "_law_had"] (spHolds K 0) := by
  have no : ∀ vs H Q E, ¬ spHolds K 0 vs H Q E := fun vs H Q E h => by
    obtain ⟨v, t, d, kvs, _, _, _, h1, _⟩ := h
    have := t.deep_pos
    omega
  exact ⟨fun vs H Q E h => absurd h (no vs H Q E), fun A outer s H args us vs Q E _ _ _ _ h => absurd h (no vs H Q E)⟩
theorem ok_truth1 (T : Top K mg) {n : Nat} (G : FnOk P w K mg base CX0 n T.a_truth T.d_truth ["_law_item", "_law_had"] (spHolds K n)) : FnOk P w K mg base CX0 (n + 1) T.a_truth T.d_truth ["_law_item", "_law_had"] (spHolds K (n + 1)) := by
  refine T.F_truth.ok sc_truth (fun vs H Q E h => ?_) (fun cdv A outer s H vs Q E hr h => ?_)
  · obtain ⟨v, t, d, kvs, rfl, _⟩ := h
    rfl
  obtain ⟨v, t, d, kvs, rfl, hv, hd, hn, hok, k⟩ := h
  refine ⟨_, (pss_cons (ps_if (pt_cmpR op_eq (pe_ix ix_tup (pv 0) pe_int (fun _ _ => rfl)) pe_str (nomark _)) (pss_one (ps_ret (pe_and (pe_cmp (pc_din (hu_of hr) (pe_ix ix_tup (pv 0) pe_int (fun _ _ => rfl)) (pv 1)) rfl) (pe_one (pe_cmpR op_eq (pe_dget (hu_of hr) (pv 1) (pe_ix ix_tup (pv 0) pe_int (fun _ _ => rfl)) (fun _ _ => rfl)) (pe_ix ix_tup (pv 0) pe_int (fun _ _ => rfl)) (nomark _)))))) pss_nil)
    (pss_cons (ps_if (pt_cmpR op_eq (pe_ix ix_tup (pv 0) pe_int (fun _ _ => rfl)) pe_str (nomark _)) (pss_one (ps_ret (pe_and (pe_cmp (pc_din (hu_of hr) (pe_ix ix_tup (pv 0) pe_int (fun _ _ => rfl)) (pv 1)) rfl) (pe_one (pe_dget (hu_of hr) (pv 1) (pe_ix ix_tup (pv 0) pe_int (fun _ _ => rfl)) (fun _ _ => rfl)))))) pss_nil)
    (pss_cons (ps_if (pt_cmpR op_eq (pe_ix ix_tup (pv 0) pe_int (fun _ _ => rfl)) pe_str (nomark _)) (pss_one (ps_ret (pe_not (pe_call G hr rfl T.m_truth T.F_truth.kp T.b_truth .nil pass0 (pa_cons (pe_ix ix_tup (pv 0) pe_int (fun _ _ => rfl)) (pa_cons (pv 1) pa_nil)))))) pss_nil)
    (pss_cons (ps_setLc (i := 2) (own := [("_law_part", 3)]) (g := gName 3) (tt := tYes) rfl sc_truth.nd rfl rfl (sw_true rfl rfl rfl (by decide +kernel)) (pi_tup (pe_slice sl_tupA (pv 0) (po_some pe_int) po_none)) (blkOk_by (own := [("_law_part", 3)]) (N := n_truth) (sc := defScope s_truth) (by decide +kernel)) (fun _ _ _ _ _ => (pg_name (i := 3) sc_truth.nd rfl (Or.inl rfl))) (fun _ _ _ _ _ => pts_nil) (fun _ _ _ _ _ => (pe_call G hr rfl T.m_truth T.F_truth.kp T.b_truth .nil pass0 (pa_cons (pv 3) (pa_cons (pv 1) pa_nil)))))
    (pss_one (ps_ret (pe_ifExp (pt_cmpR op_eq (pe_ix ix_tup (pv 0) pe_int (fun _ _ => rfl)) pe_str (nomark _)) (pe_and (pe_ix ix_list (pv 2) pe_int (fun _ _ => rfl)) (pe_one (pe_ix ix_list (pv 2) pe_int (fun _ _ => rfl)))) (pe_or (pe_ix ix_list (pv 2) pe_int (fun _ _ => rfl)) (pe_one (pe_ix ix_list (pv 2) pe_int (fun _ _ => rfl))))))))))), ?_⟩
  cases t with
  | is c t =>
    obtain ⟨a, x, y, z, rfl, hs, hx, hy, hz⟩ := Dp.tup3 hv
    obtain rfl := Dp.str1 hx
    obtain rfl := Dp.str1 hy
    obtain rfl := Dp.str1 hz
    refine ⟨_, rfl, a, _, _, _, rfl, rfl, hs, rfl, rfl, _, rfl, ?_⟩
    refine iteTk (by decide +kernel) ?_
    have q := k H (Same.refl _)
    have e1 : holdB kvs (.is c t) = decide ((valV kvs (Sum.inr (S c))).getD .non = .str (S t)) := rfl
    have sc := scal_row (t := t) hok
    unfold rowV at sc
    refine ⟨_, rfl, a, _, _, _, rfl, rfl, hs, rfl, _, rfl, d, _, rfl, DGet.k (k := Sum.inr (S c)) hd, _, rfl, ?_⟩
    cases e : valV kvs (Sum.inr (S c)) with
    | none =>
      refine iteF ?_
      rw [e1, e, decide_eq_false (fun h => nomatch h)] at q
      exact q
    | some u =>
      refine iteT ?_
      have hg := DGet.k (k := Sum.inr (S c)) hd
      rw [e] at hg sc e1
      rw [e1] at q
      refine ⟨_, rfl, _, rfl, a, _, _, _, rfl, rfl, hs, rfl, d, u, rfl, hg, _, rfl, a, _, _, _, rfl, rfl, hs, rfl, sc, ?_⟩
      exact q
  | has r =>
    obtain ⟨a, x, y, rfl, hs, hx, hy⟩ := Dp.tup2 hv
    obtain rfl := Dp.str1 hx
    obtain rfl := Dp.str1 hy
    refine ⟨_, rfl, a, _, _, _, rfl, rfl, hs, rfl, rfl, _, rfl, ?_⟩
    refine iteFk (by decide +kernel) ?_
    refine ⟨_, rfl, a, _, _, _, rfl, rfl, hs, rfl, rfl, _, rfl, ?_⟩
    refine iteTk (by decide +kernel) ?_
    have q := k H (Same.refl _)
    have e1 : holdB kvs (.has r) = decide ((valV kvs (Sum.inr (S r))).getD .non = .bl true) := rfl
    refine ⟨_, rfl, a, _, _, _, rfl, rfl, hs, rfl, _, rfl, d, _, rfl, DGet.k (k := Sum.inr (S r)) hd, _, rfl, ?_⟩
    rcases hok with e | ⟨b, e⟩
    · rw [e] at e1 ⊢
      refine iteF ?_
      rw [e1, decide_eq_false (fun h => nomatch h)] at q
      exact q
    · have hg := DGet.k (k := Sum.inr (S r)) hd
      rw [e] at e1 hg ⊢
      refine iteT ?_
      have e2 : holdB kvs (.has r) = b := by
        rw [e1]
        cases b <;> rfl
      rw [e2] at q
      exact ⟨_, rfl, _, rfl, a, _, _, _, rfl, rfl, hs, rfl, d, _, rfl, hg, q⟩
  | neg t =>
    obtain ⟨a, x, y, rfl, hs, hx, hy⟩ := Dp.tup2 hv
    obtain rfl := Dp.str1 hx
    refine ⟨_, rfl, a, _, _, _, rfl, rfl, hs, rfl, rfl, _, rfl, ?_⟩
    refine iteFk (by decide +kernel) ?_
    refine ⟨_, rfl, a, _, _, _, rfl, rfl, hs, rfl, rfl, _, rfl, ?_⟩
    refine iteFk (by decide +kernel) ?_
    refine ⟨_, rfl, a, _, _, _, rfl, rfl, hs, rfl, rfl, _, rfl, ?_⟩
    refine iteTk (by decide +kernel) ?_
    have h1 : t.deep + 1 ≤ n + 1 := hn
    refine ⟨_, rfl, a, _, _, _, rfl, rfl, hs, rfl, _, rfl, y, t, d, kvs, rfl, hy, hd, by omega, hok, fun H1 g1 => ⟨_, rfl, k H1 g1⟩⟩
  | two o t u =>
    obtain ⟨a, x, y, z, rfl, hs, hx, hy, hz⟩ := Dp.tup3 hv
    obtain rfl := Dp.str1 hx
    have h1 : max t.deep u.deep + 1 ≤ n + 1 := hn
    refine ⟨_, rfl, a, _, _, _, rfl, rfl, hs, rfl, rfl, _, rfl, ?_⟩
    refine iteFk (by cases o <;> decide +kernel) ?_
    refine ⟨_, rfl, a, _, _, _, rfl, rfl, hs, rfl, rfl, _, rfl, ?_⟩
    refine iteFk (by cases o <;> decide +kernel) ?_
    refine ⟨_, rfl, a, _, _, _, rfl, rfl, hs, rfl, rfl, _, rfl, ?_⟩
    refine iteFk (by cases o <;> decide +kernel) ?_
    refine ⟨_, rfl, _, rfl, a, _, rfl, hs, fun h => absurd h.1 (by show ¬ (1 : Nat) = 0; decide), fun _ b hb => ?_⟩
    have g0 := same_new hb (.tup [y, z])
    refine ⟨b, rfl, ⟨_, SqT.of upd_same⟩, fun D hD => ?_⟩
    refine lc_tup (K := K) (a := b) (xs := [y, z]) (fun i H2 => Same (upd H b (.tup [y, z])) H2 ∧ H2 D = some (.lst (([holdB kvs t, holdB kvs u].take i).map V.bl))) ⟨same_new hD _, upd_same⟩ (fun i H2 _ q => Same.tup q.1 (SqT.of upd_same)) ?_ ?_
    · rintro i c H2 hc ⟨g, hl⟩
      have g1 := g0.trans g
      match i, hc with
      | 0, hc =>
        obtain rfl : y = c := Option.some.inj hc
        refine ⟨rfl, _, rfl, _, rfl, y, t, d, kvs, rfl, Dp.mono g1 _ _ hy, g1 _ _ hd, by omega, hok.1, fun H3 g3 => ⟨_, g3 _ _ hl, (by show 0 < sizeLine; decide), Same.mut (g.trans g3) hD _, upd_same⟩⟩
      | 1, hc =>
        obtain rfl : z = c := Option.some.inj hc
        refine ⟨rfl, _, rfl, _, rfl, z, u, d, kvs, rfl, Dp.mono g1 _ _ hz, g1 _ _ hd, by omega, hok.2, fun H3 g3 => ⟨_, g3 _ _ hl, (by show 1 < sizeLine; decide), Same.mut (g.trans g3) hD _, upd_same⟩⟩
      | i + 2, hc => cases hc
    · rintro H2 ⟨g, hl⟩
      have g1 := g0.trans g
      have hl2 : H2 D = some (.lst [.bl (holdB kvs t), .bl (holdB kvs u)]) := hl
      refine ⟨_, rfl, a, _, _, _, rfl, rfl, Same.tup g1 hs, rfl, rfl, _, rfl, ?_⟩
      have q := k H2 g1
      cases o with
      | true =>
        refine iteTk (by decide +kernel) ?_
        refine ⟨_, rfl, D, _, _, _, rfl, rfl, SqL.of hl2, rfl, _, rfl, ?_⟩
        have e : holdB kvs (.two true t u) = (holdB kvs t && holdB kvs u) := rfl
        rw [e] at q
        cases ht : holdB kvs t with
        | false =>
          rw [ht] at q
          exact iteF q
        | true =>
          rw [ht] at q hl2
          refine iteT ?_
          exact ⟨_, rfl, D, _, _, _, rfl, rfl, SqL.of hl2, rfl, q⟩
      | false =>
        refine iteFk (by decide +kernel) ?_
        refine ⟨_, rfl, D, _, _, _, rfl, rfl, SqL.of hl2, rfl, _, rfl, ?_⟩
        have e : holdB kvs (.two false t u) = (holdB kvs t || holdB kvs u) := rfl
        rw [e] at q
        cases ht : holdB kvs t with
        | true =>
          rw [ht] at q
          exact iteT q
        | false =>
          rw [ht] at q hl2
          refine iteF ?_
          exact ⟨_, rfl, D, _, _, _, rfl, rfl, SqL.of hl2, rfl, q⟩
theorem ok_truth (T : Top K mg) : ∀ n : Nat, FnOk P w K mg base CX0 n T.a_truth T.d_truth ["_law_item", "_law_had"] (spHolds K n)
  | 0 => ok_truth0 T
  | n + 1 => ok_truth1 T (ok_truth T n)
end
end Bl

namespace Bl
open PySem L2
open SX (S)
/-! dicts that are filled -/
theorem put_keys {kvs : List (Key × V)} {k : Key} {y : V} (hn : (kvs.map (·.1)).Nodup) : ((putK kvs k y).map (·.1)).Nodup := by
  cases e : valV kvs k with
  | none => exact nd_putK y hn e
  | some u =>
    have h : (kvs.any fun kv => decide (kv.1 = k)) = true := by
      rw [valV_any, e]
      rfl
    unfold putK
    rw [if_pos h, List.map_map]
    have e2 : kvs.map ((fun p : Key × V => p.1) ∘ fun kv => if kv.1 = k then (kv.1, y) else kv) = kvs.map (·.1) := List.map_congr_left fun kv _ => by
      show (if kv.1 = k then (kv.1, y) else kv).1 = kv.1
      split <;> rfl
    rw [e2]
    exact hn
theorem put_len {kvs : List (Key × V)} {k : Key} {y : V} : (putK kvs k y).length ≤ kvs.length + 1 := by
  unfold putK
  split
  · rw [List.length_map]
    exact Nat.le_succ _
  · rw [List.length_append]
    exact Nat.le_refl _
theorem val_mem : ∀ {kvs : List (Key × V)} {p : Key × V}, (kvs.map (·.1)).Nodup → p ∈ kvs → valV kvs p.1 = some p.2
  | [], _, _, h => nomatch h
  | q :: r, p, hn, h => by
    have hn' := List.nodup_cons.mp hn
    rcases List.mem_cons.mp h with rfl | h
    · exact valV_pos rfl
    · have hne : ¬ q.1 = p.1 := by
        intro e
        have hm : q.1 ∈ r.map (fun x => x.1) := by
          rw [e]
          exact List.mem_map.mpr ⟨p, h, rfl⟩
        exact hn'.1 hm
      rw [valV_neg hne]
      exact val_mem hn'.2 h
/-- what the law's row holds -/
def okv (cols : List (List Nat)) (s : List Nat) (j : Key) (u : V) : Prop :=
  (∃ cl ∈ cols, j = Sum.inr (S cl) ∧ (u = .non ∨ ∃ z, u = .str z)) ∨ (j = Sum.inr (S s) ∧ ∃ b, u = .bl b)
structure RowIs (cols : List (List Nat)) (s : List Nat) (kvs : List (Key × V)) : Prop where
  nd : (kvs.map (·.1)).Nodup
  ok : ∀ j u, valV kvs j = some u → okv cols s j u
theorem RowIs.put {cols : List (List Nat)} {s : List Nat} {kvs : List (Key × V)} (r : RowIs cols s kvs) {k : Key} {y : V} (h : okv cols s k y) : RowIs cols s (putK kvs k y) := ⟨put_keys r.nd, fun j u e => by
  rw [valV_put] at e
  by_cases hj : j = k
  · rw [if_pos hj] at e
    cases e
    rw [hj]
    exact h
  · rw [if_neg hj] at e
    exact r.ok j u e⟩
theorem RowIs.rowOk {cols : List (List Nat)} {s g : List Nat} {kvs : List (Key × V)} (r : RowIs cols s kvs) (hs : s ∉ cols) : ∀ {t : Tst}, t.over cols g s → RowOk kvs t
  | .is c t, _ => by
    show rowV kvs c = .non ∨ _
    unfold rowV
    cases e : valV kvs (Sum.inr (S c)) with
    | none => exact .inl rfl
    | some u =>
      rcases r.ok _ _ e with ⟨_, _, _, rfl | ⟨z, rfl⟩⟩ | ⟨_, b, rfl⟩
      · exact .inl rfl
      · exact .inr (.inr ⟨z, rfl⟩)
      · exact .inr (.inl ⟨b, rfl⟩)
  | .has q, h => by
    obtain rfl : q = s := h
    show valV kvs (Sum.inr (S q)) = none ∨ _
    cases e : valV kvs (Sum.inr (S q)) with
    | none => exact .inl rfl
    | some u =>
      rcases r.ok _ _ e with ⟨cl, hcl, hk, _⟩ | ⟨_, b, rfl⟩
      · exact absurd (SX.S_inj (Sum.inr.inj hk) ▸ hcl) hs
      · exact .inr ⟨b, rfl⟩
  | .neg t, h => RowIs.rowOk (t := t) r hs h
  | .two _ t u, h => ⟨RowIs.rowOk (t := t) r hs h.1, RowIs.rowOk (t := u) r hs h.2⟩
theorem RowIs.flat {cols : List (List Nat)} {s : List Nat} {kvs : List (Key × V)} (r : RowIs cols s kvs) : ∀ p ∈ kvs, valV kvs p.1 = some p.2 ∧ flatB p.2 = true := fun p hp => by
  have e := val_mem r.nd hp
  refine ⟨e, ?_⟩
  rcases r.ok _ _ e with ⟨_, _, _, h | ⟨z, h⟩⟩ | ⟨_, b, h⟩ <;> rw [h] <;> rfl
theorem hid_in {p : Addr} {X Y : Hp} (e : Same X Y) (h : X p = none) : Same X (hide p Y) := fun b o q => by
  rw [hide_ne (ne_of_none q h)]
  exact e b o q
theorem hid_put {p d : Addr} {H : Hp} {o : HO} (h : d ≠ p) : hide d (hide p (upd H d o)) = hide d (hide p H) := by
  rw [hide_new h, hide_upd]
section
variable {P : Program} {w : World} {K : PySem.W.Frag} {mg : Str → Option Value} {base : Heap}
def g2 {α : Type} : List α → List α → List α := fun us ws => match us, ws with
  | [], [a, b] => [b, a]
  | _, _ => []
theorem g2_rel {vs : List V} {us : List Value} {zs : List V} {ws : List Value} (h : Vals vs us) (k : Vals zs ws) : Vals (g2 vs zs) (g2 us ws) := by
  cases h with
  | cons _ _ => exact .nil
  | nil =>
    cases k with
    | nil => exact .nil
    | cons a k =>
      cases k with
      | nil => exact .nil
      | cons b k =>
        cases k with
        | nil => exact .cons b (.cons a .nil)
        | cons _ _ => exact .nil
theorem g2_two {α : Type} : ∀ {us ws : List α}, (g2 us ws).length = 2 → ∃ a b, us = [] ∧ ws = [a, b]
  | [], [a, b], _ => ⟨a, b, rfl, rfl⟩
theorem kb_holds_row_test (T : Top K mg) : KBinds K T.d_holds ["test", "row"] ["row", "test"] g2 g2 := ⟨fun s us ws _ hl => by
  obtain ⟨a, b, rfl, rfl⟩ := g2_two hl
  obtain ⟨oc, od, kV, doc, pm, an, cdv, ct, osl, e, _⟩ := T.F_holds.ex
  rw [e]
  exact .of_eq rfl, g2_rel⟩
abbrev n_law : List Str := ["_law_script", "_law_box_here", "_law_turn", "_law_words", "_law_ask", "_law_known", "_law_column", "_law_kept"]
theorem sc_law : FnScope n_law ["_law_script"] (defScope s_law) := ⟨rfl, rfl, rfl, by decide +kernel, rfl, by decide +kernel, by decide +kernel⟩
def spLaw (K : PySem.W.Frag) : Sp := fun vs H Q _ => ∃ (a : Addr) (ns : List Int), vs = [.ref a] ∧ SqL K H a (ns.map V.int) ∧ ns.length ≤ 63 ∧ ∀ H', Q (.bl true) H'
theorem ok_law (T : Top K mg) : FnOk P w K mg base CX0 9 T.a_law T.d_law ["_law_script"] (spLaw K) := by
  refine T.F_law.ok sc_law (fun vs H Q E h => ?_) (fun cdv A outer s H vs Q E hr h => ?_)
  · obtain ⟨a, ns, rfl, _⟩ := h
    rfl
  obtain ⟨a, ns, rfl, hS, h63, k⟩ := h
  refine ⟨_, (pss_cons (ps_set (i := 1) sc_law.nd rfl (Or.inl rfl) (pe_call (ok_box T) (hr.mono (by decide)) rfl T.m_box T.F_box.kp T.b_box .nil pass0 (pa_cons (pv 0) pa_nil)))
    (pss_cons (ps_for PassesOwn.never rfl (pi_range1 (by rfl) T.z_range (pa_cons pe_int pa_nil)) (pg_name (i := 2) sc_law.nd rfl (Or.inl rfl))
    (pss_cons (ps_set (i := 3) sc_law.nd rfl (Or.inl rfl) (pe_call (ok_names T) (hr.mono (by decide)) rfl T.m_names T.F_names.kp T.b_names .nil pass0 (pa_cons (pv 1) (pa_cons pe_int pa_nil))))
    (pss_cons (ps_set (i := 4) sc_law.nd rfl (Or.inl rfl) (pe_call (ok_free T 5) (hr.mono (by decide)) rfl T.m_free_test T.F_free_test.kp T.b_free_test .nil pass0 (pa_cons (pv 1) (pa_cons (pv 3) (pa_cons (pe_op op_add pe_int (pe_call (ok_pull T) (hr.mono (by decide)) rfl T.m_pull T.F_pull.kp T.b_pull .nil pass0 (pa_cons (pv 1) (pa_cons pe_int pa_nil)))) pa_nil)))))
    (pss_cons (ps_set (i := 5) sc_law.nd rfl (Or.inl rfl) pe_dnewK)
    (pss_cons (ps_for PassesOwn.never rfl (pi_list (pe_lst (pa_cons (pe_ix ix_list (pv 3) pe_int (fun _ _ => rfl)) (pa_cons (pe_ix ix_list (pv 3) pe_int (fun _ _ => rfl)) (pa_cons (pe_op op_add_str (pe_op op_add_str (pe_ix ix_list (pv 3) pe_int (fun _ _ => rfl)) pe_str) (pe_ix ix_list (pv 3) pe_int (fun _ _ => rfl))) pa_nil))))) (pg_name (i := 6) sc_law.nd rfl (Or.inl rfl))
    (pss_one (ps_if (pt_cmpR op_gt (pe_call (ok_pull T) (hr.mono (by decide)) rfl T.m_pull T.F_pull.kp T.b_pull .nil pass0 (pa_cons (pv 1) (pa_cons pe_int pa_nil))) pe_int (nomark _)) (pss_one (ps_dput (hu_of hr) (pv 5) (pv 6) (pe_call (ok_of T) (hr.mono (by decide)) rfl T.m_of T.F_of.kp T.b_of .nil pass0 (pa_cons (pv 1) (pa_cons (pe_lst (pa_cons (pe_ix ix_list (pv 3) pe_int (fun _ _ => rfl)) (pa_cons (pe_ix ix_list (pv 3) pe_int (fun _ _ => rfl)) (pa_cons (pe_ix ix_list (pv 3) pe_int (fun _ _ => rfl)) (pa_cons pe_non pa_nil))))) pa_nil))) rfl)) pss_nil)))
    (C8.pss_cut (ps_if (pt_cmpR op_gt (pe_call (ok_pull T) (hr.mono (by decide)) rfl T.m_pull T.F_pull.kp T.b_pull .nil pass0 (pa_cons (pv 1) (pa_cons pe_int pa_nil))) pe_int (nomark _)) (pss_one (ps_dput (hu_of hr) (pv 5) (pe_ix ix_list (pv 3) pe_int (fun _ _ => rfl)) (pe_cmpR op_eq (pe_call (ok_pull T) (hr.mono (by decide)) rfl T.m_pull T.F_pull.kp T.b_pull .nil pass0 (pa_cons (pv 1) (pa_cons pe_int pa_nil))) pe_int (nomark _)) rfl)) pss_nil)
    (pss_cons (ps_set (i := 7) sc_law.nd rfl (Or.inl rfl) (pe_callTy call_dictD (by rfl) T.z_dict (by decide +kernel) (pa_cons (pv 5) pa_nil)))
    (pss_one (ps_if (PW.pt (pw_or (pt_not (pt_val (pe_call (ok_same T 3) (hr.mono (by decide)) rfl T.m_same T.F_same.kp T.b_same .nil pass0 (pa_cons (pe_lst (pa_cons (pe_call (ok_holds T 7) (hr.mono (by decide)) rfl T.m_holds T.F_holds.kp T.b_holds .nil pass0 (pa_cons (pv 4) (pa_cons (pv 5) pa_nil))) (pa_cons (pe_callK0 (ok_holds T 7) (hr.mono (by decide)) rfl T.m_holds T.F_holds.kp (kb_holds_row_test T) pass0 (pk_cons (pv 5) (pk_cons (pe_tup (pa_cons pe_str (pa_cons (pv 4) pa_nil))) pk_nil))) pa_nil))) (pa_cons (pe_lst (pa_cons (pe_call (ok_truth T 7) (hr.mono (by decide)) rfl T.m_truth T.F_truth.kp T.b_truth .nil pass0 (pa_cons (pv 4) (pa_cons (pv 7) pa_nil))) (pa_cons (pe_not (pe_call (ok_truth T 7) (hr.mono (by decide)) rfl T.m_truth T.F_truth.kp T.b_truth .nil pass0 (pa_cons (pv 4) (pa_cons (pv 7) pa_nil)))) pa_nil))) pa_nil))))) (pw_or1 (pt_cmpR (op_ne_dictA hr.units0) (pv 5) (pv 7) (nomark _))))) (pss_one (ps_ret pe_bl)) pss_nil)))))))))
    (pss_one (ps_ret pe_bl)))), ?_⟩
  refine ⟨_, rfl, a, ns, rfl, hS, h63, fun p b H0 hp B0 e0 => ?_⟩
  refine ⟨8, rfl, by decide, by decide, for_range (lo := 0) (n := 8) (fun i σ H2 => ∃ o2 o3 o4 o5 o6 o7 : Option V, σ = [some (.ref a), some (.ref p), o2, o3, o4, o5, o6, o7] ∧ BoxAt H2 p b)
    ⟨_, _, _, _, _, _, rfl, B0⟩ ?_ ?_⟩
  · rintro i σ H1 hi ⟨o2, o3, o4, o5, o6, o7, rfl, B1⟩
    -- the words
    refine ⟨_, rfl, p, b, 5, rfl, B1, by decide, by decide, fun q zs H2 hlen hnames hnd hm hfree hqp hq B2 e2 => ?_⟩
    obtain ⟨w0, w1, w2, w3, w4, rfl⟩ : ∃ w0 w1 w2 w3 w4, zs = [w0, w1, w2, w3, w4] := by
      match zs, hlen with
      | [a, b, c, d, e], _ => exact ⟨a, b, c, d, e, rfl⟩
    have n0 := hnames w0 (by simp)
    have n2 := hnames w2 (by simp)
    have n4 := hnames w4 (by simp)
    have l0 := n0.six
    have l2 := n2.six
    have hs4 : w4 ∉ [w0, w1, w2 ++ 46 :: w0] := by
      intro h
      rcases List.mem_cons.mp h with h | h
      · rw [h] at hnd
        simp at hnd
      · rcases List.mem_cons.mp h with h | h
        · rw [h] at hnd
          simp at hnd
        · have h2 : 46 ∈ w4 := by
            rw [List.mem_singleton.mp h]
            simp
          exact absurd (n4.low 46 h2) (by decide)
    have hq2 : hide p H2 q = some (.lst [nameV w0, nameV w1, nameV w2, nameV w3, nameV w4]) := by
      rw [hide_ne hqp]
      exact hq
    -- the test
    refine ⟨_, rfl, _, rfl, _, rfl, p, b, 5, rfl, B2, by decide, by decide, fun m H3 hm0 hm5 B3 e3 => ?_⟩
    obtain ⟨m, rfl⟩ := Int.eq_ofNat_of_zero_le hm0
    refine ⟨_, _, rfl, rfl, p, b, q, w0, w1, w2, w3, w4, 1 + m, ?_, B3, e3 _ _ hq2, by omega, by omega, by omega, by omega, fun v t H4 hdt hov hv B4 e4 => ?_⟩
    · show [V.ref p, V.ref q, V.int (1 + (m : Int))] = _
      rw [show (1 + (m : Int)) = ((1 + m : Nat) : Int) by omega]
    have hq4 := e4 _ _ (e3 _ _ hq2)
    have s4 : ∀ {H' : Hp}, Same (hide p H4) (hide p H') → SqL K H' q [nameV w0, nameV w1, nameV w2, nameV w3, nameV w4] := fun e => SqL.of (hide_le _ _ (e _ _ hq4))
    -- the row
    intro D hD
    have nD := B4.ne hD
    have nDb := B4.nl hD
    have B5 := B4.new hD (.dK [])
    have g5 := same_new hD (.dK [])
    have s5 := s4 (hide_mono g5)
    refine ⟨_, rfl, q, _, _, _, rfl, rfl, s5, rfl, _, rfl, q, _, _, _, rfl, rfl, s5, rfl, _, rfl, q, _, _, _, rfl, rfl, s5, rfl, ?_⟩
    refine ⟨_, _, rfl, rfl, ?_, ?_⟩
    · show (S w2).length + 1 ≤ sizeLine
      rw [SX.S_len]
      exact small (by omega)
    refine ⟨_, rfl, q, _, _, _, rfl, rfl, s5, rfl, ?_⟩
    have ed : S w2 ++ ("." : Str) = S (w2 ++ [46]) := by
      rw [show ("." : Str) = S [46] by decide +kernel, SX.S_cat]
    refine ⟨_, _, rfl, rfl, ?_, ?_⟩
    · rw [ed, SX.S_len, SX.S_len, List.length_append]
      show w2.length + 1 + w0.length ≤ sizeLine
      exact small (by omega)
    rw [ed, SX.S_cat]
    have ew : w2 ++ [46] ++ w0 = w2 ++ 46 :: w0 := by rw [List.append_assoc]; rfl
    rw [ew]
    refine ⟨(by show 3 ≤ sizeLine; decide), fun c hc => ?_⟩
    have B6 := B5.new hc (.lst [nameV w0, nameV w1, V.str (S (w2 ++ 46 :: w0))])
    have g6 := same_new hc (.lst [nameV w0, nameV w1, V.str (S (w2 ++ 46 :: w0))])
    have ncD : c ≠ D := (ne_of_none upd_same hc).symm
    have hD6 : (upd (upd H4 D (.dK [])) c (.lst [nameV w0, nameV w1, V.str (S (w2 ++ 46 :: w0))])) D = some (.dK []) := by
      rw [upd_ne ncD.symm, upd_same]
    have hc6 : (upd (upd H4 D (.dK [])) c (.lst [nameV w0, nameV w1, V.str (S (w2 ++ 46 :: w0))])) c = some (.lst [nameV w0, nameV w1, V.str (S (w2 ++ 46 :: w0))]) := upd_same
    have ncp := B5.ne hc
    have E0 : Same (hide p H4) (hide D (hide p (upd (upd H4 D (.dK [])) c (.lst [nameV w0, nameV w1, V.str (S (w2 ++ 46 :: w0))])))) := hid_in (hide_mono (g5.trans g6)) (hide_free hD)
    refine ⟨c, rfl, ⟨_, SqL.of upd_same⟩, ?_⟩
    generalize (upd (upd H4 D (.dK [])) c (.lst [nameV w0, nameV w1, V.str (S (w2 ++ 46 :: w0))])) = H6 at *
    have hcE : hide D (hide p H6) c = some (.lst [nameV w0, nameV w1, V.str (S (w2 ++ 46 :: w0))]) := by
      rw [hide_ne ncD, hide_ne ncp]
      exact hc6
    have hqE := E0 _ _ hq4
    have hvE := Dp.mono E0 _ _ hv
    generalize hE6 : hide D (hide p H6) = E6 at *
    have sqE : ∀ {H' : Hp}, Same E6 (hide D (hide p H')) → SqL K H' q [nameV w0, nameV w1, nameV w2, nameV w3, nameV w4] := fun e => SqL.of (hide_le _ _ (hide_le _ _ (e _ _ hqE)))
    refine for_list (K := K) (a := c) (xs := [nameV w0, nameV w1, V.str (S (w2 ++ 46 :: w0))]) (fun j σ H' => ∃ (o6 : Option V) (kvs : List (Key × V)), σ = [some (.ref a), some (.ref p), some (.int (0 + (i : Int))), some (.ref q), some v, some (.ref D), o6, o7] ∧ BoxAt H' p b ∧
        Same E6 (hide D (hide p H')) ∧ H' D = some (.dK kvs) ∧ RowIs [w0, w1, w2 ++ 46 :: w0] w4 kvs ∧ kvs.length ≤ j)
      ⟨_, [], rfl, B6, by rw [hE6]; exact Same.refl _, hD6, ⟨List.nodup_nil, fun j u e => nomatch e⟩, Nat.le_refl _⟩ (fun j σ H' _ q => by
        obtain ⟨_, _, _, _, e, _⟩ := q
        exact SqL.of (hide_le _ _ (hide_le _ _ (e _ _ hcE)))) ?_ ?_
    · rintro j x σ H7 hx ⟨o6, kvs, rfl, B7, e7, hD7, hr7, hl7⟩
      have hj3 : j < 3 := (List.getElem?_eq_some_iff.mp hx).1
      obtain ⟨cl, hcl, rfl⟩ : ∃ cl, cl ∈ [w0, w1, w2 ++ 46 :: w0] ∧ x = nameV cl := by
        match j, hx with
        | 0, h => exact ⟨w0, List.mem_cons_self, (Option.some.inj h).symm⟩
        | 1, h => exact ⟨w1, List.mem_cons_of_mem _ List.mem_cons_self, (Option.some.inj h).symm⟩
        | 2, h => exact ⟨w2 ++ 46 :: w0, List.mem_cons_of_mem _ (List.mem_cons_of_mem _ List.mem_cons_self), (Option.some.inj h).symm⟩
        | j + 3, h => cases h
      refine ⟨_, rfl, p, b, 4, rfl, B7, by decide, by decide, fun g H8 _ _ B8 e8 => ?_⟩
      have e78 := Same.trans e7 (hide_mono (p := D) e8)
      have hD8 : H8 D = some (.dK kvs) := hide_le _ _ (e8 _ _ (by rw [hide_ne nD]; exact hD7))
      refine ⟨_, _, rfl, rfl, _, rfl, ?_⟩
      refine ite2 (fun _ => ?_) (fun _ => ⟨_, kvs, rfl, B8, e78, hD8, hr7, by omega⟩)
      have s8 := sqE e78
      refine ⟨_, rfl, _, rfl, q, _, _, _, rfl, rfl, s8, rfl, _, rfl, q, _, _, _, rfl, rfl, s8, rfl, _, rfl, q, _, _, _, rfl, rfl, s8, rfl, (by show 4 ≤ sizeLine; decide), fun l4 hl4 => ?_⟩
      refine ⟨p, b, .ref l4, rfl, B8.new hl4 _, .inl ⟨l4, _, rfl, .inl (SqL.of (hid_same (B8.ne hl4))), (by show 0 < 4; decide), (by show 4 < 1000000; decide), fun i3 x H9 hx B9 e9 => ?_⟩⟩
      have hu : x = .non ∨ ∃ z, x = .str z := by
        match i3, hx with
        | 0, h => exact .inr ⟨_, (Option.some.inj h).symm⟩
        | 1, h => exact .inr ⟨_, (Option.some.inj h).symm⟩
        | 2, h => exact .inr ⟨_, (Option.some.inj h).symm⟩
        | 3, h => exact .inl (Option.some.inj h).symm
        | i + 4, h => cases h
      have e89 : But p H8 H9 := Same.trans (But.of (same_new hl4 _)) e9
      have e79 := Same.trans e78 (hide_mono (p := D) e89)
      have hD9 : H9 D = some (.dK kvs) := hide_le _ _ (e89 _ _ (by rw [hide_ne nD]; exact hD8))
      refine ⟨_, rfl, _, rfl, D, _, rfl, DPut.k (k := Sum.inr (S cl)) hD9 (small1000 (by omega)), ?_⟩
      refine ⟨_, _, rfl, B9.mut nD nDb _, by rw [hid_put nD]; exact e79, upd_same, hr7.put (.inl ⟨cl, hcl, rfl, hu⟩), ?_⟩
      have := put_len (kvs := kvs) (k := Sum.inr (S cl)) (y := x)
      omega
    rintro σ H7 ⟨o6, kvs, rfl, B7, e7, hD7, hr7, hl7⟩
    have hl3 : kvs.length ≤ 3 := hl7
    -- the side
    refine ⟨fun σ H' => ∃ kvs : List (Key × V), σ = [some (.ref a), some (.ref p), some (.int (0 + (i : Int))), some (.ref q), some v, some (.ref D), o6, o7] ∧ BoxAt H' p b ∧
        Same E6 (hide D (hide p H')) ∧ H' D = some (.dK kvs) ∧ RowIs [w0, w1, w2 ++ 46 :: w0] w4 kvs, ?_, ?_⟩
    · refine ⟨_, rfl, p, b, 3, rfl, B7, by decide, by decide, fun g H8 _ _ B8 e8 => ?_⟩
      have e78 := Same.trans e7 (hide_mono (p := D) e8)
      have hD8 : H8 D = some (.dK kvs) := hide_le _ _ (e8 _ _ (by rw [hide_ne nD]; exact hD7))
      refine ⟨_, _, rfl, rfl, _, rfl, ?_⟩
      refine ite2 (fun _ => ?_) (fun _ => ⟨kvs, rfl, B8, e78, hD8, hr7⟩)
      refine ⟨_, rfl, p, b, 2, rfl, B8, by decide, by decide, fun g2 H9 _ _ B9 e9 => ?_⟩
      have e79 := Same.trans e78 (hide_mono (p := D) e9)
      have hD9 : H9 D = some (.dK kvs) := hide_le _ _ (e9 _ _ (by rw [hide_ne nD]; exact hD8))
      refine ⟨rfl, _, rfl, _, rfl, q, _, _, _, rfl, rfl, sqE e79, rfl, D, _, rfl, DPut.k (k := Sum.inr (S w4)) hD9 (small1000 (by omega)), ?_⟩
      exact ⟨_, rfl, B9.mut nD nDb _, by rw [hid_put nD]; exact e79, upd_same, hr7.put (.inr ⟨rfl, _, rfl⟩)⟩
    rintro σ H8 ⟨kvs, rfl, B8, e8, hD8, hr8⟩
    have hv8 : Dp K H8 v t.toD := Dp.mono hide_le _ _ (Dp.mono hide_le _ _ (Dp.mono e8 _ _ hvE))
    have hok := RowIs.rowOk hr8 hs4 hov
    refine ⟨_, rfl, D, kvs, rfl, .inl hD8, fun E hE => ?_⟩
    have g9 := same_new hE (.dK kvs)
    have hE9 : (upd H8 E (.dK kvs)) E = some (.dK kvs) := upd_same
    have B9 := B8.new hE (.dK kvs)
    have hD9 := g9 _ _ hD8
    have hv9 := Dp.mono g9 _ _ hv8
    refine ⟨_, rfl, _, rfl, v, t, D, kvs, rfl, hv9, hD9, by omega, hok, fun G1 g1 => ?_⟩
    refine ⟨_, rfl, _, rfl, (by show 2 ≤ sizeLine; decide), fun n hn => ?_⟩
    have k1 := g1.trans (same_new hn (.tup [.str "not", v]))
    have hn1 : (upd G1 n (.tup [.str "not", v])) n = some (.tup [.str "not", v]) := upd_same
    have dn : (Tst.neg t).deep = t.deep + 1 := rfl
    refine ⟨.ref n, .neg t, D, kvs, rfl, .tup (SqT.of hn1) (.cons (.str _) (.cons (Dp.mono k1 _ _ hv9) .nil)), k1 _ _ hD9, by rw [dn]; omega, hok, fun G2 g2 => ?_⟩
    have k2 := k1.trans g2
    refine ⟨(by show 2 ≤ sizeLine; decide), fun m1 hm1 => ?_⟩
    have k3 := k2.trans (same_new hm1 (.lst [.bl (holdB kvs t), .bl (holdB kvs (.neg t))]))
    have hm1' : (upd G2 m1 (.lst [.bl (holdB kvs t), .bl (holdB kvs (.neg t))])) m1 = some (.lst [.bl (holdB kvs t), .bl (holdB kvs (.neg t))]) := upd_same
    refine ⟨_, rfl, _, rfl, v, t, E, kvs, rfl, Dp.mono k3 _ _ hv9, k3 _ _ hE9, by omega, hok, fun G4 g4 => ?_⟩
    have k4 := k3.trans g4
    refine ⟨_, rfl, _, rfl, v, t, E, kvs, rfl, Dp.mono k4 _ _ hv9, k4 _ _ hE9, by omega, hok, fun G5 g5 => ?_⟩
    refine ⟨_, rfl, (by show 2 ≤ sizeLine; decide), fun m2 hm2 => ?_⟩
    have k6 := g4.trans (g5.trans (same_new hm2 (.lst [.bl (holdB kvs t), .bl (!holdB kvs t)])))
    refine ⟨_, _, .list [.bool (holdB kvs t), .bool (!holdB kvs t)], rfl, .lst (SqL.of (k6 _ _ hm1')) (.cons (.bl _) (.cons (.bl _) .nil)), .lst (SqL.of upd_same) (.cons (.bl _) (.cons (.bl _) .nil)), ?_, fun G7 g7 => ?_⟩
    · refine ⟨(by show 2 < 1000000; decide), fun e he => ?_⟩
      rcases List.mem_cons.mp he with rfl | he
      · exact True.intro
      obtain rfl := List.mem_singleton.mp he
      exact True.intro
    have k7 := k3.trans (k6.trans g7)
    refine ⟨_, rfl, ?_⟩
    refine iteF ?_
    refine ⟨_, rfl, _, rfl, D, E, kvs, kvs, rfl, rfl, k7 _ _ hD9, k7 _ _ hE9, rfl, RowIs.flat hr8, _, rfl, ?_⟩
    refine iteF ?_
    exact ⟨_, _, _, _, _, _, rfl, B9.mono k7⟩
  · rintro σ H1 ⟨o2, o3, o4, o5, o6, o7, rfl, B1⟩
    exact k H1
end
end Bl

namespace Bl
open PySem L2
theorem top_mk {K : PySem.W.Frag} {h : Heap} {mg : Str → Option Value} {fa : Addr} (X : K.In h) (G : h.Ns mainGlobals mg) (hfa : mg "law" = some (.ref fa))
    {a0 : Addr} {od0 an0 : Option Addr} {sl0 : Array (Option Value)} {oc0 kV0 dc0 pm0 cd0 ct0 : Value}
    {a1 : Addr} {od1 an1 : Option Addr} {sl1 : Array (Option Value)} {oc1 kV1 dc1 pm1 cd1 ct1 : Value}
    {a2 : Addr} {od2 an2 : Option Addr} {sl2 : Array (Option Value)} {oc2 kV2 dc2 pm2 cd2 ct2 : Value}
    {a3 : Addr} {od3 an3 : Option Addr} {sl3 : Array (Option Value)} {oc3 kV3 dc3 pm3 cd3 ct3 : Value}
    {a4 : Addr} {od4 an4 : Option Addr} {sl4 : Array (Option Value)} {oc4 kV4 dc4 pm4 cd4 ct4 : Value}
    {a5 : Addr} {od5 an5 : Option Addr} {sl5 : Array (Option Value)} {oc5 kV5 dc5 pm5 cd5 ct5 : Value}
    {a6 : Addr} {od6 an6 : Option Addr} {sl6 : Array (Option Value)} {oc6 kV6 dc6 pm6 cd6 ct6 : Value}
    {a7 : Addr} {od7 an7 : Option Addr} {sl7 : Array (Option Value)} {oc7 kV7 dc7 pm7 cd7 ct7 : Value}
    {a8 : Addr} {od8 an8 : Option Addr} {sl8 : Array (Option Value)} {oc8 kV8 dc8 pm8 cd8 ct8 : Value}
    (A0 : PySem.W.nsIn K mainGlobals "holds" = some (some (.ref a0))) (L0 : K.lookup a0 = some ⟨oc0, od0, .func (PySem.W.fnOf "holds" "holds" (defArgs s_holds) (defBody s_holds) (defScope s_holds) .none kV0 dc0 pm0 an0 cd0 ct0), sl0⟩) (C0 : PySem.W.codeIn K cd0 "holds" = true) (K0 : PySem.W.keepIn K (.ref a0) = true)
    (A1 : PySem.W.nsIn K mainGlobals "_law_box" = some (some (.ref a1))) (L1 : K.lookup a1 = some ⟨oc1, od1, .func (PySem.W.fnOf "_law_box" "_law_box" (defArgs s_box) (defBody s_box) (defScope s_box) .none kV1 dc1 pm1 an1 cd1 ct1), sl1⟩) (C1 : PySem.W.codeIn K cd1 "_law_box" = true) (K1 : PySem.W.keepIn K (.ref a1) = true)
    (A2 : PySem.W.nsIn K mainGlobals "_law_pull" = some (some (.ref a2))) (L2 : K.lookup a2 = some ⟨oc2, od2, .func (PySem.W.fnOf "_law_pull" "_law_pull" (defArgs s_pull) (defBody s_pull) (defScope s_pull) .none kV2 dc2 pm2 an2 cd2 ct2), sl2⟩) (C2 : PySem.W.codeIn K cd2 "_law_pull" = true) (K2 : PySem.W.keepIn K (.ref a2) = true)
    (A3 : PySem.W.nsIn K mainGlobals "_law_of" = some (some (.ref a3))) (L3 : K.lookup a3 = some ⟨oc3, od3, .func (PySem.W.fnOf "_law_of" "_law_of" (defArgs s_of) (defBody s_of) (defScope s_of) .none kV3 dc3 pm3 an3 cd3 ct3), sl3⟩) (C3 : PySem.W.codeIn K cd3 "_law_of" = true) (K3 : PySem.W.keepIn K (.ref a3) = true)
    (A4 : PySem.W.nsIn K mainGlobals "_law_names" = some (some (.ref a4))) (L4 : K.lookup a4 = some ⟨oc4, od4, .func (PySem.W.fnOf "_law_names" "_law_names" (defArgs s_names) (defBody s_names) (defScope s_names) .none kV4 dc4 pm4 an4 cd4 ct4), sl4⟩) (C4 : PySem.W.codeIn K cd4 "_law_names" = true) (K4 : PySem.W.keepIn K (.ref a4) = true)
    (A5 : PySem.W.nsIn K mainGlobals "_law_same" = some (some (.ref a5))) (L5 : K.lookup a5 = some ⟨oc5, od5, .func (PySem.W.fnOf "_law_same" "_law_same" (defArgs s_same) (defBody s_same) (defScope s_same) .none kV5 dc5 pm5 an5 cd5 ct5), sl5⟩) (C5 : PySem.W.codeIn K cd5 "_law_same" = true) (K5 : PySem.W.keepIn K (.ref a5) = true)
    (A6 : PySem.W.nsIn K mainGlobals "_law_free_test" = some (some (.ref a6))) (L6 : K.lookup a6 = some ⟨oc6, od6, .func (PySem.W.fnOf "_law_free_test" "_law_free_test" (defArgs s_free_test) (defBody s_free_test) (defScope s_free_test) .none kV6 dc6 pm6 an6 cd6 ct6), sl6⟩) (C6 : PySem.W.codeIn K cd6 "_law_free_test" = true) (K6 : PySem.W.keepIn K (.ref a6) = true)
    (A7 : PySem.W.nsIn K mainGlobals "_law_truth" = some (some (.ref a7))) (L7 : K.lookup a7 = some ⟨oc7, od7, .func (PySem.W.fnOf "_law_truth" "_law_truth" (defArgs s_truth) (defBody s_truth) (defScope s_truth) .none kV7 dc7 pm7 an7 cd7 ct7), sl7⟩) (C7 : PySem.W.codeIn K cd7 "_law_truth" = true) (K7 : PySem.W.keepIn K (.ref a7) = true)
    (A8 : PySem.W.nsIn K mainGlobals "law" = some (some (.ref a8))) (L8 : K.lookup a8 = some ⟨oc8, od8, .func (PySem.W.fnOf "law" "law" (defArgs s_law) (defBody s_law) (defScope s_law) .none kV8 dc8 pm8 an8 cd8 ct8), sl8⟩) (C8 : PySem.W.codeIn K cd8 "law" = true) (K8 : PySem.W.keepIn K (.ref a8) = true)
    (Z0 : PySem.W.nsIn K mainGlobals "abs" = some none)
    (Z1 : PySem.W.nsIn K mainGlobals "all" = some none)
    (Z2 : PySem.W.nsIn K mainGlobals "bool" = some none)
    (Z3 : PySem.W.nsIn K mainGlobals "dict" = some none)
    (Z4 : PySem.W.nsIn K mainGlobals "int" = some none)
    (Z5 : PySem.W.nsIn K mainGlobals "isinstance" = some none)
    (Z6 : PySem.W.nsIn K mainGlobals "len" = some none)
    (Z7 : PySem.W.nsIn K mainGlobals "list" = some none)
    (Z8 : PySem.W.nsIn K mainGlobals "min" = some none)
    (Z9 : PySem.W.nsIn K mainGlobals "range" = some none)
    (Z10 : PySem.W.nsIn K mainGlobals "str" = some none)
    (Z11 : PySem.W.nsIn K mainGlobals "tuple" = some none)
    (Z12 : PySem.W.nsIn K mainGlobals "zip" = some none) :
    ∃ T : Top K mg, T.a_law = fa ∧ ∀ (s : Shared) (v : Value), BindsTo s T.d_law ⟨[v], []⟩ [("_law_script", v)] := by
  have e : a8 = fa := (Value.ref.inj (Option.some.inj (hfa.symm.trans (PySem.W.mg_of X G A8)))).symm
  subst e
  exact ⟨{
    a_holds := a0, d_holds := PySem.W.fnOf "holds" "holds" (defArgs s_holds) (defBody s_holds) (defScope s_holds) .none kV0 dc0 pm0 an0 cd0 ct0, F_holds := fun_mk (st := s_holds) L0 C0 K0, m_holds := PySem.W.mg_of X G A0, b_holds := (fun_mk (st := s_holds) L0 C0 K0).binds (ps := ["test", "row"]) fun _ _ _ _ _ _ us hl => match us, hl with | [_, _], _ => rfl,
    a_box := a1, d_box := PySem.W.fnOf "_law_box" "_law_box" (defArgs s_box) (defBody s_box) (defScope s_box) .none kV1 dc1 pm1 an1 cd1 ct1, F_box := fun_mk (st := s_box) L1 C1 K1, m_box := PySem.W.mg_of X G A1, b_box := (fun_mk (st := s_box) L1 C1 K1).binds (ps := ["_law_script"]) fun _ _ _ _ _ _ us hl => match us, hl with | [_], _ => rfl,
    a_pull := a2, d_pull := PySem.W.fnOf "_law_pull" "_law_pull" (defArgs s_pull) (defBody s_pull) (defScope s_pull) .none kV2 dc2 pm2 an2 cd2 ct2, F_pull := fun_mk (st := s_pull) L2 C2 K2, m_pull := PySem.W.mg_of X G A2, b_pull := (fun_mk (st := s_pull) L2 C2 K2).binds (ps := ["_law_box_here", "_law_many"]) fun _ _ _ _ _ _ us hl => match us, hl with | [_, _], _ => rfl,
    a_of := a3, d_of := PySem.W.fnOf "_law_of" "_law_of" (defArgs s_of) (defBody s_of) (defScope s_of) .none kV3 dc3 pm3 an3 cd3 ct3, F_of := fun_mk (st := s_of) L3 C3 K3, m_of := PySem.W.mg_of X G A3, b_of := (fun_mk (st := s_of) L3 C3 K3).binds (ps := ["_law_box_here", "_law_some"]) fun _ _ _ _ _ _ us hl => match us, hl with | [_, _], _ => rfl,
    a_names := a4, d_names := PySem.W.fnOf "_law_names" "_law_names" (defArgs s_names) (defBody s_names) (defScope s_names) .none kV4 dc4 pm4 an4 cd4 ct4, F_names := fun_mk (st := s_names) L4 C4 K4, m_names := PySem.W.mg_of X G A4, b_names := (fun_mk (st := s_names) L4 C4 K4).binds (ps := ["_law_box_here", "_law_many"]) fun _ _ _ _ _ _ us hl => match us, hl with | [_, _], _ => rfl,
    a_same := a5, d_same := PySem.W.fnOf "_law_same" "_law_same" (defArgs s_same) (defBody s_same) (defScope s_same) .none kV5 dc5 pm5 an5 cd5 ct5, F_same := fun_mk (st := s_same) L5 C5 K5, m_same := PySem.W.mg_of X G A5, b_same := (fun_mk (st := s_same) L5 C5 K5).binds (ps := ["_law_found", "_law_due"]) fun _ _ _ _ _ _ us hl => match us, hl with | [_, _], _ => rfl,
    a_free_test := a6, d_free_test := PySem.W.fnOf "_law_free_test" "_law_free_test" (defArgs s_free_test) (defBody s_free_test) (defScope s_free_test) .none kV6 dc6 pm6 an6 cd6 ct6, F_free_test := fun_mk (st := s_free_test) L6 C6 K6, m_free_test := PySem.W.mg_of X G A6, b_free_test := (fun_mk (st := s_free_test) L6 C6 K6).binds (ps := ["_law_box_here", "_law_words", "_law_deep"]) fun _ _ _ _ _ _ us hl => match us, hl with | [_, _, _], _ => rfl,
    a_truth := a7, d_truth := PySem.W.fnOf "_law_truth" "_law_truth" (defArgs s_truth) (defBody s_truth) (defScope s_truth) .none kV7 dc7 pm7 an7 cd7 ct7, F_truth := fun_mk (st := s_truth) L7 C7 K7, m_truth := PySem.W.mg_of X G A7, b_truth := (fun_mk (st := s_truth) L7 C7 K7).binds (ps := ["_law_item", "_law_had"]) fun _ _ _ _ _ _ us hl => match us, hl with | [_, _], _ => rfl,
    a_law := a8, d_law := PySem.W.fnOf "law" "law" (defArgs s_law) (defBody s_law) (defScope s_law) .none kV8 dc8 pm8 an8 cd8 ct8, F_law := fun_mk (st := s_law) L8 C8 K8, m_law := PySem.W.mg_of X G A8, b_law := (fun_mk (st := s_law) L8 C8 K8).binds (ps := ["_law_script"]) fun _ _ _ _ _ _ us hl => match us, hl with | [_], _ => rfl,
    z_abs := PySem.W.mg_none_of X G Z0,
    z_all := PySem.W.mg_none_of X G Z1,
    z_bool := PySem.W.mg_none_of X G Z2,
    z_dict := PySem.W.mg_none_of X G Z3,
    z_int := PySem.W.mg_none_of X G Z4,
    z_isinstance := PySem.W.mg_none_of X G Z5,
    z_len := PySem.W.mg_none_of X G Z6,
    z_list := PySem.W.mg_none_of X G Z7,
    z_min := PySem.W.mg_none_of X G Z8,
    z_range := PySem.W.mg_none_of X G Z9,
    z_str := PySem.W.mg_none_of X G Z10,
    z_tuple := PySem.W.mg_none_of X G Z11,
    z_zip := PySem.W.mg_none_of X G Z12 }, rfl, fun s v => .of_eq rfl⟩
theorem all_mk {l : PySem.W.OpenLaw} {w : World} {K : PySem.W.Frag} {mg : Str → Option Value} {fa : Addr}
    (h : ∃ T : Top K mg, T.a_law = fa ∧ ∀ (s : Shared) (v : Value), BindsTo s T.d_law ⟨[v], []⟩ [("_law_script", v)]) :
    ∃ fd : FuncData, (∀ (s : Shared) (v : Value), BindsTo s fd ⟨[v], []⟩ [("_law_script", v)]) ∧ ∀ base : Heap, K.In base → base.Ns mainGlobals mg → FnOk l.prog w K mg base CX0 9 fa fd ["_law_script"] (spLaw K) := by
  obtain ⟨T, rfl, hb⟩ := h
  exact ⟨T.d_law, hb, fun base _ _ => ok_law T⟩
theorem walk {l : PySem.W.OpenLaw} {q : Program} {loose : List Str} {XP : (Str → Option Value) → Heap → Prop} {YP : World → Heap → Prop} {d : DefRec} {K : Params → PySem.W.Frag} (hn : l.most = some 63) (hdf : d.params.defaults = [])
    (hY : ∀ (w : World) (h : Heap), YP w h → (K w.params).In h)
    (F : ∀ (w : World) (mg : Str → Option Value) (fa : Addr) (h : Heap), (K w.params).In h → h.Ns mainGlobals mg → mg d.name = some (.ref fa) →
      ∃ fd : FuncData, (∀ (s : Shared) (u : Value), BindsTo s fd ⟨[u], []⟩ [("_law_script", u)]) ∧ ∀ base : Heap, (K w.params).In base → base.Ns mainGlobals mg → FnOk l.prog w (K w.params) mg base CX0 9 fa fd ["_law_script"] (spLaw (K w.params))) :
    PySem.W.WalkO q loose XP YP l.row.toRowW d [] (fun f vs => PySem.call f vs) :=
  L2.walk_of (n := 63) (k := 9) (x := "_law_script") (CX := fun _ => CX0) (sp := fun w => spLaw (K w.params)) hn (by decide) hdf ⟨rfl, by decide, by decide⟩ hY F (fun _ _ a ns hl _ hS => ⟨a, ns, rfl, hS, hl, fun _ => rfl⟩) fun _ _ _ _ _ z => z
end Bl
open PySem PySem.W PyProof.Rows
set_option maxRecDepth 100000 in
set_option maxHeartbeats 0 in
theorem PySem.Challenge.cw_bothlots_k04_tests_hold_holds : PySem.Challenge.rw_bothlots_k04_tests_hold.Holds := by
  w_on; o_law; k_head; (case hw => w_witness2)
  k_fill
  refine Bl.walk (l := PySem.Challenge.rw_bothlots_k04_tests_hold) rfl rfl (fun w h Y => PySem.W.kIn_of Y) ?F
  case F =>
    intro w mg fa h KX G hmg
    refine Bl.all_mk ?H
    refine' Bl.top_mk KX G hmg ?A0 ?L0 ?C0 ?K0 ?A1 ?L1 ?C1 ?K1 ?A2 ?L2 ?C2 ?K2 ?A3 ?L3 ?C3 ?K3 ?A4 ?L4 ?C4 ?K4 ?A5 ?L5 ?C5 ?K5 ?A6 ?L6 ?C6 ?K6 ?A7 ?L7 ?C7 ?K7 ?A8 ?L8 ?C8 ?K8 ?Z0 ?Z1 ?Z2 ?Z3 ?Z4 ?Z5 ?Z6 ?Z7 ?Z8 ?Z9 ?Z10 ?Z11 ?Z12
    (case A0 => k_is)
    (case L0 => k_is)
    (case C0 => k_is)
    (case K0 => k_is)
    (case A1 => k_is)
    (case L1 => k_is)
    (case C1 => k_is)
    (case K1 => k_is)
    (case A2 => k_is)
    (case L2 => k_is)
    (case C2 => k_is)
    (case K2 => k_is)
    (case A3 => k_is)
    (case L3 => k_is)
    (case C3 => k_is)
    (case K3 => k_is)
    (case A4 => k_is)
    (case L4 => k_is)
    (case C4 => k_is)
    (case K4 => k_is)
    (case A5 => k_is)
    (case L5 => k_is)
    (case C5 => k_is)
    (case K5 => k_is)
    (case A6 => k_is)
    (case L6 => k_is)
    (case C6 => k_is)
    (case K6 => k_is)
    (case A7 => k_is)
    (case L7 => k_is)
    (case C7 => k_is)
    (case K7 => k_is)
    (case A8 => k_is)
    (case L8 => k_is)
    (case C8 => k_is)
    (case K8 => k_is)
    (case Z0 => k_is)
    (case Z1 => k_is)
    (case Z2 => k_is)
    (case Z3 => k_is)
    (case Z4 => k_is)
    (case Z5 => k_is)
    (case Z6 => k_is)
    (case Z7 => k_is)
    (case Z8 => k_is)
    (case Z9 => k_is)
    (case Z10 => k_is)
    (case Z11 => k_is)
    (case Z12 => k_is)

