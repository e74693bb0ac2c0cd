import PyProof.Rows.All
import Wide.All
import OpenK.AllK
import Wide.FinOn
import HandS.ForMost
import HandS.Walk
import HandS.IsInst
import HandS.Zip
import HandS.Style
import KE.GoesNew
import KE.GoesEnum
import KE.GoesMore
import PyProof.SliceStr2
import HandS.ForExc
import HandS.ExcInit
import HandS.Lambda
import HandS.TupAny
import HandS.Deep
import HandS.AnyAll
import HandS.Property
import HandS.ClsMeth
import HandS.FStr
import HandS.Conv
import KE.KxField
import KE.KIntText
import PyProof.InstEq
import HandS.TryOnly
import HandS.Text
import HandS.Star
import KE.KExcSuper
import HandS.HotCalls
import HandS.ExcField
import KE.KTryMore
import HandS.EndOwn
import KE.KDflt
import HandS.Iter
import KE.SortKeyHeap
import KE.GoesEnumKw
import HandS.MakeKwOnly
import HandS.TupLe
import KE.KUnpackStar
import KE.KOpsOwn
import PySem.Challenge.RW_relitgoals_k05_goals_hold
set_option Elab.async false
set_option linter.all false
set_option maxRecDepth 100000
set_option maxHeartbeats 4500000
/-! my own base: heaps, the bag of draws -/
namespace Rg
open PySem PySem.Spec PyProof.Rows L2
/-- all but B as it was -/
def SameB (B : Addr) (H H' : Hp) : Prop := ∀ b o, b ≠ B → H b = some o → H' b = some o
theorem SameB.refl (B : Addr) (H : Hp) : SameB B H H := fun _ _ _ h => h
theorem SameB.trans {B : Addr} {H H1 H2 : Hp} (a : SameB B H H1) (b : SameB B H1 H2) : SameB B H H2 := fun c o n h => b c o n (a c o n h)
theorem Same.toB {B : Addr} {H H' : Hp} (e : Same H H') : SameB B H H' := fun b o _ h => e b o h
theorem SameB.upd {B : Addr} {H H' : Hp} {o : HO} (e : SameB B H H') : SameB B H (upd H' B o) := fun b u n h => by rw [upd_ne n]; exact e b u n h
theorem same_new {H : Hp} {p : Addr} {o : HO} (h : H p = none) : Same H (upd H p o) := fun b x e => by rw [upd_ne (ne_of_none e h)]; exact e
theorem SqL.ofB {K : PySem.W.Frag} {B : Addr} {H H' : Hp} {a : Addr} {xs : List V} (e : SameB B H H') (n : a ≠ B) (h : SqL K H a xs) : SqL K H' a xs := by
  obtain (plain | ⟨u, fz⟩) | inK := h
  · exact .inl (.inl (e a _ n plain))
  · exact .inl (.inr ⟨u, e a _ n fz⟩)
  · exact .inr inK
theorem SqT.ofS {K : PySem.W.Frag} {H H' : Hp} {a : Addr} {xs : List V} (e : Same H H') (h : SqT K H a xs) : SqT K H' a xs := by
  obtain (plain | ⟨u, fz⟩) | inK := h
  · exact .inl (.inl (e a _ plain))
  · exact .inl (.inr ⟨u, e a _ fz⟩)
  · exact .inr inK
/-- the bag: the script's copy, how many are taken, the great cell's rest, the mixed number -/
def Bag (H : Hp) (B L : Addr) : Prop := ∃ (ns : List Int) (i d s : Int), H B = some (.lst [.ref L, .int i, .int d, .int s]) ∧ H L = some (.lst (ns.map V.int)) ∧ L ≠ B ∧ 0 ≤ i ∧ 0 ≤ d ∧ 0 ≤ s ∧ s < 2147483629
theorem Bag.same {H H' : Hp} {B L : Addr} (h : Bag H B L) (e : Same H H') : Bag H' B L := by
  obtain ⟨ns, i, d, s, h1, h2, r⟩ := h
  exact ⟨ns, i, d, s, e _ _ h1, e _ _ h2, r⟩
theorem Bag.neB {H : Hp} {B L D : Addr} (h : Bag H B L) (n : H D = none) : D ≠ B := by
  obtain ⟨ns, i, d, s, h1, h2, r⟩ := h
  exact (ne_of_none h1 n).symm
theorem Bag.neL {H : Hp} {B L D : Addr} (h : Bag H B L) (n : H D = none) : D ≠ L := by
  obtain ⟨ns, i, d, s, h1, h2, r⟩ := h
  exact (ne_of_none h2 n).symm
theorem Bag.upd {H : Hp} {B L D : Addr} {o : HO} (h : Bag H B L) (nB : D ≠ B) (nL : D ≠ L) : Bag (upd H D o) B L := by
  obtain ⟨ns, i, d, s, h1, h2, r⟩ := h
  exact ⟨ns, i, d, s, by rw [upd_ne nB.symm]; exact h1, by rw [upd_ne nL.symm]; exact h2, r⟩
theorem fmod_lo {a b : Int} (h : 0 < b) : 0 ≤ a.fmod b := Int.fmod_nonneg_of_pos a h
theorem fmod_hi {a b : Int} (h : 0 < b) : a.fmod b < b := Int.fmod_lt_of_pos a h
theorem fdiv_lo {a b : Int} (h : 0 < b) (ha : 0 ≤ a) : 0 ≤ a.fdiv b := Int.fdiv_nonneg ha (by omega)
end Rg

set_option Elab.async false
set_option linter.all false
set_option maxRecDepth 100000
set_option maxHeartbeats 4500000
/-! rules of my own: zip of two texts, a call by keywords alone, a text turned round -/
namespace Rg
open PySem PySem.Spec PyProof.Rows L2
def ItzS (x y : Str) : It :=
  ⟨fun i _ => i < min x.cps.size y.cps.size,
   fun i H v H' => ∃ T c d, v = .ref T ∧ H T = none ∧ H' = upd H T (.tup [.str ⟨#[c]⟩, .str ⟨#[d]⟩]) ∧ x.cps[i]? = some c ∧ y.cps[i]? = some d,
   fun i _ => min x.cps.size y.cps.size ≤ i⟩
def ZipSt (z TI TO i1 i2 : Addr) (x y : Str) (t u : Tok) (i : Nat) (h : Heap) : Prop :=
  i ≤ min x.cps.size y.cps.size ∧ IsZip h z TI TO .none ∧ IsTupOf2 h TI (.ref i1) (.ref i2) ∧ (∃ a1 a2, IsTupOf2 h TO a1 a2) ∧ h.IsStrIter i1 (strIterType x) x t i ∧ h.IsStrIter i2 (strIterType y) y u i
theorem zs_old {z TI TO i1 i2 : Addr} {x y : Str} {t u : Tok} {i : Nat} {h : Heap} (st : ZipSt z TI TO i1 i2 x y t u i h) {b : Addr} (hb : b ∈ z :: TI :: TO :: ([i1] ++ [i2])) :
    ∃ o, h.get? b = some o ∧ ∀ v, o.data ≠ .cell v := by
  obtain ⟨_, hz, hTI, ⟨a1, a2, hTO⟩, ⟨o1, e1, _, d1⟩, ⟨o2, e2, _, d2⟩⟩ := st
  have hb' : b = z ∨ b = TI ∨ b = TO ∨ b = i1 ∨ b = i2 := by simpa using hb
  obtain rfl | rfl | rfl | rfl | rfl := hb'
  · exact ⟨_, hz, fun v q => nomatch q⟩
  · exact ⟨_, hTI, fun v q => nomatch q⟩
  · exact ⟨_, hTO, fun v q => nomatch q⟩
  · exact ⟨o1, e1, fun v q => by rw [d1] at q; cases q⟩
  · exact ⟨o2, e2, fun v q => by rw [d2] at q; cases q⟩
theorem turn_zipS {P : Program} {w : World} {K : PySem.W.Frag} {elts : List Expr} {kk : Nat} {tpos : Pos} {z TI TO i1 i2 : Addr} (x y : Str) (t u : Tok) (S : ZipSep2 z TI TO i1 i2 [i1] [i2]) :
    Turn P w K (.Tuple elts kk tpos) (ItzS x y) (z :: TI :: TO :: ([i1] ++ [i2])) z (ZipSt z TI TO i1 i2 x y t u) := by
  refine ⟨List.mem_cons_self, fun i h st b hb => zs_old st hb, ?_, ?_, ?_, ?_⟩
  · intro i h h' st k
    obtain ⟨hi, hz, hTI, ⟨a1, a2, hTO⟩, ⟨o1, e1, r1⟩, ⟨o2, e2, r2⟩⟩ := st
    exact ⟨hi, k z (by simp) _ hz, k TI (by simp) _ hTI, ⟨a1, a2, k TO (by simp) _ hTO⟩, ⟨o1, k i1 (by simp) _ e1, r1⟩, ⟨o2, k i2 (by simp) _ e2, r2⟩⟩
  · intro X hP hw hK hc i pins s σ H E I hf st hg
    subst hP hw hK
    have hh : X.A.in1.handled = none := I.ok.hd hc
    have W := GoesN.zip2 (elts := elts) (x1 := kk) (pos := tpos) S (Draws.text (prog := X.prog) (w := X.w) (A := X.A.in1) hh i1 x t) (Draws.text hh i2 y u)
    refine W.goes i s _ E hg st.2 fun v h' tk hY st' keep htk => ?_
    obtain ⟨T, vx, vy, rfl, hT, ⟨c, tc, hcx, rfl⟩, ⟨d, td, hdy, rfl⟩, hTup⟩ := hY
    have new : ObjOk X.prog X.w (upd H T (.tup [.str ⟨#[c]⟩, .str ⟨#[d]⟩])) h' T (.tup [.str ⟨#[c]⟩, .str ⟨#[d]⟩]) :=
      ⟨(show 2 ≤ sizeLine by decide), [.str ⟨#[c]⟩ tc, .str ⟨#[d]⟩ td], .cons ⟨tc, rfl⟩ (.cons ⟨td, rfl⟩ .nil), hTup⟩
    have sub : ∀ b, b ∈ [z, TO, i1, i2] → b ∈ z :: TI :: TO :: ([i1] ++ [i2]) := by
      intro b hb
      simp at hb ⊢
      rcases hb with e | e | e | e <;> simp [e]
    have I1 := I.turnedNew (t' := tk) (ch := [z, TO, i1, i2]) keep (fun b hb => hf b (sub b hb)) hT new
    refine ⟨.ref T, _, I1, rfl, ⟨T, c, d, rfl, I.hok.fresh hT, rfl, hcx, hdy⟩, ⟨hg, st'⟩, fun b hb => ?_⟩
    obtain ⟨o, ho, _⟩ := zs_old st hb
    rw [upd_ne (Nat.ne_of_lt (Nat.lt_of_lt_of_le (Heap.lt_size ho) hT))]
    exact (hf b hb).1
  · intro X hP hw hK hc i pins s σ H E I hf st hg
    subst hP hw hK
    have hh : X.A.in1.handled = none := I.ok.hd hc
    have W := GoesN.zip2 (elts := elts) (x1 := kk) (pos := tpos) S (Draws.text (prog := X.prog) (w := X.w) (A := X.A.in1) hh i1 x t) (Draws.text hh i2 y u)
    have ei : i = min x.cps.size y.cps.size := Nat.le_antisymm st.1 hg
    subst ei
    have sub : ∀ b, b ∈ [z, TO, i1, i2] → b ∈ z :: TI :: TO :: ([i1] ++ [i2]) := by
      intro b hb
      simp at hb ⊢
      rcases hb with e | e | e | e <;> simp [e]
    exact W.stops s _ E st.2 fun h' tk keep htk => I.turnedL (t' := tk) (ch := [z, TO, i1, i2]) keep (fun b hb => hf b (sub b hb))
  · intro A i s Q E st h
    exact wpAny_pyIter_zip st.2.1 h
def iZipS (ta : TA) : TI := fun σ H R => ta σ H fun vs H1 => ∃ x y, vs = [.str x, .str y] ∧ R (ItzS x y) H1
theorem pi_zipS {X : Cx} {e e2 : Expr} {ta : TA} {p pos tpos : Pos} {elts : List Expr} {kk : Nat} (hg : Gl X "zip") (hm : X.mg "zip" = none) (ha : PA X [e, e2] ta)
    (two : starEach [e, e2] X.env = (false, eval e X.env) :: starEach [e2] X.env := by rfl)
    (bare : (backTo pos (starEach [e2] X.env)).any (fun a => a.1) = false := by rfl) :
    PI X (.Tuple elts kk tpos) (.Call (.Name "zip" p) [e, e2] [] pos) (iZipS ta) := by
  refine ⟨fun pins s σ H R I h => Call_ (ld_blt I hg hm PyProof.Rows.boot_zip (PyProof.Rows.callWith_type1 (thn (ha.run pos pins s σ H _ I h) ?_) two bare))⟩
  intro us s1 h1
  obtain ⟨vs, H1, I1, r1, x, y, rfl, q⟩ := h1
  cases r1 with
  | cons ra rr =>
    cases rr with
    | cons rb rr =>
      cases rr
      obtain ⟨t, rfl⟩ := ra
      obtain ⟨u, rfl⟩ := rb
      refine zip_begins2 (begins_text x t) (begins_text y u) trivial trivial ?_
      intro h' hz hTI hTO g1 g2 hsz hk
      refine wpAny_pyIter_zip hz ?_
      have J : Inv X pins σ H1 { s1 with heap := h' } := I1.kept (t' := _) hk
      have S := zip_sep2 (N := s1.heap.objs.size) (fp1 := []) (fp2 := []) (fun _ z => nomatch z) (fun _ z => nomatch z)
      refine ⟨_, _, _, ItzS x y, H1, rfl, J, turn_zipS x y t u S, ⟨Nat.zero_le _, hz, hTI, ⟨_, _, hTO⟩, ⟨_, g1, rfl, rfl⟩, ⟨_, g2, rfl, rfl⟩⟩, fun b hb => ?_, q⟩
      have new : s1.heap.objs.size ≤ b := by
        have hb' : b = s1.heap.objs.size + 4 ∨ b = s1.heap.objs.size + 2 ∨ b = s1.heap.objs.size + 3 ∨ b = s1.heap.objs.size ∨ b = s1.heap.objs.size + 1 := by simpa using hb
        rcases hb' with e | e | e | e | e <;> rw [e] <;> first | exact Nat.le_refl _ | exact Nat.le_add_right _ _
      exact I1.fpOk new (I1.hok.fresh new)
theorem walk_zipS {x y : Str} : Walk (ItzS x y) (min x.cps.size y.cps.size) (fun _ => True) (YPair (fun i => x.cps[i]?.map fun c => .str ⟨#[c]⟩) (fun i => y.cps[i]?.map fun c => .str ⟨#[c]⟩)) := by
  refine ⟨fun i H hi _ => hi, fun H _ => Nat.le_refl _, fun i H v H' hi _ yy => ?_⟩
  obtain ⟨T, c, d, h1, h2, h3, h4, h5⟩ := yy
  exact ⟨T, .str ⟨#[c]⟩, .str ⟨#[d]⟩, h1, h2, h3, by show Option.map _ x.cps[i]? = _; rw [h4]; rfl, by show Option.map _ y.cps[i]? = _; rw [h5]; rfl⟩
/-- a def called by keywords alone -/
theorem pe_callK0 {X : Cx} {CX : CXT} {k : Nat} {f : Addr} {fd : FuncData} {ps ks : List Str} {sp : Sp} {x : Str} {p pos : Pos} {E : XK} {kws : List Keyword} {tk : TA} {g : List Value → List Value → List Value} {gV : List V → List V → List V}
    (F : FnOk X.prog X.w X.K X.mg X.base CX k f fd ps sp) (hr : Room k X.A) (hg : Gl X x) (hm : X.mg x = some (.ref f)) (hk : PySem.W.keepIn X.K (.ref f) = true)
    (hb : KBinds X.K fd ps ks g gV) (hx : Passes CX X E) (hkw : PK X kws tk)
    (hall : (backToKw pos (keywordEach kws X.env)).all (·.1.isSome) = true := by rfl)
    (hks : (backToKw pos (keywordEach kws X.env)).filterMap (·.1) = ks := by rfl)
    (hdb : (x == ("__debug__" : Str)) = false := by decide)
    (bare : ((backTo pos (starEach [] X.env)).any (fun a => a.1) || (backToKw pos (keywordEach kws X.env)).any (fun a => a.1.isNone)) = false := by rfl) :
    PE X (.Call (.Name x p) [] kws pos) (tCallK sp gV E tNil tk) := by
  constructor
  intro pins s σ H Q I h
  refine wpAny_Call_Name_kw (ld_glob I hg hm (PySem.W.callWith_KW0 (h₀ := X.base) I.ok.mod.kin hk hall ?_ bare) hdb)
  refine thn (hkw.run pos pins s σ H _ I h) ?_
  intro ws s2 hq
  obtain ⟨zs, H2, I2, rz, q2⟩ := hq
  refine ⟨I2.kIn, ?_⟩
  rw [hks]
  exact run_fnk (us := []) (vs := []) F hr hb hx I2 .nil rz q2
/-- a text turned round -/
def revS (z : Str) : Str := ⟨((Builtin.Str.strSliceIndices none none (-1) z.length).filterMap (z.cps[·]?)).toArray⟩
theorem revS_len (z : Str) : (revS z).length ≤ z.length := by
  show (List.filterMap _ _).toArray.size ≤ z.length
  rw [List.size_toArray]
  exact Nat.le_trans (List.length_filterMap_le _ _) (sliceIndicesBy_le none none (-1) (by decide) z.length)
def tRevS (te : TE) : TE := fun σ H Q => te σ H fun x H1 => ∃ z : Str, x = .str z ∧ z.length ≤ sizeLine ∧ Q (.str (revS z)) H1
theorem pe_revS {X : Cx} {e : Expr} {te : TE} {k : Nat} {p1 p2 p3 pos : Pos} (he : PE X e te) :
    PE X (.Subscript e (.Slice none none (some (.UnaryOp .USub (.Constant (.int 1) k p1) p2)) p3) pos) (tRevS te) := by
  constructor
  intro pins s σ H Q I h
  refine Subscript_ (thn (he.run pins s σ H _ I h) ?_)
  intro v s1 h1
  obtain ⟨x, H1, I1, r1, z, rfl, hz, q⟩ := h1
  obtain ⟨t, rfl⟩ := r1
  have minus : PO X (some (.UnaryOp .USub (.Constant (.int 1) k p1) p2)) (tPart (tUn (rU fun j => .int (-j)) (tC (.int 1)))) := po_some (pe_un un_neg pe_int)
  refine wpAny_Slice (thn (po_none.run pins s1 σ H1 (fun o H2 => o = none ∧ H2 = H1) I1 ⟨rfl, rfl⟩) ?_)
  intro vl s2 h2
  obtain ⟨_, H2, I2, pl, rfl, rfl⟩ := h2
  refine thn (po_none.run pins s2 σ H2 (fun o H3 => o = none ∧ H3 = H2) I2 ⟨rfl, rfl⟩) ?_
  intro vu s3 h3
  obtain ⟨_, H3, I3, pu, rfl, rfl⟩ := h3
  refine thn (minus.run pins s3 σ H3 (fun o H4 => o = some (-1) ∧ H4 = H3) I3 ⟨1, rfl, -1, rfl, rfl, rfl⟩) ?_
  intro vs s4 h4
  obtain ⟨_, H4, I4, ps, rfl, rfl⟩ := h4
  obtain ⟨l, rfl, el⟩ := IsPart.raw pl
  obtain ⟨u, rfl, eu⟩ := IsPart.raw pu
  obtain ⟨st, rfl, es⟩ := IsPart.raw ps
  refine tail_any (ops := [.str z t, .ref s4.heap.objs.size]) (typeIs_str _ z t) (F.slot_str_getitem.lookup) ?_ (by with_unfolding_all rfl)
  refine wpAny_getItem_str_slice (l := l) (u := u) (st := st) ⟨_, Heap.get?_push_size _ rfl, rfl, rfl⟩ ?_ ?_
  · rw [es]
    decide
  · have em : sliceMade z t l u st = .str (revS z) := by
      unfold sliceMade slicePicked
      rw [es, el, eu, if_neg (by intro c; simp at c)]
      rfl
    rw [em]
    exact ⟨Nat.le_trans (revS_len z) hz, .str _, H4, (I4.kept (t' := s4.toks) fun b ob c => Heap.get?_push_of_some _ c).tok _, ⟨_, rfl⟩, q⟩
end Rg

set_option Elab.async false
set_option linter.all false
set_option maxRecDepth 100000
set_option maxHeartbeats 4500000
/-! data, what a def may do with data, and when a value is of some data -/
namespace Rg
open PySem PySem.Spec PyProof.Rows L2
def big : Nat := 100000
theorem big_line : big ≤ sizeLine := by decide +kernel
theorem big_lt : big < sizeLine := by decide +kernel
/-- data: what a value is, without its addresses -/
inductive D where
  | non | bl (b : Bool) | int (i : Int) | str (l : List Nat) | lst (xs : List D) | tup (xs : List D)
  | ins (c : Str) (fs : List (Str × D)) | bag | ty (n : String) | cls (c : Str) | lam (i : Nat) | own (xs : List D)
/-- an error: its class, its fields -/
structure ExD where
  cls : Str
  fs : List (Str × D)
/-- what a piece of code may do: what must hold so that each end has what is wanted -/
structure W (α : Type) where
  wp : (α → Prop) → (ExD → Prop) → Prop
  mono : ∀ {Q Q' : α → Prop} {E E' : ExD → Prop}, (∀ a, Q a → Q' a) → (∀ x, E x → E' x) → wp Q E → wp Q' E'
namespace W
variable {α β γ : Type}
protected def pure (a : α) : W α := ⟨fun Q _ => Q a, fun h _ q => h a q⟩
protected def bind (m : W α) (f : α → W β) : W β := ⟨fun Q E => m.wp (fun a => (f a).wp Q E) E, fun h e q => m.mono (fun a => (f a).mono h e) e q⟩
def fail : W α := ⟨fun _ _ => False, fun _ _ q => q⟩
def raise (x : ExD) : W α := ⟨fun _ E => E x, fun _ e q => e x q⟩
/-- p is wanted here -/
def need (p : Prop) : W Unit := ⟨fun Q _ => p ∧ Q (), fun h _ q => ⟨q.1, h () q.2⟩⟩
/-- any one with p -/
def any (p : α → Prop) : W α := ⟨fun Q _ => ∀ a, p a → Q a, fun h _ q a ha => h a (q a ha)⟩
/-- no error leaves -/
def noX (m : W α) : W α := ⟨fun Q _ => m.wp Q fun _ => False, fun h _ q => m.mono h (fun _ z => z.elim) q⟩
theorem ext {m n : W α} (h : ∀ Q E, m.wp Q E ↔ n.wp Q E) : m = n := by
  obtain ⟨a, ha⟩ := m
  obtain ⟨b, hb⟩ := n
  have e : a = b := funext fun Q => funext fun E => propext (h Q E)
  subst e
  rfl
theorem pure_bind (a : α) (f : α → W β) : W.bind (W.pure a) f = f a := rfl
theorem bind_pure (m : W α) : W.bind m W.pure = m := rfl
theorem bind_assoc (m : W α) (f : α → W β) (g : β → W γ) : W.bind (W.bind m f) g = W.bind m fun a => W.bind (f a) g := rfl
theorem fail_bind (f : α → W β) : W.bind W.fail f = W.fail := rfl
theorem raise_bind (x : ExD) (f : α → W β) : W.bind (W.raise x) f = W.raise x := rfl
theorem noX_pure (a : α) : W.noX (W.pure a) = W.pure a := rfl
theorem need_true {p : Prop} (h : p) (f : Unit → W β) : W.bind (W.need p) f = f () := ext fun Q E => ⟨fun q => q.2, fun q => ⟨h, q⟩⟩
end W

/-- a text by its signs -/
def sOf (l : List Nat) : Str := ⟨l.toArray⟩
theorem sOf_cps (x : Str) : sOf x.cps.toList = x := rfl
theorem cps_sOf (l : List Nat) : (sOf l).cps.toList = l := rfl
theorem len_sOf (l : List Nat) : (sOf l).length = l.length := by
  show l.toArray.size = _
  simp
theorem sOf_inj {a b : List Nat} (h : sOf a = sOf b) : a = b := by
  have := congrArg (fun s : Str => s.cps.toList) h
  exact this
theorem sOf_app (a b : List Nat) : sOf a ++ sOf b = sOf (a ++ b) := by
  show (⟨a.toArray ++ b.toArray⟩ : Str) = ⟨(a ++ b).toArray⟩
  simp
abbrev Ev := List (Option D)
/-- the lambdas of a def by number: what the view shows of the one at f whose code is at c and whose defaults are at t; the name of their codes; which have a default -/
structure Lms where
  ho : Nat → Addr → Addr → Addr → HO
  q : Str
  du : Nat → Bool
/-- none -/
def lm0 : Lms := ⟨fun _ _ _ _ => .tbl #[], "", fun _ => false⟩
/-- a tuple of one, whatever it is: a lambda's defaults -/
def DefO (t : Addr) : HO := .ext fun h => ∃ (o : Obj) (u : Value) (n : Nat), h.get? t = some o ∧ o.data = .seq #[u] n
/-- told by its own words -/
def isX : HO → Bool
  | .ext _ => true
  | _ => false
/-- the bag; the lambdas -/
abbrev Bl := Option (Addr × Addr) × Lms
/-- what may change though it is not shown: the bag of draws, where there is one; tables of code objects (and what lambdas there are) -/
structure Bg where
  bag : Option (Addr × Addr)
  tb : List (Addr × Str)
  lm : Lms
/-- classes by name; what may change -/
structure Zk where
  cm : Str → Option Addr
  bg : Bg
/-- none of what may change -/
def Zk.out (z : Zk) (a : Addr) : Prop := (∀ B L, z.bg.bag = some (B, L) → a ≠ B) ∧ ∀ p ∈ z.bg.tb, a ≠ p.1
/-- a tuple that is written at the top -/
def SqTK (K : PySem.W.Frag) (a : Addr) (xs : List V) : Prop := ∃ (o : Obj) (its : Array Value) (n : Nat), K.lookup a = some o ∧ o.cls = .type "tuple" ∧ o.data = .seq its n ∧ its.size ≤ sizeLine ∧ Vals xs its.toList
/-- a tuple that is shown, or written at the top -/
def SqU (K : PySem.W.Frag) (G : Hp) (a : Addr) (xs : List V) : Prop := G a = some (.tup xs) ∨ SqTK K a xs
theorem SqU.to {K : PySem.W.Frag} {G H : Hp} {a : Addr} {xs : List V} (h : SqU K G a xs) (e : Same G H) : SqT K H a xs := by
  rcases h with h | h
  · exact .inl (.inl (e _ _ h))
  · exact .inr h
theorem SqU.same {K : PySem.W.Frag} {G H : Hp} {a : Addr} {xs : List V} (e : Same G H) (h : SqU K G a xs) : SqU K H a xs := by
  rcases h with h | h
  · exact .inl (e _ _ h)
  · exact .inr h
mutual
/-- the value v is of the data d, as G shows -/
inductive Den (K : PySem.W.Frag) (z : Zk) (G : Hp) : V → D → Prop
  | non : Den K z G .non .non
  | bl (b : Bool) : Den K z G (.bl b) (.bl b)
  | int (i : Int) : Den K z G (.int i) (.int i)
  | str (l : List Nat) : l.length ≤ big → (∀ c ∈ l, c < 1114112) → Den K z G (.str (sOf l)) (.str l)
  | lst {a : Addr} {xs : List V} {ds : List D} : G a = some (.lst xs) → Dens K z G xs ds → ds.length ≤ big → Den K z G (.ref a) (.lst ds)
  | tup {a : Addr} {xs : List V} {ds : List D} : SqU K G a xs → Dens K z G xs ds → ds.length ≤ big → Den K z G (.ref a) (.tup ds)
  | ins {a C dx : Addr} {c : Str} {fs : List (Str × V)} {gs : List (Str × D)} : z.cm c = some C → G a = some (.ins C dx fs) → DenF K z G fs gs → Den K z G (.ref a) (.ins c gs)
  | bag {B L : Addr} : z.bg.bag = some (B, L) → Den K z G (.ref B) .bag
  | ty (n : String) : Den K z G (.ty n) (.ty n)
  | cls {C : Addr} {c : Str} : z.cm c = some C → Den K z G (.ref C) (.cls c)
  | lam {f c t : Addr} {i : Nat} : G f = some (z.bg.lm.ho i f c t) → G c = some (LamX.CodeO c z.bg.lm.q) → (z.bg.lm.du i = true → G t = some (DefO t)) → Den K z G (.ref f) (.lam i)
inductive Dens (K : PySem.W.Frag) (z : Zk) (G : Hp) : List V → List D → Prop
  | nil : Dens K z G [] []
  | cons {v : V} {vs : List V} {d : D} {ds : List D} : Den K z G v d → Dens K z G vs ds → Dens K z G (v :: vs) (d :: ds)
inductive DenF (K : PySem.W.Frag) (z : Zk) (G : Hp) : List (Str × V) → List (Str × D) → Prop
  | nil : DenF K z G [] []
  | cons {f : Str} {v : V} {vs : List (Str × V)} {d : D} {ds : List (Str × D)} : Den K z G v d → DenF K z G vs ds → DenF K z G ((f, v) :: vs) ((f, d) :: ds)
end
section
variable {K : PySem.W.Frag} {z : Zk} {G G' H H' : Hp}
mutual
theorem Den.same (e : Same G G') {v : V} {d : D} (h : Den K z G v d) : Den K z G' v d := by
  cases h with
  | non => exact .non
  | bl b => exact .bl b
  | int i => exact .int i
  | str x l m => exact .str x l m
  | lst q r l => exact .lst (e _ _ q) (Dens.same e r) l
  | tup q r l => exact .tup (SqU.same e q) (Dens.same e r) l
  | ins c g r => exact .ins c (e _ _ g) (DenF.same e r)
  | bag q => exact .bag q
  | ty n => exact .ty n
  | cls q => exact .cls q
  | lam q r d => exact .lam (e _ _ q) (e _ _ r) fun x => e _ _ (d x)
theorem Dens.same (e : Same G G') {vs : List V} {ds : List D} (h : Dens K z G vs ds) : Dens K z G' vs ds := by
  cases h with
  | nil => exact .nil
  | cons q r => exact .cons (Den.same e q) (Dens.same e r)
theorem DenF.same (e : Same G G') {vs : List (Str × V)} {ds : List (Str × D)} (h : DenF K z G vs ds) : DenF K z G' vs ds := by
  cases h with
  | nil => exact .nil
  | cons q r => exact .cons (Den.same e q) (DenF.same e r)
end
theorem Dens.len : ∀ {vs : List V} {ds : List D}, Dens K z G vs ds → vs.length = ds.length
  | _, _, .nil => rfl
  | _, _, .cons _ r => congrArg (· + 1) r.len
theorem Dens.at : ∀ {vs : List V} {ds : List D} {i : Nat} {v : V}, Dens K z G vs ds → vs[i]? = some v → ∃ d, ds[i]? = some d ∧ Den K z G v d
  | _, _, _, _, .nil, h => by simp at h
  | _, _, 0, _, .cons q _, h => by
    cases h
    exact ⟨_, rfl, q⟩
  | _, _, i + 1, _, .cons _ r, h => Dens.at (i := i) r h
theorem Dens.at' : ∀ {vs : List V} {ds : List D} {i : Nat} {d : D}, Dens K z G vs ds → ds[i]? = some d → ∃ v, vs[i]? = some v ∧ Den K z G v d
  | _, _, _, _, .nil, h => by simp at h
  | _, _, 0, _, .cons q _, h => by
    cases h
    exact ⟨_, rfl, q⟩
  | _, _, i + 1, _, .cons _ r, h => Dens.at' (i := i) r h
theorem Dens.app : ∀ {vs ws : List V} {ds es : List D}, Dens K z G vs ds → Dens K z G ws es → Dens K z G (vs ++ ws) (ds ++ es)
  | _, _, _, _, .nil, s => s
  | _, _, _, _, .cons q r, s => .cons q (Dens.app r s)
theorem Dens.one {v : V} {d : D} (h : Den K z G v d) : Dens K z G [v] [d] := .cons h .nil
theorem Dens.take : ∀ {vs : List V} {ds : List D} (n : Nat), Dens K z G vs ds → Dens K z G (vs.take n) (ds.take n)
  | _, _, 0, _ => .nil
  | _, _, _ + 1, .nil => .nil
  | _, _, n + 1, .cons q r => .cons q (Dens.take n r)
theorem Dens.drop : ∀ {vs : List V} {ds : List D} (n : Nat), Dens K z G vs ds → Dens K z G (vs.drop n) (ds.drop n)
  | _, _, 0, r => r
  | _, _, _ + 1, .nil => .nil
  | _, _, n + 1, .cons _ r => Dens.drop n r
theorem DenF.look : ∀ {fs : List (Str × V)} {gs : List (Str × D)} {f : Str} {d : D}, DenF K z G fs gs → gs.lookup f = some d → ∃ v, fs.lookup f = some v ∧ Den K z G v d
  | _, _, _, _, .nil, h => by simp at h
  | _, _, f, d, .cons (f := f') q r, h => by
    rw [List.lookup_cons] at h ⊢
    cases e : f == f' with
    | true =>
      rw [e] at h
      cases h
      exact ⟨_, rfl, q⟩
    | false =>
      rw [e] at h
      exact DenF.look r h
/-- what G shows stands in H; the bag is there and not shown -/
structure Vw (z : Zk) (G H : Hp) : Prop where
  sub : Same G H
  bag : ∀ B L, z.bg.bag = some (B, L) → Bag H B L ∧ G B = none ∧ G L = none
  tab : LamX.Tabs z.bg.tb H ∧ ∀ p ∈ z.bg.tb, G p.1 = none
/-- from (G, H) to (G', H'): all that stood stands, but the bag; what was not shown is not shown -/
structure Grow (z : Zk) (G H G' H' : Hp) : Prop where
  fr : ∀ a o, z.out a → H a = some o → H' a = some o
  gg : Same G G'
  ap : ∀ a o, H a = some o → (z.bg.tb = [] ∨ isX o = false) → G a = none → G' a = none
  vw : Vw z G' H'
theorem Vw.neT {p : Addr} (v : Vw z G H) (np : H p = none) {q : Addr × Str} (hq : q ∈ z.bg.tb) : p ≠ q.1 := fun e => by
  obtain ⟨ps, h, _⟩ := v.tab.1 q hq
  rw [← e, np] at h
  cases h
theorem Grow.refl (v : Vw z G H) : Grow z G H G H := ⟨fun _ _ _ h => h, Same.refl _, fun _ _ _ _ h => h, v⟩
theorem Bag.at {B L : Addr} (h : Bag H B L) : ∃ o, H B = some o ∧ isX o = false := by
  obtain ⟨ns, i, d, s, h1, _⟩ := h
  exact ⟨_, h1, rfl⟩
theorem Grow.there {a : Addr} {o : HO} (g : Grow z G H G' H') (h : H a = some o) : ∃ o', H' a = some o' := by
  by_cases e : ∀ B L, z.bg.bag = some (B, L) → a ≠ B
  · by_cases e2 : ∀ p ∈ z.bg.tb, a ≠ p.1
    · exact ⟨o, g.fr a o ⟨e, e2⟩ h⟩
    · simp only [Classical.not_forall, Decidable.not_not] at e2
      obtain ⟨p, hp, rfl⟩ := e2
      obtain ⟨ps, h1, _⟩ := g.vw.tab.1 p hp
      exact ⟨_, h1⟩
  · simp only [Classical.not_forall, Decidable.not_not] at e
    obtain ⟨B, L, q, rfl⟩ := e
    obtain ⟨o2, h2, _⟩ := (g.vw.bag _ _ q).1.at
    exact ⟨o2, h2⟩
theorem Grow.stays {a : Addr} {o : HO} (g : Grow z G H G' H') (h : H a = some o) (x : z.bg.tb = [] ∨ isX o = false) : ∃ o', H' a = some o' ∧ (z.bg.tb = [] ∨ isX o' = false) := by
  by_cases e : ∀ B L, z.bg.bag = some (B, L) → a ≠ B
  · by_cases e2 : ∀ p ∈ z.bg.tb, a ≠ p.1
    · exact ⟨o, g.fr a o ⟨e, e2⟩ h, x⟩
    · simp only [Classical.not_forall, Decidable.not_not] at e2
      obtain ⟨p, hp, rfl⟩ := e2
      obtain ⟨ps, h1, _⟩ := g.vw.tab.1 p hp
      exact ⟨_, h1, .inr rfl⟩
  · simp only [Classical.not_forall, Decidable.not_not] at e
    obtain ⟨B, L, q, rfl⟩ := e
    obtain ⟨o2, h2, x2⟩ := (g.vw.bag _ _ q).1.at
    exact ⟨o2, h2, .inr x2⟩
theorem Grow.trans {G1 H1 G2 H2 : Hp} (a : Grow z G H G1 H1) (b : Grow z G1 H1 G2 H2) : Grow z G H G2 H2 :=
  ⟨fun x o n h => b.fr x o n (a.fr x o n h), a.gg.trans b.gg, fun x o h nx n => by
    obtain ⟨o', h', x'⟩ := a.stays h nx
    exact b.ap x o' h' x' (a.ap x o h nx n), b.vw⟩
/-- a new object that is shown -/
theorem Grow.new {p : Addr} {o : HO} (v : Vw z G H) (np : H p = none) : Grow z G H (upd G p o) (upd H p o) := by
  have gp : G p = none := v.sub.free np
  refine ⟨fun a u _ h => ?_, same_new gp, fun a u h _ g => ?_, ⟨fun a u h => ?_, fun B L q => ?_, ⟨v.tab.1.ext (same_new np), fun q hq => by rw [upd_ne (v.neT np hq).symm]; exact v.tab.2 q hq⟩⟩⟩
  · rw [upd_ne (ne_of_none h np)]
    exact h
  · rw [upd_ne (ne_of_none h np)]
    exact g
  · by_cases e : a = p
    · subst e
      rw [upd_same] at h ⊢
      exact h
    · rw [upd_ne e] at h ⊢
      exact v.sub _ _ h
  · obtain ⟨h1, h2, h3⟩ := v.bag B L q
    refine ⟨h1.same (same_new np), ?_, ?_⟩
    · rw [upd_ne (h1.neB np).symm]
      exact h2
    · rw [upd_ne (h1.neL np).symm]
      exact h3
/-- a new object that is not shown -/
theorem Grow.hid {p : Addr} {o : HO} (v : Vw z G H) (np : H p = none) : Grow z G H G (upd H p o) :=
  ⟨fun a u _ h => by rw [upd_ne (ne_of_none h np)]; exact h, Same.refl _, fun _ _ _ _ g => g, ⟨v.sub.trans (same_new np), fun B L q => by
    obtain ⟨h1, h2, h3⟩ := v.bag B L q
    exact ⟨h1.same (same_new np), h2, h3⟩, ⟨v.tab.1.ext (same_new np), v.tab.2⟩⟩⟩
/-- the heap grew, nothing of it is shown -/
theorem Grow.same (v : Vw z G H) (e : Same H H') : Grow z G H G H' :=
  ⟨fun a u _ h => e _ _ h, Same.refl _, fun _ _ _ _ g => g, ⟨v.sub.trans e, fun B L q => by
    obtain ⟨h1, h2, h3⟩ := v.bag B L q
    exact ⟨h1.same e, h2, h3⟩, ⟨v.tab.1.ext e, v.tab.2⟩⟩⟩
def isMut : D → Bool
  | .own _ => true
  | _ => false
theorem Den.nomut {v : V} {d : D} (h : Den K z G v d) : isMut d = false := by cases h <;> rfl
/-- the slots hold what the letters tell -/
def EnvD (K : PySem.W.Frag) (z : Zk) (G : Hp) (σ : L2.St) (env : Ev) : Prop := env.length = σ.length ∧ ∀ (i : Nat) (d : D), env[i]? = some (some d) → isMut d = false → ∃ v, σ[i]? = some (some v) ∧ Den K z G v d
theorem EnvD.same {σ : L2.St} {env : Ev} (e : Same G G') (h : EnvD K z G σ env) : EnvD K z G' σ env := ⟨h.1, fun i d q m => by
  obtain ⟨v, h1, h2⟩ := h.2 i d q m
  exact ⟨v, h1, h2.same e⟩⟩
theorem set_some {α : Type} {l : List α} {i j : Nat} {a b : α} (h : (l.set i a)[j]? = some b) : (i = j ∧ i < l.length ∧ b = a) ∨ (i ≠ j ∧ l[j]? = some b) := by
  by_cases c : i = j
  · subst c
    by_cases n : i < l.length
    · rw [List.getElem?_set_self n] at h
      cases h
      exact .inl ⟨rfl, n, rfl⟩
    · rw [List.getElem?_eq_none (by simp; omega)] at h
      cases h
  · rw [List.getElem?_set_ne c] at h
    exact .inr ⟨c, h⟩
theorem EnvD.set {σ : L2.St} {env : Ev} {v : V} {d : D} (h : EnvD K z G σ env) (i : Nat) (q : isMut d = false → Den K z G v d) : EnvD K z G (σ.set i (some v)) (env.set i (some d)) := by
  refine ⟨by simp [h.1], fun j e hj m => ?_⟩
  rcases set_some hj with ⟨rfl, l, e1⟩ | ⟨c, hj⟩
  · cases e1
    exact ⟨v, List.getElem?_set_self (by rw [← h.1]; exact l), q m⟩
  · rw [List.getElem?_set_ne c]
    exact h.2 j e hj m
/-- lists of one's own, that are still changed: not shown, each in one slot alone -/
structure Muts (K : PySem.W.Frag) (z : Zk) (H0 G H : Hp) (σ : L2.St) (env : Ev) : Prop where
  at_ : ∀ (i : Nat) (ds : List D), env[i]? = some (some (.own ds)) → ∃ p vs, σ[i]? = some (some (.ref p)) ∧ H p = some (.lst vs) ∧ G p = none ∧ H0 p = none ∧ Dens K z G vs ds ∧ ds.length ≤ big
  dj : ∀ (i j : Nat) (ds es : List D) (p : Addr), i ≠ j → env[i]? = some (some (.own ds)) → env[j]? = some (some (.own es)) → σ[i]? = some (some (.ref p)) → σ[j]? = some (some (.ref p)) → False
structure At (K : PySem.W.Frag) (z : Zk) (G0 H0 : Hp) (σ : L2.St) (H G : Hp) (env : Ev) : Prop where
  gr : Grow z G0 H0 G H
  v0 : Vw z G0 H0
  en : EnvD K z G σ env
  mu : Muts K z H0 G H σ env
theorem Vw.ne {p B L : Addr} (v : Vw z G H) (np : H p = none) (q : z.bg.bag = some (B, L)) : p ≠ B ∧ p ≠ L := ⟨(v.bag B L q).1.neB np, (v.bag B L q).1.neL np⟩
theorem Vw.out {p : Addr} (v : Vw z G H) (np : H p = none) : z.out p := ⟨fun _ _ q => (v.ne np q).1, fun _ hq => v.neT np hq⟩
theorem At.grow {G0 H0 : Hp} {σ : L2.St} {env : Ev} (a : At K z G0 H0 σ H G env) (g : Grow z G H G' H') : At K z G0 H0 σ H' G' env := by
  refine ⟨a.gr.trans g, a.v0, a.en.same g.gg, ⟨fun i ds e => ?_, a.mu.dj⟩⟩
  obtain ⟨p, vs, h1, h2, h3, h4, h5, h6⟩ := a.mu.at_ i ds e
  exact ⟨p, vs, h1, g.fr p _ (a.v0.out h4) h2, g.ap p _ h2 (.inr rfl) h3, h4, h5.same g.gg, h6⟩
theorem At.set {G0 H0 : Hp} {σ : L2.St} {env : Ev} {v : V} {d : D} (a : At K z G0 H0 σ H G env) (i : Nat) (q : Den K z G v d) : At K z G0 H0 (σ.set i (some v)) H G (env.set i (some d)) := by
  have nm := q.nomut
  have key : ∀ (j : Nat) (ds : List D), (env.set i (some d))[j]? = some (some (.own ds)) → i ≠ j ∧ env[j]? = some (some (.own ds)) := fun j ds e => by
    rcases set_some e with ⟨_, _, e1⟩ | h
    · cases e1
      cases nm
    · exact h
  refine ⟨a.gr, a.v0, a.en.set i fun _ => q, ⟨fun j ds e => ?_, fun j k ds es p n e1 e2 s1 s2 => ?_⟩⟩
  · obtain ⟨c, e⟩ := key j ds e
    obtain ⟨p, vs, h1, h2⟩ := a.mu.at_ j ds e
    exact ⟨p, vs, by rw [List.getElem?_set_ne c]; exact h1, h2⟩
  · obtain ⟨c1, e1⟩ := key j ds e1
    obtain ⟨c2, e2⟩ := key k es e2
    rw [List.getElem?_set_ne c1] at s1
    rw [List.getElem?_set_ne c2] at s2
    exact a.mu.dj j k ds es p n e1 e2 s1 s2
/-- an error that is told by x: its class, its own dict -/
def XDen (K : PySem.W.Frag) (z : Zk) (G H : Hp) (cls : Value) (dx : Option Addr) (x : ExD) : Prop := ∃ C a fs, z.cm x.cls = some C ∧ cls = .ref C ∧ dx = some a ∧ H a = some (.xd fs) ∧ DenF K z G fs x.fs
end
/-! as those see it who make no lambdas: no table changes -/
section
variable {K : PySem.W.Frag} {z : Zk} {G G' H H' : Hp}
def Zk.low (z : Zk) : Zk := ⟨z.cm, ⟨z.bg.bag, [], z.bg.lm⟩⟩
theorem Vw.low (v : Vw z G H) : Vw z.low G H := ⟨v.sub, v.bag, ⟨fun _ h => (nomatch h), fun _ h => (nomatch h)⟩⟩
mutual
theorem Den.low {v : V} {d : D} (h : Den K z G v d) : Den K z.low G v d := by
  cases h with
  | non => exact .non
  | bl b => exact .bl b
  | int i => exact .int i
  | str x l m => exact .str x l m
  | lst q r l => exact .lst q (Dens.low r) l
  | tup q r l => exact .tup q (Dens.low r) l
  | ins c g r => exact .ins c g (DenF.low r)
  | bag q => exact .bag q
  | ty n => exact .ty n
  | cls q => exact .cls q
  | lam q r d => exact .lam q r d
theorem Dens.low {vs : List V} {ds : List D} (h : Dens K z G vs ds) : Dens K z.low G vs ds := by
  cases h with
  | nil => exact .nil
  | cons q r => exact .cons (Den.low q) (Dens.low r)
theorem DenF.low {vs : List (Str × V)} {ds : List (Str × D)} (h : DenF K z G vs ds) : DenF K z.low G vs ds := by
  cases h with
  | nil => exact .nil
  | cons q r => exact .cons (Den.low q) (DenF.low r)
end
mutual
theorem Den.up {v : V} {d : D} (h : Den K z.low G v d) : Den K z G v d := by
  cases h with
  | non => exact .non
  | bl b => exact .bl b
  | int i => exact .int i
  | str x l m => exact .str x l m
  | lst q r l => exact .lst q (Dens.up r) l
  | tup q r l => exact .tup q (Dens.up r) l
  | ins c g r => exact .ins c g (DenF.up r)
  | bag q => exact .bag q
  | ty n => exact .ty n
  | cls q => exact .cls q
  | lam q r d => exact .lam q r d
theorem Dens.up {vs : List V} {ds : List D} (h : Dens K z.low G vs ds) : Dens K z G vs ds := by
  cases h with
  | nil => exact .nil
  | cons q r => exact .cons (Den.up q) (Dens.up r)
theorem DenF.up {vs : List (Str × V)} {ds : List (Str × D)} (h : DenF K z.low G vs ds) : DenF K z G vs ds := by
  cases h with
  | nil => exact .nil
  | cons q r => exact .cons (Den.up q) (DenF.up r)
end
theorem Grow.up (g : Grow z.low G H G' H') (v : Vw z G H) : Grow z G H G' H' := by
  have keep : ∀ b o, H b = some o → (∀ xs, o ≠ .lst xs) → H' b = some o := fun b o e n => g.fr b o ⟨fun B L q e2 => by
    obtain ⟨ns, i, d, s, h1, _⟩ := (v.bag B L q).1
    rw [e2, h1] at e
    exact n _ (Option.some.inj e).symm, fun _ h => (nomatch h)⟩ e
  refine ⟨fun a o n h => g.fr a o ⟨n.1, fun _ h => (nomatch h)⟩ h, g.gg, fun a o h _ => g.ap a o h (.inl rfl), ⟨g.vw.sub, g.vw.bag, ⟨fun p hp => ?_, fun p hp => ?_⟩⟩⟩
  · obtain ⟨ps, h1, h2, h3⟩ := v.tab.1 p hp
    refine ⟨ps, keep _ _ h1 (fun _ e => nomatch e), h2, fun pos cv hc => ?_⟩
    obtain ⟨cd, e1, e2⟩ := h3 pos cv hc
    exact ⟨cd, e1, keep _ _ e2 (fun _ e => nomatch e)⟩
  · obtain ⟨ps, h1, _⟩ := v.tab.1 p hp
    exact g.ap _ _ h1 (.inl rfl) (v.tab.2 p hp)
theorem XDen.up {cls : Value} {dx : Option Addr} {x : ExD} (h : XDen K z.low G H cls dx x) : XDen K z G H cls dx x := by
  obtain ⟨C, a, fs, h1, h2, h3, h4, h5⟩ := h
  exact ⟨C, a, fs, h1, h2, h3, h4, h5.up⟩
end
/-- what is wanted of errors: by the rules' words, by data -/
structure Jx (K : PySem.W.Frag) (z : Zk) where
  G0 : Hp
  H0 : Hp
  E : XK
  xQ : ExD → Prop
  hE : ∀ x cls dx H' G', xQ x → Grow z G0 H0 G' H' → XDen K z G' H' cls dx x → E cls dx H'
/-- no error -/
def Jx.no {K : PySem.W.Frag} {z : Zk} (J : Jx K z) : Jx K z := ⟨J.G0, J.H0, fun _ _ _ => False, fun _ => False, fun _ _ _ _ _ h => h.elim⟩
/-- an end with data -/
abbrev VQ (K : PySem.W.Frag) (z : Zk) (G H : Hp) (Q : VK) : D → Prop := fun d => ∀ v H' G', Grow z G H G' H' → Den K z G' v d → Q v H'
abbrev VsQ (K : PySem.W.Frag) (z : Zk) (G H : Hp) (Q : List V → Hp → Prop) : List D → Prop := fun d => ∀ v H' G', Grow z G H G' H' → Dens K z G' v d → Q v H'
/-- an expression does what m tells -/
def EV (X : Cx) {z : Zk} (J : Jx X.K z) (e : Expr) (m : Ev → W D) : Prop :=
  ∃ te, PE X e te ∧ ∀ σ H G env Q, At X.K z J.G0 J.H0 σ H G env → (m env).wp (VQ X.K z G H Q) J.xQ → te σ H Q
/-- a test -/
def TV (X : Cx) {z : Zk} (J : Jx X.K z) (e : Expr) (m : Ev → W Bool) : Prop :=
  ∃ te, PT X e te ∧ ∀ σ H G env (Q : Bool → Hp → Prop), At X.K z J.G0 J.H0 σ H G env → (m env).wp (fun b => ∀ H' G', Grow z G H G' H' → Q b H') J.xQ → te σ H Q
/-- arguments -/
def AV (X : Cx) {z : Zk} (J : Jx X.K z) (es : List Expr) (m : Ev → W (List D)) : Prop :=
  ∃ te, PA X es te ∧ ∀ σ H G env Q, At X.K z J.G0 J.H0 σ H G env → (m env).wp (VsQ X.K z G H Q) J.xQ → te σ H Q
/-- how a block ends -/
inductive Fl where
  | nx (env : Ev) | rt (d : D) | bk (env : Ev) | ct (env : Ev)
def FlQ (K : PySem.W.Frag) (z : Zk) (G0 H0 G : Hp) (N : Ends) : Fl → Prop
  | .nx env => ∀ σ H' G', At K z G0 H0 σ H' G' env → Same G G' → N.nx σ H'
  | .rt d => ∀ v H' G', Grow z G0 H0 G' H' → Den K z G' v d → N.rt v H'
  | .bk env => ∀ σ H' G', At K z G0 H0 σ H' G' env → Same G G' → N.bk σ H'
  | .ct env => ∀ σ H' G', At K z G0 H0 σ H' G' env → Same G G' → N.ct σ H'
theorem FlQ.up {K : PySem.W.Frag} {z : Zk} {G0 H0 G G1 : Hp} {N : Ends} (s : Same G G1) : ∀ f, FlQ K z G0 H0 G N f → FlQ K z G0 H0 G1 N f
  | .nx _, h => fun σ H' G' a e => h σ H' G' a (s.trans e)
  | .rt _, h => h
  | .bk _, h => fun σ H' G' a e => h σ H' G' a (s.trans e)
  | .ct _, h => fun σ H' G' a e => h σ H' G' a (s.trans e)
def SV (X : Cx) {z : Zk} (J : Jx X.K z) (st : Stmt) (m : Ev → W Fl) : Prop :=
  ∃ t, PS X st t ∧ ∀ σ H G env N, At X.K z J.G0 J.H0 σ H G env → (m env).wp (FlQ X.K z J.G0 J.H0 G N) J.xQ → t N σ H
def SVs (X : Cx) {z : Zk} (J : Jx X.K z) (ss : List Stmt) (m : Ev → W Fl) : Prop :=
  ∃ t, PSs X ss t ∧ ∀ σ H G env N, At X.K z J.G0 J.H0 σ H G env → (m env).wp (FlQ X.K z J.G0 J.H0 G N) J.xQ → t N σ H
/-- a def by what it does with data -/
def spM (K : PySem.W.Frag) (cm : Str → Option Addr) (n : Nat) (m : List D → W D) : Sp := fun vs H Q E => ∃ (bg : Bl) (G : Hp) (ds : List D), Vw ⟨cm, ⟨bg.1, [], bg.2⟩⟩ G H ∧ Dens K ⟨cm, ⟨bg.1, [], bg.2⟩⟩ G vs ds ∧ ds.length = n ∧
  (m ds).wp (VQ K ⟨cm, ⟨bg.1, [], bg.2⟩⟩ G H Q) (fun x => ∀ cls dx H' G', Grow ⟨cm, ⟨bg.1, [], bg.2⟩⟩ G H G' H' → XDen K ⟨cm, ⟨bg.1, [], bg.2⟩⟩ G' H' cls dx x → E cls dx H')
abbrev FnM (P : Program) (w : World) (K : PySem.W.Frag) (mg : Str → Option Value) (base : Heap) (cm : Str → Option Addr) (k : Nat) (f : Addr) (fd : FuncData) (ps : List Str) (m : List D → W D) : Prop :=
  FnOk P w K mg base (L2.CX P w) k f fd ps (spM K cm ps.length m)
end Rg

set_option Elab.async false
set_option linter.all false
set_option maxRecDepth 100000
set_option maxHeartbeats 4500000
/-! the rules by data: names, constants, operators, displays, subscripts -/
namespace Rg
open PySem PySem.Spec PyProof.Rows L2
def ofO : Option D → W D
  | some d => W.pure d
  | none => W.fail
def ofS : Option D → W D
  | some (.own _) => W.fail
  | some d => W.pure d
  | none => W.fail
def lk : Ev → Nat → W D
  | [], _ => W.fail
  | o :: _, 0 => ofS o
  | _ :: r, n + 1 => lk r n
theorem ofS_wp {o : Option D} {Q : D → Prop} {E : ExD → Prop} (h : (ofS o).wp Q E) : ∃ d, o = some d ∧ isMut d = false ∧ Q d := by
  cases o with
  | none => exact h.elim
  | some d => cases d <;> first | exact h.elim | exact ⟨_, rfl, rfl, h⟩
theorem lk_wp : ∀ {env : Ev} {i : Nat} {Q : D → Prop} {E : ExD → Prop}, (lk env i).wp Q E → ∃ d, env[i]? = some (some d) ∧ isMut d = false ∧ Q d
  | [], _, _, _, h => h.elim
  | o :: _, 0, _, _, h => by
    obtain ⟨d, rfl, h1, h2⟩ := ofS_wp h
    exact ⟨d, rfl, h1, h2⟩
  | _ :: r, n + 1, _, _, h => lk_wp (env := r) (i := n) h
section
variable {X : Cx} {z : Zk} {J : Jx X.K z} {a b c e : Expr} {es : List Expr} {ma mb mc : Ev → W D} {pos : Pos}
theorem ev_var (i : Nat) {x : Str} (hN : X.N[i]? = some x := by rfl) (hv : Vis X.env.scope x := by first | exact Or.inl rfl | exact Or.inr (Or.inl rfl) | exact Or.inr (Or.inr rfl)) (hd : (x == ("__debug__" : Str)) = false := by decide)
    (hcd : (x == ("__classdict__" : Str)) = false := by decide) : EV X J (.Name x pos) (fun env => lk env i) := by
  refine ⟨_, pe_var hN hv hd hcd, fun σ H G env Q at_ h => ?_⟩
  obtain ⟨d, h1, nm, h2⟩ := lk_wp h
  obtain ⟨v, h3, h4⟩ := at_.en.2 i d h1 nm
  exact ⟨v, h3, h2 v H G (.refl at_.gr.vw) h4⟩
/-- a value that is there -/
theorem ev_con {v : V} {d : D} (hp : PE X e (tC v)) (hd : ∀ G, Den X.K z G v d) : EV X J e (fun _ => W.pure d) :=
  ⟨_, hp, fun σ H G env Q at_ h => h v H G (.refl at_.gr.vw) (hd G)⟩
theorem ev_int {i : Int} {k : Nat} : EV X J (.Constant (.int i) k pos) (fun _ => W.pure (.int i)) := ev_con pe_int fun _ => .int i
theorem ev_bl {i : Bool} {k : Nat} : EV X J (.Constant (.bool i) k pos) (fun _ => W.pure (.bl i)) := ev_con pe_bl fun _ => .bl i
theorem ev_non {k : Nat} : EV X J (.Constant .none k pos) (fun _ => W.pure .non) := ev_con pe_non fun _ => .non
theorem ev_str {x : Str} {k : Nat} (l : List Nat) (h : x.cps.toList = l := by rfl) (h1 : l.length ≤ big := by decide) (h2 : ∀ c ∈ l, c < 1114112 := by decide) : EV X J (.Constant (.str x) k pos) (fun _ => W.pure (.str l)) := by
  subst h
  exact ev_con pe_str fun _ => Den.str _ h1 h2
theorem ev_int1 {x : Str} {u : Value} {i : Int} (hg : Gl X x) (hm : X.mg x = some u) (r : RelV (.int i) u) (hd : (x == ("__debug__" : Str)) = false := by decide) : EV X J (.Name x pos) (fun _ => W.pure (.int i)) := ev_con (pe_glob hg hm r hd) fun _ => .int i
theorem ev_str1 {x : Str} {u : Value} {y : Str} (l : List Nat) (hg : Gl X x) (hm : X.mg x = some u) (r : RelV (.str y) u) (h : y.cps.toList = l := by rfl) (h1 : l.length ≤ big := by decide) (h2 : ∀ c ∈ l, c < 1114112 := by decide) (hd : (x == ("__debug__" : Str)) = false := by decide) : EV X J (.Name x pos) (fun _ => W.pure (.str l)) := by
  subst h
  exact ev_con (pe_glob hg hm r hd) fun _ => Den.str _ h1 h2
/-- a name of the top whose value is written there -/
theorem ev_top {x : Str} {u : Value} {v : V} {d : D} (hg : Gl X x) (hm : X.mg x = some u) (r : RelV v u) (hD : ∀ G, Den X.K z G v d) (hd : (x == ("__debug__" : Str)) = false := by decide) : EV X J (.Name x pos) (fun _ => W.pure d) := ev_con (pe_glob hg hm r hd) hD
theorem ev_ty {x : Str} {n : String} (hg : Gl X x) (hm : X.mg x = none) (hv : bootBuiltins x = some (.type n)) (hn : x ≠ "__name__" := by decide) (hd : (x == ("__debug__" : Str)) = false := by decide) : EV X J (.Name x pos) (fun _ => W.pure (.ty n)) :=
  ev_con (pe_bltn (v := .ty n) hg hm hv rfl hn hd) fun _ => .ty n
/-! two places -/
def OpD (X : Cx) {z : Zk} (J : Jx X.K z) (f : Value → Value → Sem Value) (o : D → D → W D) : Prop :=
  ∃ r, OpR X f r ∧ ∀ x y d e H G Q, Vw z G H → Den X.K z G x d → Den X.K z G y e → (o d e).wp (VQ X.K z G H Q) J.xQ → r x y H Q
theorem two {ta tb : TE} {r : R2} {o : D → D → W D} {σ : L2.St} {H G : Hp} {env : Ev} {Q : VK}
    (ha : ∀ σ H G env Q, At X.K z J.G0 J.H0 σ H G env → (ma env).wp (VQ X.K z G H Q) J.xQ → ta σ H Q) (hb : ∀ σ H G env Q, At X.K z J.G0 J.H0 σ H G env → (mb env).wp (VQ X.K z G H Q) J.xQ → tb σ H Q)
    (ho : ∀ x y d e H G Q, Vw z G H → Den X.K z G x d → Den X.K z G y e → (o d e).wp (VQ X.K z G H Q) J.xQ → r x y H Q)
    (at_ : At X.K z J.G0 J.H0 σ H G env) (h : (W.bind (ma env) fun d => W.bind (mb env) fun e => o d e).wp (VQ X.K z G H Q) J.xQ) : ta σ H fun x H1 => tb σ H1 fun y H2 => r x y H2 Q := by
  refine ha σ H G env _ at_ ((ma env).mono (fun d h1 v H1 G1 g1 d1 => ?_) (fun _ q => q) h)
  refine hb σ H1 G1 env _ (at_.grow g1) ((mb env).mono (fun e h2 u H2 G2 g2 d2 => ?_) (fun _ q => q) h1)
  exact ho v u d e H2 G2 Q g2.vw (d1.same g2.gg) d2 ((o d e).mono (fun d3 q v3 H3 G3 g3 e3 => q v3 H3 G3 (g1.trans (g2.trans g3)) e3) (fun _ q => q) h2)
theorem ev_op {op : Operator} {o : D → D → W D} (ho : OpD X J (binaryOp op) o) (ha : EV X J a ma) (hb : EV X J b mb) : EV X J (.BinOp a op b pos) (fun env => W.bind (ma env) fun d => W.bind (mb env) fun e => o d e) := by
  obtain ⟨ta, pa, qa⟩ := ha
  obtain ⟨tb, pb, qb⟩ := hb
  obtain ⟨r, pr, qr⟩ := ho
  exact ⟨_, pe_op pr pa pb, fun σ H G env Q at_ h => two qa qb qr at_ h⟩
theorem ev_cmp {op : CmpOp} {o : D → D → W D} (ho : OpD X J (compareOp op) o) (ha : EV X J a ma) (hb : EV X J b mb) (hm : behindInMarks op b = false := by rfl) : EV X J (.Compare a [op] [b] pos) (fun env => W.bind (ma env) fun d => W.bind (mb env) fun e => o d e) := by
  obtain ⟨ta, pa, qa⟩ := ha
  obtain ⟨tb, pb, qb⟩ := hb
  obtain ⟨r, pr, qr⟩ := ho
  exact ⟨_, pe_cmpR pr pa pb hm, fun σ H G env Q at_ h => two qa qb qr at_ h⟩
theorem OpD.or {f : Value → Value → Sem Value} {o o' q : D → D → W D} (h : OpD X J f o) (h' : OpD X J f o') (hq : ∀ d e Q E, (q d e).wp Q E → (o d e).wp Q E ∨ (o' d e).wp Q E) : OpD X J f q := by
  obtain ⟨r, p1, p2⟩ := h
  obtain ⟨r', q1, q2⟩ := h'
  refine ⟨fun x y H Q => r x y H Q ∨ r' x y H Q, fun pins s σ H x y v u Q I rx ry h => ?_, fun x y d e H G Q vw dx dy h => ?_⟩
  · rcases h with h | h
    · exact p1 pins s σ H x y v u Q I rx ry h
    · exact q1 pins s σ H x y v u Q I rx ry h
  · rcases hq d e _ _ h with h | h
    · exact .inl (p2 x y d e H G Q vw dx dy h)
    · exact .inr (q2 x y d e H G Q vw dx dy h)
/-- ints -/
def intOp (C : Int → Int → Prop) (g : Int → Int → D) : D → D → W D
  | .int i, .int j => W.bind (W.need (C i j)) fun _ => W.pure (g i j)
  | _, _ => W.fail
theorem od_int {f : Value → Value → Sem Value} {C : Int → Int → Prop} {g : Int → Int → V} {gd : Int → Int → D} (h : OpR X f (rI C g)) (hd : ∀ i j G, Den X.K z G (g i j) (gd i j)) : OpD X J f (intOp C gd) := by
  refine ⟨_, h, fun x y d e H G Q vw dx dy h => ?_⟩
  cases dx with
  | int i =>
    cases dy with
    | int j => exact ⟨i, j, rfl, rfl, h.1, h.2 _ _ _ (.refl vw) (hd i j G)⟩
    | _ => exact h.elim
  | _ => exact h.elim
def intOp0 (g : Int → Int → D) : D → D → W D
  | .int i, .int j => W.pure (g i j)
  | _, _ => W.fail
theorem od_int0 {f : Value → Value → Sem Value} {g : Int → Int → V} {gd : Int → Int → D} (h : OpR X f (rI0 g)) (hd : ∀ i j G, Den X.K z G (g i j) (gd i j)) : OpD X J f (intOp0 gd) := by
  refine ⟨_, h, fun x y d e H G Q vw dx dy h => ?_⟩
  cases dx with
  | int i =>
    cases dy with
    | int j => exact ⟨i, j, rfl, rfl, h _ _ _ (.refl vw) (hd i j G)⟩
    | _ => exact h.elim
  | _ => exact h.elim
theorem od_sub : OpD X J (binaryOp .Sub) (intOp0 fun i j => .int (i - j)) := od_int0 op_sub fun i j G => .int _
theorem od_lt : OpD X J (compareOp .Lt) (intOp0 fun i j => .bl (decide (i < j))) := od_int0 op_lt fun i j G => .bl _
theorem od_le : OpD X J (compareOp .LtE) (intOp0 fun i j => .bl (decide (i ≤ j))) := od_int0 op_le fun i j G => .bl _
theorem od_gt : OpD X J (compareOp .Gt) (intOp0 fun i j => .bl (decide (j < i))) := od_int0 op_gt fun i j G => .bl _
theorem od_ge : OpD X J (compareOp .GtE) (intOp0 fun i j => .bl (decide (j ≤ i))) := od_int0 op_ge fun i j G => .bl _
theorem od_mul : OpD X J (binaryOp .Mult) (intOp CMul fun i j => .int (i * j)) := od_int op_mul fun i j G => .int _
theorem od_mod : OpD X J (binaryOp .Mod) (intOp (fun _ j => j ≠ 0) fun i j => .int (i.fmod j)) := od_int op_modN fun i j G => .int _
theorem od_fdiv : OpD X J (binaryOp .FloorDiv) (intOp CDivN fun i j => .int (i.fdiv j)) := od_int op_fdivN fun i j G => .int _
/-- texts in order -/
def strLt : D → D → W D
  | .str a, .str b => W.pure (.bl (decide (a < b)))
  | _, _ => W.fail
theorem od_lt_str : OpD X J (compareOp .Lt) strLt := by
  refine ⟨_, op_lt_str, fun x y d e H G Q vw dx dy h => ?_⟩
  cases dx with
  | str a =>
    cases dy with
    | str b => exact ⟨_, _, rfl, rfl, h _ _ _ (.refl vw) (.bl _)⟩
    | _ => exact h.elim
  | _ => exact h.elim
/-- + of ints, texts, lists, tuples -/
def addD : D → D → W D
  | .int i, .int j => W.pure (.int (i + j))
  | .str a, .str b => W.bind (W.need (a.length + b.length ≤ big)) fun _ => W.pure (.str (a ++ b))
  | .tup a, .tup b => W.bind (W.need (a.length + b.length ≤ big)) fun _ => W.pure (.tup (a ++ b))
  | .lst a, .lst b => W.bind (W.need (a.length + b.length ≤ big)) fun _ => W.pure (.lst (a ++ b))
  | _, _ => W.fail
end
end Rg

set_option Elab.async false
set_option linter.all false
set_option maxRecDepth 100000
set_option maxHeartbeats 4500000
/-! the rules by data: equal, in, is, subscripts, slices -/
namespace Rg
open PySem PySem.Spec PyProof.Rows L2
mutual
def toPy : D → PyData
  | .non => .none
  | .bl b => .bool b
  | .int i => .int i
  | .str l => .str (sOf l)
  | .lst xs => .list (toPys xs)
  | .tup xs => .tuple (toPys xs)
  | .ins _ _ => .none
  | .bag => .none
  | .ty _ => .none
  | .cls _ => .none
  | .lam _ => .none
  | .own _ => .none
def toPys : List D → List PyData
  | [] => []
  | x :: r => toPy x :: toPys r
end
mutual
/-- no objects in it, at most n levels of lists -/
def plain : Nat → D → Bool
  | _, .non => true
  | _, .bl _ => true
  | _, .int _ => true
  | _, .str _ => true
  | 0, .lst _ => false
  | 0, .tup _ => false
  | n + 1, .lst xs => plains n xs
  | n + 1, .tup xs => plains n xs
  | _, .ins _ _ => false
  | _, .bag => false
  | _, .ty _ => false
  | _, .cls _ => false
  | _, .lam _ => false
  | _, .own _ => false
def plains : Nat → List D → Bool
  | _, [] => true
  | n, x :: r => plain n x && plains n r
end
mutual
/-- equal, as Python says it -/
def eqvD : D → D → Bool
  | .non, .non => true
  | .bl a, .bl b => a == b
  | .bl a, .int j => (if a then 1 else 0) == j
  | .int i, .bl b => i == (if b then 1 else 0)
  | .int i, .int j => i == j
  | .str x, .str y => x == y
  | .lst xs, .lst ys => eqvDs xs ys
  | .tup xs, .tup ys => eqvDs xs ys
  | _, _ => false
def eqvDs : List D → List D → Bool
  | [], [] => true
  | x :: xs, y :: ys => eqvD x y && eqvDs xs ys
  | _, _ => false
end
theorem sOf_beq (a b : List Nat) : (sOf a == sOf b) = (a == b) := by
  have one : (sOf a == sOf b) = true ↔ (a == b) = true := by
    simp only [beq_iff_eq]
    exact ⟨sOf_inj, congrArg sOf⟩
  exact Bool.eq_iff_iff.mpr one
mutual
theorem eqv_py : ∀ (n : Nat) (d e : D), plain n d = true → plain n e = true → PyData.eqv (toPy d) (toPy e) = eqvD d e
  | n, .non, e, _, h => by cases e <;> first | rfl | (unfold plain at h; cases h)
  | n, .bl _, e, _, h => by cases e <;> first | rfl | (unfold plain at h; cases h)
  | n, .int _, e, _, h => by cases e <;> first | rfl | (unfold plain at h; cases h)
  | n, .str x, e, _, h => by
    cases e with
    | str y => exact sOf_beq x y
    | ins _ _ => unfold plain at h; cases h
    | bag => unfold plain at h; cases h
    | ty _ => unfold plain at h; cases h
    | cls _ => unfold plain at h; cases h
    | own _ => unfold plain at h; cases h
    | _ => rfl
  | 0, .lst xs, e, g, h => by unfold plain at g; cases g
  | 0, .tup xs, e, g, h => by unfold plain at g; cases g
  | n + 1, .lst xs, e, g, h => by
    cases e with
    | lst ys => exact eqvs_py n xs ys g h
    | ins _ _ => unfold plain at h; cases h
    | bag => unfold plain at h; cases h
    | ty _ => unfold plain at h; cases h
    | cls _ => unfold plain at h; cases h
    | own _ => unfold plain at h; cases h
    | _ => rfl
  | n + 1, .tup xs, e, g, h => by
    cases e with
    | tup ys => exact eqvs_py n xs ys g h
    | ins _ _ => unfold plain at h; cases h
    | bag => unfold plain at h; cases h
    | ty _ => unfold plain at h; cases h
    | cls _ => unfold plain at h; cases h
    | own _ => unfold plain at h; cases h
    | _ => rfl
  | n, .ins _ _, e, g, h => by unfold plain at g; cases g
  | n, .bag, e, g, h => by unfold plain at g; cases g
  | n, .ty _, e, g, h => by unfold plain at g; cases g
  | n, .cls _, e, g, h => by unfold plain at g; cases g
  | n, .lam _, e, g, h => by unfold plain at g; cases g
  | n, .own _, e, g, h => by unfold plain at g; cases g
theorem eqvs_py : ∀ (n : Nat) (d e : List D), plains n d = true → plains n e = true → PyData.eqvAll (toPys d) (toPys e) = eqvDs d e
  | n, [], [], _, _ => rfl
  | n, [], _ :: _, _, _ => rfl
  | n, _ :: _, [], _, _ => rfl
  | n, x :: xs, y :: ys, g, h => by
    unfold plains at g h
    obtain ⟨g1, g2⟩ := Bool.and_eq_true_iff.mp g
    obtain ⟨h1, h2⟩ := Bool.and_eq_true_iff.mp h
    show (PyData.eqv (toPy x) (toPy y) && PyData.eqvAll (toPys xs) (toPys ys)) = _
    rw [eqv_py n x y g1 h1, eqvs_py n xs ys g2 h2]
    rfl
end
mutual
theorem dep_py : ∀ (n : Nat) (d : D), plain n d = true → (toPy d).depth ≤ n
  | n, .non, _ => Nat.zero_le _
  | n, .bl _, _ => Nat.zero_le _
  | n, .int _, _ => Nat.zero_le _
  | n, .str _, _ => Nat.zero_le _
  | 0, .lst xs, h => by unfold plain at h; cases h
  | 0, .tup xs, h => by unfold plain at h; cases h
  | n + 1, .lst xs, h => Nat.succ_le_succ (deps_py n xs h)
  | n + 1, .tup xs, h => Nat.succ_le_succ (deps_py n xs h)
  | n, .ins _ _, h => by unfold plain at h; cases h
  | n, .bag, h => by unfold plain at h; cases h
  | n, .ty _, h => by unfold plain at h; cases h
  | n, .cls _, h => by unfold plain at h; cases h
  | n, .lam _, h => by unfold plain at h; cases h
  | n, .own _, h => by unfold plain at h; cases h
theorem deps_py : ∀ (n : Nat) (d : List D), plains n d = true → PyData.depthAll (toPys d) ≤ n
  | n, [], _ => Nat.zero_le _
  | n, x :: xs, h => by
    unfold plains at h
    obtain ⟨h1, h2⟩ := Bool.and_eq_true_iff.mp h
    exact Nat.max_le.mpr ⟨dep_py n x h1, deps_py n xs h2⟩
end
section
variable {K : PySem.W.Frag} {z : Zk} {G H : Hp}
mutual
theorem Den.dp (e : Same G H) : ∀ (n : Nat) {v : V} (d : D), Den K z G v d → plain n d = true → Dp K H v (toPy d) ∧ (toPy d).canLay0 = true
  | n, _, .non, h, _ => by cases h; exact ⟨.non, rfl⟩
  | n, _, .bl _, h, _ => by cases h; exact ⟨.bl _, rfl⟩
  | n, _, .int _, h, _ => by cases h; exact ⟨.int _, rfl⟩
  | n, _, .str l, h, _ => by
    cases h with
    | str _ h1 h2 =>
      refine ⟨.str _, ?_⟩
      show (PyData.strOk (sOf l)) = true
      unfold PyData.strOk
      rw [Array.all_eq_true]
      intro i hi
      have e1 : (sOf l).cps = l.toArray := rfl
      have := h2 ((sOf l).cps[i]) (by simp [e1])
      simpa using this
  | 0, _, .lst xs, _, h => by unfold plain at h; cases h
  | 0, _, .tup xs, _, h => by unfold plain at h; cases h
  | n + 1, _, .lst xs, h, p => by
    cases h with
    | lst q r l =>
      obtain ⟨a, b⟩ := Dens.dp e n xs r p
      exact ⟨.lst (SqL.of (e _ _ q)) a, b⟩
  | n + 1, _, .tup xs, h, p => by
    cases h with
    | tup q r l =>
      obtain ⟨a, b⟩ := Dens.dp e n xs r p
      exact ⟨.tup ((q.to e)) a, b⟩
  | n, _, .ins _ _, _, h => by unfold plain at h; cases h
  | n, _, .bag, _, h => by unfold plain at h; cases h
  | n, _, .ty _, _, h => by unfold plain at h; cases h
  | n, _, .cls _, _, h => by unfold plain at h; cases h
  | n, _, .lam _, _, h => by unfold plain at h; cases h
  | n, _, .own _, _, h => by unfold plain at h; cases h
theorem Dens.dp (e : Same G H) : ∀ (n : Nat) {vs : List V} (ds : List D), Dens K z G vs ds → plains n ds = true → DpAll K H vs (toPys ds) ∧ PyData.canLayAll0 (toPys ds) = true
  | n, _, [], h, _ => by cases h; exact ⟨.nil, rfl⟩
  | n, _, d :: ds, h, p => by
    cases h with
    | cons q r =>
      unfold plains at p
      obtain ⟨p1, p2⟩ := Bool.and_eq_true_iff.mp p
      obtain ⟨a, b⟩ := Den.dp e n d q p1
      obtain ⟨a2, b2⟩ := Dens.dp e n ds r p2
      refine ⟨.cons a a2, ?_⟩
      show (_ && _) = true
      rw [b, b2]
      rfl
end
theorem shaped_of {d : D} (h : plain 60 d = true) (hc : (toPy d).canLay0 = true) : SeqAt.shaped (toPy d) = true := by
  unfold SeqAt.shaped
  rw [hc, decide_eq_true (Nat.le_trans (dep_py 60 d h) (by decide))]
  rfl
end
section
variable {X : Cx} {z : Zk} {J : Jx X.K z} {a b c e : Expr} {es : List Expr} {ma mb mc : Ev → W D} {pos : Pos}
def eqD (d e : D) : W D := W.bind (W.need (plain 60 d = true ∧ plain 60 e = true)) fun _ => W.pure (.bl (eqvD d e))
def neD (d e : D) : W D := W.bind (W.need (plain 60 d = true ∧ plain 60 e = true)) fun _ => W.pure (.bl (!eqvD d e))
theorem od_eq {k : Nat} (hr : Room k X.A) : OpD X J (compareOp .Eq) eqD := by
  refine ⟨_, op_eqD (by have := hr.un; omega), fun x y d e H G Q vw dx dy h => ?_⟩
  obtain ⟨⟨p1, p2⟩, q⟩ := h
  obtain ⟨a1, b1⟩ := dx.dp vw.sub 60 d p1
  obtain ⟨a2, b2⟩ := dy.dp vw.sub 60 e p2
  refine ⟨_, _, a1, a2, shaped_of p1 b1, shaped_of p2 b2, ?_⟩
  rw [eqv_py 60 d e p1 p2]
  exact q _ _ _ (.refl vw) (.bl _)
theorem od_ne {k : Nat} (hr : Room k X.A) : OpD X J (compareOp .NotEq) neD := by
  refine ⟨_, op_neD (by have := hr.un; omega), fun x y d e H G Q vw dx dy h => ?_⟩
  obtain ⟨⟨p1, p2⟩, q⟩ := h
  obtain ⟨a1, b1⟩ := dx.dp vw.sub 60 d p1
  obtain ⟨a2, b2⟩ := dy.dp vw.sub 60 e p2
  refine ⟨_, _, a1, a2, shaped_of p1 b1, shaped_of p2 b2, ?_⟩
  rw [eqv_py 60 d e p1 p2]
  exact q _ _ _ (.refl vw) (.bl _)
/-- is None -/
def isNon : D → Bool
  | .non => true
  | _ => false
def isNoneD (neg : Bool) (d e : D) : W D := match e with
  | .non => W.pure (.bl (isNon d != neg))
  | _ => W.fail
theorem den_non {K : PySem.W.Frag} {G : Hp} {x : V} {d : D} (h : Den K z G x d) : decide (x = .non) = isNon d := by
  cases h <;> first | rfl | exact decide_eq_false (fun q => nomatch q)
theorem od_isN : OpD X J (compareOp .Is) (isNoneD false) := by
  refine ⟨_, op_isN, fun x y d e H G Q vw dx dy h => ?_⟩
  cases dy with
  | non =>
    refine ⟨rfl, ?_⟩
    rw [den_non dx]
    have h' := h (.bl (isNon d)) H G (.refl vw)
    exact h' (by cases isNon d <;> exact .bl _)
  | _ => exact h.elim
theorem od_notN : OpD X J (compareOp .IsNot) (isNoneD true) := by
  refine ⟨_, op_notN, fun x y d e H G Q vw dx dy h => ?_⟩
  cases dy with
  | non =>
    refine ⟨rfl, ?_⟩
    rw [den_non dx]
    have h' := h (.bl (!isNon d)) H G (.refl vw)
    exact h' (by cases isNon d <;> exact .bl _)
  | _ => exact h.elim
/-- x in a list or a tuple of plain data; a sign in a text -/
def flatD : D → Bool
  | .non => true
  | .bl _ => true
  | .int _ => true
  | .str _ => true
  | _ => false
def inD (neg : Bool) (x : D) : D → W D
  | .tup ds => W.bind (W.need (flatD x = true ∧ ds.all flatD = true)) fun _ => W.pure (.bl (ds.any (fun y => eqvD y x) != neg))
  | .lst ds => W.bind (W.need (plain 59 x = true ∧ plains 59 ds = true)) fun _ => W.pure (.bl (ds.any (fun y => eqvD y x) != neg))
  | .str l => match x with
    | .str [c] => W.pure (.bl (l.contains c != neg))
    | _ => W.fail
  | _ => W.fail
theorem den_flat {K : PySem.W.Frag} {G : Hp} {x : V} {d : D} (h : Den K z G x d) (f : flatD d = true) : flatV x = true := by
  cases h <;> first | rfl | cases f
theorem eqV_D {K : PySem.W.Frag} {G : Hp} {x y : V} {d e : D} (h : Den K z G x d) (g : Den K z G y e) (f : flatD d = true) (f' : flatD e = true) : eqV x y = eqvD d e := by
  cases h <;> first | exact absurd f Bool.false_ne_true | (cases g <;> first | exact absurd f' Bool.false_ne_true | rfl | exact sOf_beq _ _)
theorem any_flat {K : PySem.W.Frag} {G : Hp} {x : V} {d : D} (h : Den K z G x d) (f : flatD d = true) : ∀ {ys : List V} {ds : List D}, Dens K z G ys ds → ds.all flatD = true → inV x ys = ds.any (fun y => eqvD y d) ∧ ys.all flatV = true
  | _, _, .nil, _ => ⟨rfl, rfl⟩
  | _, _, .cons (d := d') q r, p => by
    rw [List.all_cons] at p
    obtain ⟨p1, p2⟩ := Bool.and_eq_true_iff.mp p
    obtain ⟨h1, h2⟩ := any_flat h f r p2
    refine ⟨?_, ?_⟩
    · unfold inV at h1 ⊢
      rw [List.any_cons, List.any_cons, h1, eqV_D q h p1 f]
    · rw [List.all_cons, den_flat q p1, h2]
      rfl
theorem any_py {n : Nat} {d : D} (h : plain n d = true) : ∀ {ds : List D}, plains n ds = true → ((toPys ds).any fun z => PyData.eqv z (toPy d)) = ds.any (fun y => eqvD y d)
  | [], _ => rfl
  | x :: r, p => by
    unfold plains at p
    obtain ⟨p1, p2⟩ := Bool.and_eq_true_iff.mp p
    show (PyData.eqv (toPy x) (toPy d) || _) = (eqvD x d || _)
    rw [eqv_py n x d p1 h, any_py h p2]
theorem shaped_at {n : Nat} {d : D} (h : plain n d = true) (hn : n ≤ 64) (hc : (toPy d).canLay0 = true) : SeqAt.shaped (toPy d) = true := by
  unfold SeqAt.shaped
  rw [hc, decide_eq_true (Nat.le_trans (dep_py n d h) hn)]
  rfl
theorem xor_ff (b : Bool) : (b != false) = b := by cases b <;> rfl
theorem xor_tt (b : Bool) : (b != true) = !b := by cases b <;> rfl
theorem sgn_of {K : PySem.W.Frag} {G : Hp} {x : V} {d : D} {l : List Nat} {Q : D → Prop} {E : ExD → Prop} {neg : Bool} (h : Den K z G x d) (q : (inD neg d (.str l)).wp Q E) : ∃ c, x = .str ⟨#[c]⟩ ∧ Q (.bl (l.contains c != neg)) := by
  cases h with
  | str s _ _ =>
    match s, q with
    | [c], q => exact ⟨c, rfl, q⟩
  | _ => exact q.elim
theorem contains_dec (l : List Nat) (c : Nat) : l.contains c = decide (c ∈ l) := by
  rw [Bool.eq_iff_iff]
  simp
theorem od_in {k : Nat} (hr : Room k X.A) : OpD X J (compareOp .In) (inD false) := by
  refine ⟨fun x y H Q => rIn X.K false x y H Q ∨ rInD X.K x y H Q ∨ ∃ (c : Nat) (z : Str), x = .str ⟨#[c]⟩ ∧ y = .str z ∧ Q (.bl (decide (c ∈ z.cps.toList))) H, fun pins s σ H x y v u Q I rx ry h => ?_, fun x y d e H G Q vw dx dy h => ?_⟩
  · rcases h with h | h | h
    · exact op_in_seq pins s σ H x y v u Q I rx ry h
    · exact op_inD (by have := hr.un; omega) pins s σ H x y v u Q I rx ry h
    · exact op_in_sign pins s σ H x y v u Q I rx ry h
  · cases dy with
    | tup q r l =>
      obtain ⟨⟨f1, f2⟩, w⟩ := h
      obtain ⟨e1, e2⟩ := any_flat dx f1 r f2
      refine .inl ⟨_, _, rfl, .inr ((q.to vw.sub)), den_flat dx f1, e2, ?_⟩
      rw [e1, ← xor_ff (List.any _ _)]
      exact w _ _ _ (.refl vw) (.bl _)
    | lst q r l =>
      obtain ⟨⟨f1, f2⟩, w⟩ := h
      obtain ⟨a1, b1⟩ := dx.dp vw.sub 59 d f1
      obtain ⟨a2, b2⟩ := r.dp vw.sub 59 _ f2
      refine .inr (.inl ⟨_, _, a1, .lst (SqL.of (vw.sub _ _ q)) a2, shaped_at f1 (by decide) b1, shaped_at (n := 60) (d := .lst _) f2 (by decide) b2, ?_⟩)
      rw [any_py f1 f2, ← xor_ff (List.any _ _)]
      exact w _ _ _ (.refl vw) (.bl _)
    | str l _ _ =>
      obtain ⟨c, rfl, w⟩ := sgn_of dx h
      refine .inr (.inr ⟨c, _, rfl, rfl, ?_⟩)
      rw [cps_sOf, ← contains_dec, ← xor_ff (List.contains _ _)]
      exact w _ _ _ (.refl vw) (.bl _)
    | _ => exact h.elim
theorem od_notIn {k : Nat} (hr : Room k X.A) : OpD X J (compareOp .NotIn) (inD true) := by
  refine ⟨fun x y H Q => rIn X.K true x y H Q ∨ rNotInD X.K x y H Q ∨ ∃ (c : Nat) (z : Str), x = .str ⟨#[c]⟩ ∧ y = .str z ∧ Q (.bl (!decide (c ∈ z.cps.toList))) H, fun pins s σ H x y v u Q I rx ry h => ?_, fun x y d e H G Q vw dx dy h => ?_⟩
  · rcases h with h | h | h
    · exact op_notIn_seq pins s σ H x y v u Q I rx ry h
    · exact op_notInD (by have := hr.un; omega) pins s σ H x y v u Q I rx ry h
    · exact op_notIn_sign pins s σ H x y v u Q I rx ry h
  · cases dy with
    | tup q r l =>
      obtain ⟨⟨f1, f2⟩, w⟩ := h
      obtain ⟨e1, e2⟩ := any_flat dx f1 r f2
      refine .inl ⟨_, _, rfl, .inr ((q.to vw.sub)), den_flat dx f1, e2, ?_⟩
      rw [e1]
      show Q (.bl (!_)) H
      rw [← xor_tt (List.any _ _)]
      exact w _ _ _ (.refl vw) (.bl _)
    | lst q r l =>
      obtain ⟨⟨f1, f2⟩, w⟩ := h
      obtain ⟨a1, b1⟩ := dx.dp vw.sub 59 d f1
      obtain ⟨a2, b2⟩ := r.dp vw.sub 59 _ f2
      refine .inr (.inl ⟨_, _, a1, .lst (SqL.of (vw.sub _ _ q)) a2, shaped_at f1 (by decide) b1, shaped_at (n := 60) (d := .lst _) f2 (by decide) b2, ?_⟩)
      rw [any_py f1 f2, ← xor_tt (List.any _ _)]
      exact w _ _ _ (.refl vw) (.bl _)
    | str l _ _ =>
      obtain ⟨c, rfl, w⟩ := sgn_of dx h
      refine .inr (.inr ⟨c, _, rfl, rfl, ?_⟩)
      rw [cps_sOf, ← contains_dec, ← xor_tt (List.contains _ _)]
      exact w _ _ _ (.refl vw) (.bl _)
    | _ => exact h.elim
/-- + -/
theorem od_add : OpD X J (binaryOp .Add) addD := by
  refine ⟨fun x y H Q => rI0 (fun i j => .int (i + j)) x y H Q ∨ (∃ i j, x = .str i ∧ y = .str j ∧ i.length + j.length ≤ sizeLine ∧ Q (.str (i ++ j)) H) ∨ rCatA X.K x y H Q ∨ rCat x y H Q, fun pins s σ H x y v u Q I rx ry h => ?_, fun x y d e H G Q vw dx dy h => ?_⟩
  · rcases h with h | h | h | h
    · exact op_add pins s σ H x y v u Q I rx ry h
    · exact op_add_str pins s σ H x y v u Q I rx ry h
    · exact op_catA pins s σ H x y v u Q I rx ry h
    · exact op_cat pins s σ H x y v u Q I rx ry h
  · cases dx with
    | int i =>
      cases dy with
      | int j => exact .inl ⟨i, j, rfl, rfl, h _ _ _ (.refl vw) (.int _)⟩
      | _ => exact h.elim
    | str a la ca =>
      cases dy with
      | str b lb cb =>
        refine .inr (.inl ⟨_, _, rfl, rfl, ?_, ?_⟩)
        · rw [len_sOf, len_sOf]
          exact Nat.le_trans h.1 big_line
        · rw [sOf_app]
          refine h.2 _ _ _ (.refl vw) (.str _ ?_ fun c hc => ?_)
          · rw [List.length_append]
            exact h.1
          · rcases List.mem_append.mp hc with q | q
            · exact ca c q
            · exact cb c q
      | _ => exact h.elim
    | tup qa ra la =>
      cases dy with
      | tup qb rb lb =>
        have sz := h.1
        have e1 := ra.len
        have e2 := rb.len
        refine .inr (.inr (.inl ⟨_, _, _, _, rfl, rfl, (qa.to vw.sub), (qb.to vw.sub), ?_, fun z => ?_, fun _ z => ?_, fun _ _ p np => ?_⟩))
        · rw [e1, e2]
          exact Nat.le_trans sz big_line
        · subst z
          cases ra
          exact h.2 _ _ _ (.refl vw) (.tup qb rb lb)
        · subst z
          cases rb
          refine h.2 _ _ _ (.refl vw) ?_
          rw [List.append_nil]
          exact .tup qa ra la
        · refine h.2 _ _ _ (.new vw np) (.tup (.inl upd_same) ((ra.app rb).same (same_new (vw.sub.free np))) ?_)
          rw [List.length_append]
          exact sz
      | _ => exact h.elim
    | lst qa ra la =>
      cases dy with
      | lst qb rb lb =>
        have sz := h.1
        have e1 := ra.len
        have e2 := rb.len
        refine .inr (.inr (.inr ⟨_, _, _, _, rfl, rfl, vw.sub _ _ qa, vw.sub _ _ qb, ?_, fun p np => ?_⟩))
        · rw [e1, e2]
          exact Nat.le_trans sz big_line
        · refine h.2 _ _ _ (.new vw np) (.lst upd_same ((ra.app rb).same (same_new (vw.sub.free np))) ?_)
          rw [List.length_append]
          exact sz
      | _ => exact h.elim
    | _ => exact h.elim
/-- a[i] -/
def ixD : D → D → W D
  | .lst ds, .int i => ofO (atI ds i)
  | .tup ds, .int i => ofO (atI ds i)
  | .str l, .int i => ofO ((atI l i).map fun c => .str [c])
  | _, _ => W.fail
theorem ofO_wp {o : Option D} {Q : D → Prop} {E : ExD → Prop} (h : (ofO o).wp Q E) : ∃ d, o = some d ∧ Q d := by
  cases o with
  | none => exact h.elim
  | some d => exact ⟨d, rfl, h⟩
theorem atI_den {K : PySem.W.Frag} {G : Hp} {xs : List V} {ds : List D} {i : Int} {d : D} (h : Dens K z G xs ds) (e : atI ds i = some d) : ∃ v, atI xs i = some v ∧ Den K z G v d := by
  unfold atI at e ⊢
  rw [h.len]
  obtain ⟨j, h1, h2⟩ := Option.bind_eq_some_iff.mp e
  obtain ⟨v, h3, h4⟩ := h.at' h2
  exact ⟨v, by rw [h1]; exact h3, h4⟩
theorem atI_mem {α : Type} {xs : List α} {i : Int} {x : α} (e : atI xs i = some x) : x ∈ xs := by
  unfold atI at e
  obtain ⟨j, h1, h2⟩ := Option.bind_eq_some_iff.mp e
  exact List.mem_of_getElem? h2
theorem ev_ix (ha : EV X J a ma) (hb : EV X J b mb) (hs : PlainIx b := by exact fun _ _ => rfl) : EV X J (.Subscript a b pos) (fun env => W.bind (ma env) fun d => W.bind (mb env) fun e => ixD d e) := by
  obtain ⟨ta, pa, qa⟩ := ha
  obtain ⟨tb, pb, qb⟩ := hb
  refine ⟨_, pe_ix ix_seq pa pb hs, fun σ H G env Q at_ h => two qa qb (r := rIx X.K) (fun x y d e H G Q vw dx dy h => ?_) at_ h⟩
  cases dx with
  | lst q r l =>
    cases dy with
    | int i =>
      obtain ⟨d', e1, h⟩ := ofO_wp h
      obtain ⟨v, h1, h2⟩ := atI_den r e1
      exact .inl ⟨_, _, i, v, rfl, rfl, SqL.of (vw.sub _ _ q), h1, h _ _ _ (.refl vw) h2⟩
    | _ => exact h.elim
  | tup q r l =>
    cases dy with
    | int i =>
      obtain ⟨d', e1, h⟩ := ofO_wp h
      obtain ⟨v, h1, h2⟩ := atI_den r e1
      exact .inr (.inl ⟨_, _, i, v, rfl, rfl, (q.to vw.sub), h1, h _ _ _ (.refl vw) h2⟩)
    | _ => exact h.elim
  | str l h1 h2 =>
    cases dy with
    | int i =>
      obtain ⟨d', e0, h⟩ := ofO_wp h
      obtain ⟨c', e1, rfl⟩ := Option.map_eq_some_iff.mp e0
      refine .inr (.inr ⟨_, i, c', rfl, rfl, ?_, e1, h _ _ _ (.refl vw) (.str [c'] (show 1 ≤ big by decide) fun x hx => ?_)⟩)
      · rw [len_sOf]
        exact Nat.le_trans h1 big_line
      · obtain rfl := List.mem_singleton.mp hx
        exact h2 _ (atI_mem e1)
    | _ => exact h.elim
  | _ => exact h.elim
end
end Rg

set_option Elab.async false
set_option linter.all false
set_option maxRecDepth 100000
set_option maxHeartbeats 4500000
/-! the rules by data: slices, and, or, not, displays, tests, statements -/
namespace Rg
open PySem PySem.Spec PyProof.Rows L2
section
variable {X : Cx} {z : Zk} {J : Jx X.K z} {a b c e : Expr} {es : List Expr} {ma mb mc : Ev → W D} {ms : Ev → W (List D)} {mt mt' : Ev → W Bool} {pos : Pos}
theorem VQ.grow {G H G1 H1 : Hp} {Q : VK} (g : Grow z G H G1 H1) : ∀ d, VQ X.K z G H Q d → VQ X.K z G1 H1 Q d := fun d q v H' G' g' h => q v H' G' (g.trans g') h
theorem VsQ.grow {G H G1 H1 : Hp} {Q : List V → Hp → Prop} (g : Grow z G H G1 H1) : ∀ d, VsQ X.K z G H Q d → VsQ X.K z G1 H1 Q d := fun d q v H' G' g' h => q v H' G' (g.trans g') h
/-! arguments, displays -/
theorem av_nil : AV X J [] (fun _ => W.pure []) := ⟨_, pa_nil, fun σ H G env Q at_ h => h [] H G (.refl at_.gr.vw) .nil⟩
theorem av_cons (ha : EV X J a ma) (hs : AV X J es ms) (hst : starEach (a :: es) X.env = (false, eval a X.env) :: starEach es X.env := by rfl) : AV X J (a :: es) (fun env => W.bind (ma env) fun d => W.bind (ms env) fun ds => W.pure (d :: ds)) := by
  obtain ⟨ta, pa, qa⟩ := ha
  obtain ⟨ts, ps, qs⟩ := hs
  refine ⟨_, pa_cons pa ps hst, fun σ H G env Q at_ h => ?_⟩
  refine qa σ H G env _ at_ ((ma env).mono (fun d h1 v H1 G1 g1 d1 => ?_) (fun _ q => q) h)
  refine qs σ H1 G1 env _ (at_.grow g1) ((ms env).mono (fun ds h2 vs H2 G2 g2 d2 => ?_) (fun _ q => q) h1)
  exact h2 _ _ _ (g1.trans g2) (.cons (d1.same g2.gg) d2)
def mkTup (ds : List D) : W D := W.bind (W.need (ds.length ≤ big)) fun _ => W.pure (.tup ds)
def mkLst (ds : List D) : W D := W.bind (W.need (ds.length ≤ big)) fun _ => W.pure (.lst ds)
theorem ev_tup {k : Nat} (hs : AV X J es ms) : EV X J (.Tuple es k pos) (fun env => W.bind (ms env) mkTup) := by
  obtain ⟨ts, ps, qs⟩ := hs
  refine ⟨_, pe_tup ps, fun σ H G env Q at_ h => ?_⟩
  refine qs σ H G env _ at_ ((ms env).mono (fun ds h1 vs H1 G1 g1 d1 => ?_) (fun _ q => q) h)
  have l := d1.len
  refine ⟨by rw [l]; exact Nat.le_trans h1.1 big_line, fun p np => h1.2 _ _ _ (g1.trans (.new g1.vw np)) (.tup (.inl upd_same) (d1.same (same_new (g1.vw.sub.free np))) h1.1)⟩
theorem ev_lst (hs : AV X J es ms) : EV X J (.List es pos) (fun env => W.bind (ms env) mkLst) := by
  obtain ⟨ts, ps, qs⟩ := hs
  refine ⟨_, pe_lst ps, fun σ H G env Q at_ h => ?_⟩
  refine qs σ H G env _ at_ ((ms env).mono (fun ds h1 vs H1 G1 g1 d1 => ?_) (fun _ q => q) h)
  have l := d1.len
  refine ⟨by rw [l]; exact Nat.le_trans h1.1 big_line, fun p np => h1.2 _ _ _ (g1.trans (.new g1.vw np)) (.lst upd_same (d1.same (same_new (g1.vw.sub.free np))) h1.1)⟩
/-! and, or, not, if -/
def ofB : D → W Bool
  | .bl b => W.pure b
  | _ => W.fail
theorem ofB_wp {G H : Hp} {x : V} {d : D} {Q : Bool → Prop} {E : ExD → Prop} (hd : Den X.K z G x d) (h : (ofB d).wp Q E) : ∃ b, x = .bl b ∧ d = .bl b ∧ Q b := by
  cases hd with
  | bl b => exact ⟨b, rfl, rfl, h⟩
  | _ => exact h.elim
def iteW {α : Type} (b : Bool) (m n : W α) : W α := match b with
  | true => m
  | false => n
theorem ev_one {op : BoolOp} (ha : EV X J a ma) : EV X J (.BoolOp op [a] pos) ma := by
  obtain ⟨ta, pa, qa⟩ := ha
  exact ⟨_, pe_one pa, qa⟩
theorem ev_and {rest : List Expr} (ha : EV X J a ma) (hb : EV X J (.BoolOp .And (b :: rest) pos) mb) : EV X J (.BoolOp .And (a :: b :: rest) pos) (fun env => W.bind (W.bind (ma env) ofB) fun k => iteW k (mb env) (W.pure (.bl false))) := by
  obtain ⟨ta, pa, qa⟩ := ha
  obtain ⟨tb, pb, qb⟩ := hb
  refine ⟨_, pe_and pa pb, fun σ H G env Q at_ h => ?_⟩
  refine qa σ H G env _ at_ ((ma env).mono (fun d h1 v H1 G1 g1 d1 => ?_) (fun _ q => q) h)
  obtain ⟨k, rfl, rfl, h2⟩ := ofB_wp (H := H) d1 h1
  refine ⟨k, rfl, ?_⟩
  cases k with
  | true => exact qb σ H1 G1 env _ (at_.grow g1) ((mb env).mono (VQ.grow g1) (fun _ q => q) h2)
  | false => exact h2 _ _ _ g1 (.bl false)
theorem ev_or {rest : List Expr} (ha : EV X J a ma) (hb : EV X J (.BoolOp .Or (b :: rest) pos) mb) : EV X J (.BoolOp .Or (a :: b :: rest) pos) (fun env => W.bind (W.bind (ma env) ofB) fun k => iteW k (W.pure (.bl true)) (mb env)) := by
  obtain ⟨ta, pa, qa⟩ := ha
  obtain ⟨tb, pb, qb⟩ := hb
  refine ⟨_, pe_or pa pb, fun σ H G env Q at_ h => ?_⟩
  refine qa σ H G env _ at_ ((ma env).mono (fun d h1 v H1 G1 g1 d1 => ?_) (fun _ q => q) h)
  obtain ⟨k, rfl, rfl, h2⟩ := ofB_wp (H := H) d1 h1
  refine ⟨k, rfl, ?_⟩
  cases k with
  | false => exact qb σ H1 G1 env _ (at_.grow g1) ((mb env).mono (VQ.grow g1) (fun _ q => q) h2)
  | true => exact h2 _ _ _ g1 (.bl true)
theorem ev_not (ha : EV X J a ma) : EV X J (.UnaryOp .Not a pos) (fun env => W.bind (W.bind (ma env) ofB) fun k => W.pure (.bl (!k))) := by
  obtain ⟨ta, pa, qa⟩ := ha
  refine ⟨_, pe_not pa, fun σ H G env Q at_ h => ?_⟩
  refine qa σ H G env _ at_ ((ma env).mono (fun d h1 v H1 G1 g1 d1 => ?_) (fun _ q => q) h)
  obtain ⟨k, rfl, rfl, h2⟩ := ofB_wp (H := H) d1 h1
  exact ⟨k, rfl, h2 _ _ _ g1 (.bl _)⟩
theorem ev_if (hc : TV X J c mt) (ha : EV X J a ma) (hb : EV X J b mb) : EV X J (.IfExp c a b pos) (fun env => W.bind (mt env) fun k => iteW k (ma env) (mb env)) := by
  obtain ⟨tc, pc, qc⟩ := hc
  obtain ⟨ta, pa, qa⟩ := ha
  obtain ⟨tb, pb, qb⟩ := hb
  refine ⟨_, pe_ifExp pc pa pb, fun σ H G env Q at_ h => ?_⟩
  refine qc σ H G env _ at_ ((mt env).mono (fun k h1 H1 G1 g1 => ?_) (fun _ q => q) h)
  cases k with
  | true => exact qa σ H1 G1 env _ (at_.grow g1) ((ma env).mono (VQ.grow g1) (fun _ q => q) h1)
  | false => exact qb σ H1 G1 env _ (at_.grow g1) ((mb env).mono (VQ.grow g1) (fun _ q => q) h1)
/-- a test that is a comparison; any other value's truth -/
theorem tv_cmp {op : CmpOp} {o : D → D → W D} (ho : OpD X J (compareOp op) o) (ha : EV X J a ma) (hb : EV X J b mb) (hm : behindInMarks op b = false := by rfl) : TV X J (.Compare a [op] [b] pos) (fun env => W.bind (W.bind (ma env) fun d => W.bind (mb env) fun e => o d e) ofB) := by
  obtain ⟨ta, pa, qa⟩ := ha
  obtain ⟨tb, pb, qb⟩ := hb
  obtain ⟨r, pr, qr⟩ := ho
  refine ⟨_, pt_cmpR pr pa pb hm, fun σ H G env Q at_ h => ?_⟩
  refine two (Q := fun x H' => ∃ k, x = .bl k ∧ Q k H') qa qb qr at_ (W.mono _ (fun d h1 v H1 G1 g1 d1 => ?_) (fun _ q => q) h)
  obtain ⟨k, rfl, rfl, h2⟩ := ofB_wp (H := H) d1 h1
  exact ⟨k, rfl, h2 _ _ g1⟩
def truD : D → W Bool
  | .non => W.pure false
  | .bl b => W.pure b
  | .int i => W.pure (i != 0)
  | .str l => W.pure (!l.isEmpty)
  | .lst ds => W.pure (!ds.isEmpty)
  | .tup ds => W.pure (!ds.isEmpty)
  | _ => W.fail
theorem truD_wp {G H : Hp} {x : V} {d : D} {Q : Bool → Prop} {E : ExD → Prop} (vw : Vw z G H) (hd : Den X.K z G x d) (h : (truD d).wp Q E) : ∃ k, TruV X.K x H k ∧ Q k := by
  have emp : ∀ {xs : List V} {ds : List D}, Dens X.K z G xs ds → xs.isEmpty = ds.isEmpty := fun r => by cases r <;> rfl
  cases hd with
  | non => exact ⟨false, rfl, h⟩
  | bl b => exact ⟨b, rfl, h⟩
  | int i => exact ⟨_, rfl, h⟩
  | str l h1 h2 =>
    refine ⟨_, ⟨by rw [len_sOf]; exact Nat.le_trans h1 big_line, ?_⟩, h⟩
    rw [len_sOf]
    cases l with
    | nil => rfl
    | cons x r =>
      show true = _
      rw [eq_comm, bne_iff_ne]
      simp
      omega
  | lst q r l => exact ⟨_, .inl ⟨_, SqL.of (vw.sub _ _ q), by rw [emp r]⟩, h⟩
  | tup q r l => exact ⟨_, .inr (.inl ⟨_, (q.to vw.sub), by rw [emp r]⟩), h⟩
  | _ => exact h.elim
theorem tv_val (ha : EV X J a ma) (he : ∀ whole, isTrue a X.env whole = (do let v ← whole; standAt a.pos; holding [v] (truthy v)) := by intro _; rfl) : TV X J a (fun env => W.bind (ma env) truD) := by
  obtain ⟨ta, pa, qa⟩ := ha
  refine ⟨_, pt_truth pa he, fun σ H G env Q at_ h => ?_⟩
  refine qa σ H G env _ at_ ((ma env).mono (fun d h1 v H1 G1 g1 d1 => ?_) (fun _ q => q) h)
  obtain ⟨k, h2, h3⟩ := truD_wp g1.vw d1 h1
  exact ⟨k, h2, h3 _ _ g1⟩
theorem tv_not (hc : TV X J c mt) : TV X J (.UnaryOp .Not c pos) (fun env => W.bind (mt env) fun k => W.pure (!k)) := by
  obtain ⟨tc, pc, qc⟩ := hc
  refine ⟨_, pt_not pc, fun σ H G env Q at_ h => ?_⟩
  exact qc σ H G env _ at_ ((mt env).mono (fun k h1 H1 G1 g1 => h1 H1 G1 g1) (fun _ q => q) h)
/-- and, or as tests -/
def TW (X : Cx) {z : Zk} (J : Jx X.K z) (e : Expr) (m : Ev → W Bool) : Prop :=
  ∃ te, PW X e te ∧ ∀ σ H G env (Q : Bool → Hp → Prop), At X.K z J.G0 J.H0 σ H G env → (m env).wp (fun b => ∀ H' G', Grow z G H G' H' → Q b H') J.xQ → te σ H Q
theorem tw_and1 (ha : TV X J a mt) : TW X J (.BoolOp .And [a] pos) mt := by
  obtain ⟨t, p, q⟩ := ha
  exact ⟨_, pw_and1 p, q⟩
theorem tw_or1 (ha : TV X J a mt) : TW X J (.BoolOp .Or [a] pos) mt := by
  obtain ⟨t, p, q⟩ := ha
  exact ⟨_, pw_or1 p, q⟩
theorem tw_and {rest : List Expr} (ha : TV X J a mt) (hb : TW X J (.BoolOp .And (b :: rest) pos) mt') : TW X J (.BoolOp .And (a :: b :: rest) pos) (fun env => W.bind (mt env) fun k => iteW k (mt' env) (W.pure false)) := by
  obtain ⟨t, p, q⟩ := ha
  obtain ⟨t', p', q'⟩ := hb
  refine ⟨_, pw_and p p', fun σ H G env Q at_ h => ?_⟩
  refine q σ H G env _ at_ ((mt env).mono (fun k h1 H1 G1 g1 => ?_) (fun _ q => q) h)
  cases k with
  | true => exact q' σ H1 G1 env _ (at_.grow g1) ((mt' env).mono (fun b h2 H2 G2 g2 => h2 H2 G2 (g1.trans g2)) (fun _ q => q) h1)
  | false => exact h1 H1 G1 g1
theorem tw_or {rest : List Expr} (ha : TV X J a mt) (hb : TW X J (.BoolOp .Or (b :: rest) pos) mt') : TW X J (.BoolOp .Or (a :: b :: rest) pos) (fun env => W.bind (mt env) fun k => iteW k (W.pure true) (mt' env)) := by
  obtain ⟨t, p, q⟩ := ha
  obtain ⟨t', p', q'⟩ := hb
  refine ⟨_, pw_or p p', fun σ H G env Q at_ h => ?_⟩
  refine q σ H G env _ at_ ((mt env).mono (fun k h1 H1 G1 g1 => ?_) (fun _ q => q) h)
  cases k with
  | false => exact q' σ H1 G1 env _ (at_.grow g1) ((mt' env).mono (fun b h2 H2 G2 g2 => h2 H2 G2 (g1.trans g2)) (fun _ q => q) h1)
  | true => exact h1 H1 G1 g1
theorem TW.tv (h : TW X J c mt) : TV X J c mt := by
  obtain ⟨t, p, q⟩ := h
  exact ⟨_, p.pt, q⟩
/-- a < b < c -/
theorem ev_chain {op op' : CmpOp} {o o' : D → D → W D} (ho : OpD X J (compareOp op) o) (ho' : OpD X J (compareOp op') o') (ha : EV X J a ma) (hb : EV X J b mb) (hc : EV X J c mc) (hm : lastMarks [op, op'] [b, c] = false := by with_unfolding_all rfl) :
    EV X J (.Compare a [op, op'] [b, c] pos) (fun env => W.bind (ma env) fun d => W.bind (mb env) fun e => W.bind (W.bind (o d e) ofB) fun k => iteW k (W.bind (mc env) fun f => o' e f) (W.pure (.bl false))) := by
  obtain ⟨ta, pa, qa⟩ := ha
  obtain ⟨tb, pb, qb⟩ := hb
  obtain ⟨tc, pc, qc⟩ := hc
  obtain ⟨r, pr, qr⟩ := ho
  obtain ⟨r', pr', qr'⟩ := ho'
  refine ⟨_, pe_chain pr pr' pa pb pc hm, fun σ H G env Q at_ h => ?_⟩
  refine qa σ H G env _ at_ ((ma env).mono (fun d h1 v H1 G1 g1 d1 => ?_) (fun _ q => q) h)
  refine qb σ H1 G1 env _ (at_.grow g1) ((mb env).mono (fun e h2 u H2 G2 g2 d2 => ?_) (fun _ q => q) h1)
  refine qr v u d e H2 G2 _ g2.vw (d1.same g2.gg) d2 ((o d e).mono (fun d3 h3 v3 H3 G3 g3 e3 => ?_) (fun _ q => q) h2)
  obtain ⟨k, rfl, rfl, h4⟩ := ofB_wp (H := H) e3 h3
  refine ⟨k, rfl, ?_⟩
  have g13 := g1.trans (g2.trans g3)
  cases k with
  | true =>
    refine qc σ H3 G3 env _ (at_.grow g13) ((mc env).mono (fun f h5 w H4 G4 g4 d4 => ?_) (fun _ q => q) h4)
    exact qr' u w e f H4 G4 _ g4.vw ((d2.same g3.gg).same g4.gg) d4 ((o' e f).mono (VQ.grow (g13.trans g4)) (fun _ q => q) h5)
  | false => exact h4 _ _ _ g13 (.bl false)
/-! slices -/
def OV (X : Cx) {z : Zk} (J : Jx X.K z) (e : Option Expr) (m : Ev → W (Option Int)) : Prop :=
  ∃ te, PO X e te ∧ ∀ σ H G env (Q : Option Int → Hp → Prop), At X.K z J.G0 J.H0 σ H G env → (m env).wp (fun b => ∀ H' G', Grow z G H G' H' → Q b H') J.xQ → te σ H Q
def ofI : D → W (Option Int)
  | .int i => W.pure (some i)
  | _ => W.fail
theorem ov_none : OV X J none (fun _ => W.pure none) := ⟨_, po_none, fun σ H G env Q at_ h => h H G (.refl at_.gr.vw)⟩
theorem ov_some (ha : EV X J a ma) : OV X J (some a) (fun env => W.bind (ma env) ofI) := by
  obtain ⟨ta, pa, qa⟩ := ha
  refine ⟨_, po_some pa, fun σ H G env Q at_ h => ?_⟩
  refine qa σ H G env _ at_ ((ma env).mono (fun d h1 v H1 G1 g1 d1 => ?_) (fun _ q => q) h)
  cases d1 with
  | int i => exact ⟨i, rfl, h1 _ _ g1⟩
  | _ => exact h1.elim
/-- the items of xs[lo:hi] -/
def cutL {α : Type} (xs : List α) (lo hi : Option Int) : List α := (xs.drop (HT.sIx xs.length 0 lo)).take (HT.sIx xs.length xs.length hi - HT.sIx xs.length 0 lo)
theorem cutL_len {α : Type} (xs : List α) (lo hi : Option Int) : (cutL xs lo hi).length ≤ xs.length := by
  unfold cutL
  simp only [List.length_take, List.length_drop]
  omega
theorem cutL_mem {α : Type} {xs : List α} {lo hi : Option Int} {x : α} (h : x ∈ cutL xs lo hi) : x ∈ xs := List.mem_of_mem_drop (List.mem_of_mem_take h)
def slD (lo hi : Option Int) : D → W D
  | .lst ds => W.pure (.lst (cutL ds lo hi))
  | .tup ds => W.pure (.tup (cutL ds lo hi))
  | .str l => W.pure (.str (cutL l lo hi))
  | _ => W.fail
theorem Dens.cut {K : PySem.W.Frag} {G : Hp} {xs : List V} {ds : List D} (h : Dens K z G xs ds) (lo hi : Option Int) : Dens K z G (cutV xs lo hi) (cutL ds lo hi) := by
  unfold cutV cutL
  rw [h.len]
  exact (h.drop _).take _
theorem ev_slice {lo hi : Option Expr} {ml mh : Ev → W (Option Int)} {p2 : Pos} (ha : EV X J a ma) (hl : OV X J lo ml) (hh : OV X J hi mh) : EV X J (.Subscript a (.Slice lo hi none p2) pos) (fun env => W.bind (ma env) fun d => W.bind (ml env) fun l => W.bind (mh env) fun h => slD l h d) := by
  obtain ⟨ta, pa, qa⟩ := ha
  obtain ⟨tl, pl, ql⟩ := hl
  obtain ⟨th, ph, qh⟩ := hh
  refine ⟨_, pe_slice (sl_list.or (sl_tupA.or sl_str)) pa pl ph, fun σ H G env Q at_ h => ?_⟩
  refine qa σ H G env _ at_ ((ma env).mono (fun d h1 v H1 G1 g1 d1 => ?_) (fun _ q => q) h)
  refine ql σ H1 G1 env _ (at_.grow g1) ((ml env).mono (fun l h2 H2 G2 g2 => ?_) (fun _ q => q) h1)
  refine qh σ H2 G2 env _ (at_.grow (g1.trans g2)) ((mh env).mono (fun u h3 H3 G3 g3 => ?_) (fun _ q => q) h2)
  have g13 := g1.trans (g2.trans g3)
  have vw := g3.vw
  replace d1 := d1.same (g2.gg.trans g3.gg)
  cases d1 with
  | lst q r l' =>
    refine .inl ⟨_, _, rfl, SqL.of (vw.sub _ _ q), fun p np => h3 _ _ _ (g13.trans (.new vw np)) (.lst upd_same ((r.cut l u).same (same_new (vw.sub.free np))) (Nat.le_trans (cutL_len _ _ _) l'))⟩
  | tup q r l' =>
    refine .inr (.inl ⟨_, _, rfl, (q.to vw.sub), fun e => ?_, fun _ p np => h3 _ _ _ (g13.trans (.new vw np)) (.tup (.inl upd_same) ((r.cut l u).same (same_new (vw.sub.free np))) (Nat.le_trans (cutL_len _ _ _) l'))⟩)
    refine h3 _ _ _ g13 ?_
    rename_i xs ds
    have ec : cutL ds l u = ds := by
      rw [r.len] at e
      unfold cutL
      rw [e.1, e.2]
      simp
    rw [ec]
    exact .tup q r l'
  | str s h4 h5 =>
    refine .inr (.inr ⟨_, rfl, by rw [len_sOf]; exact Nat.le_trans h4 big_line, ?_⟩)
    have es : cutS (sOf s) l u = sOf (cutL s l u) := by
      unfold cutS cutL
      rw [cps_sOf, len_sOf]
      rfl
    rw [es]
    exact h3 _ _ _ g13 (.str _ (Nat.le_trans (cutL_len _ _ _) h4) fun c hc => h5 c (cutL_mem hc))
  | _ => exact h3.elim
end
end Rg

set_option Elab.async false
set_option linter.all false
set_option maxRecDepth 100000
set_option maxHeartbeats 4500000
/-! the rules by data: statements, targets, what a loop walks -/
namespace Rg
open PySem PySem.Spec PyProof.Rows L2
section
variable {X : Cx} {z : Zk} {J : Jx X.K z} {a b c e tg : Expr} {es : List Expr} {st : Stmt} {ss : List Stmt} {ma mb mc : Ev → W D} {ms : Ev → W (List D)} {mt mt' : Ev → W Bool} {mf mg' : Ev → W Fl} {pos : Pos}
/-! blocks -/
def seqF (m : W Fl) (f : Ev → W Fl) : W Fl := W.bind m fun r => match r with
  | .nx env => f env
  | r => W.pure r
theorem sv_nil : SVs X J [] (fun env => W.pure (.nx env)) := ⟨_, pss_nil, fun σ H G env N at_ h => h σ H G at_ (Same.refl _)⟩
theorem sv_one (h : SV X J st mf) : SVs X J [st] mf := by
  obtain ⟨t, p, q⟩ := h
  exact ⟨_, pss_one p, q⟩
theorem sv_cons (h : SV X J st mf) (hs : SVs X J ss mg') : SVs X J (st :: ss) (fun env => seqF (mf env) mg') := by
  obtain ⟨t, p, q⟩ := h
  obtain ⟨t', p', q'⟩ := hs
  refine ⟨_, pss_cons p p', fun σ H G env N at_ h => ?_⟩
  refine q σ H G env _ at_ ((mf env).mono (fun r h1 => ?_) (fun _ q => q) h)
  cases r with
  | nx env' => exact fun σ' H' G' at' s => q' σ' H' G' env' N at' ((mg' env').mono (FlQ.up s) (fun _ q => q) h1)
  | rt d => exact h1
  | bk env' => exact h1
  | ct env' => exact h1
theorem sv_never : SV X J st (fun _ => W.fail) := ⟨_, ps_never, fun σ H G env N at_ h => h⟩
theorem sv_ret (ha : EV X J a ma) : SV X J (.Return (some a) pos) (fun env => W.bind (ma env) fun d => W.pure (.rt d)) := by
  obtain ⟨t, p, q⟩ := ha
  exact ⟨_, ps_ret p, fun σ H G env N at_ h => q σ H G env _ at_ ((ma env).mono (fun d h1 v H1 G1 g1 d1 => h1 v H1 G1 (at_.gr.trans g1) d1) (fun _ q => q) h)⟩
theorem sv_retN : SV X J (.Return none pos) (fun _ => W.pure (.rt .non)) := ⟨_, ps_retN, fun σ H G env N at_ h => h .non H G at_.gr .non⟩
theorem sv_expr (ha : EV X J a ma) (hs : swapsWith a none pos.line X.env = pure false := by rfl) : SV X J (.Expr a pos) (fun env => W.bind (ma env) fun _ => W.pure (.nx env)) := by
  obtain ⟨t, p, q⟩ := ha
  exact ⟨_, ps_expr p hs, fun σ H G env N at_ h => q σ H G env _ at_ ((ma env).mono (fun d h1 v H1 G1 g1 d1 => h1 σ H1 G1 (at_.grow g1) g1.gg) (fun _ q => q) h)⟩
theorem sv_if {sa sb : List Stmt} (hc : TV X J c mt) (ha : SVs X J sa mf) (hb : SVs X J sb mg') : SV X J (.If c sa sb pos) (fun env => W.bind (mt env) fun k => iteW k (mf env) (mg' env)) := by
  obtain ⟨tc, pc, qc⟩ := hc
  obtain ⟨ta, pa, qa⟩ := ha
  obtain ⟨tb, pb, qb⟩ := hb
  refine ⟨_, ps_if pc pa pb, fun σ H G env N at_ h => ?_⟩
  refine qc σ H G env _ at_ ((mt env).mono (fun k h1 H1 G1 g1 => ?_) (fun _ q => q) h)
  cases k with
  | true => exact qa σ H1 G1 env _ (at_.grow g1) ((mf env).mono (FlQ.up g1.gg) (fun _ q => q) h1)
  | false => exact qb σ H1 G1 env _ (at_.grow g1) ((mg' env).mono (FlQ.up g1.gg) (fun _ q => q) h1)
theorem sv_break : SV X J (.Break pos) (fun env => W.pure (.bk env)) := ⟨_, ps_break, fun σ H G env N at_ h => h σ H G at_ (Same.refl _)⟩
theorem sv_cont : SV X J (.Continue pos) (fun env => W.pure (.ct env)) := ⟨_, ps_continue, fun σ H G env N at_ h => h σ H G at_ (Same.refl _)⟩
theorem sv_set (i : Nat) {x : Str} {p' : Pos} (hN : X.N.Nodup) (hi : X.N[i]? = some x) (hx : Loc X.env.scope x) (ha : EV X J a ma) (hs : swapsWith a (some (.Name x p')) pos.line X.env = pure false := by rfl) (hf : X.fn x = true ∨ X.env.scope.names.lookup x = some .local := by first | exact .inl rfl | exact .inr rfl) :
    SV X J (.Assign [.Name x p'] a pos) (fun env => W.bind (ma env) fun d => W.pure (.nx (env.set i (some d)))) := by
  obtain ⟨t, p, q⟩ := ha
  exact ⟨_, ps_set hN hi hx p hs hf, fun σ H G env N at_ h => q σ H G env _ at_ ((ma env).mono (fun d h1 v H1 G1 g1 d1 => h1 _ H1 G1 ((at_.grow g1).set i d1) g1.gg) (fun _ q => q) h)⟩
/-! targets -/
/-- the slots agree but at js -/
def Ago (js : List Nat) (σ σ' : L2.St) : Prop := σ'.length = σ.length ∧ ∀ j, j ∉ js → σ'[j]? = σ[j]?
def GV (X : Cx) {z : Zk} (J : Jx X.K z) (tg : Expr) (js : List Nat) (f : D → Ev → W Ev) : Prop :=
  ∃ g, PG X tg g ∧ ∀ v d σ H G env (R : L2.St → Hp → Prop), At X.K z J.G0 J.H0 σ H G env → Den X.K z G v d → (f d env).wp (fun env' => ∀ σ', Ago js σ σ' → At X.K z J.G0 J.H0 σ' H G env' → R σ' H) (fun _ => False) → g v σ H R
def GVs (X : Cx) {z : Zk} (J : Jx X.K z) (tg : List Expr) (js : List Nat) (f : List D → Ev → W Ev) : Prop :=
  ∃ g, PGs X tg g ∧ ∀ v d σ H G env (R : L2.St → Hp → Prop), At X.K z J.G0 J.H0 σ H G env → Dens X.K z G v d → (f d env).wp (fun env' => ∀ σ', Ago js σ σ' → At X.K z J.G0 J.H0 σ' H G env' → R σ' H) (fun _ => False) → g v σ H R
def gNilW (ds : List D) (env : Ev) : W Ev := match ds with
  | [] => W.pure env
  | _ => W.fail
def gConsW (f : D → Ev → W Ev) (g : List D → Ev → W Ev) (ds : List D) (env : Ev) : W Ev := match ds with
  | d :: r => W.bind (f d env) (g r)
  | [] => W.fail
theorem gv_name (i : Nat) {x : Str} (hN : X.N.Nodup) (hi : X.N[i]? = some x) (hx : Loc X.env.scope x) (hf : X.fn x = true ∨ X.env.scope.names.lookup x = some .local := by first | exact .inl rfl | exact .inr rfl) : GV X J (.Name x pos) [i] (fun d env => W.pure (env.set i (some d))) :=
  ⟨_, pg_name hN hi hx hf, fun v d σ H G env R at_ dv h => h _ ⟨List.length_set, fun j hj => List.getElem?_set_ne (fun e => hj (by rw [e]; exact List.mem_singleton.mpr rfl))⟩ (at_.set i dv)⟩
theorem gvs_nil : GVs X J [] [] gNilW := by
  refine ⟨_, pgs_nil, fun v d σ H G env R at_ dv h => ?_⟩
  cases dv with
  | nil => exact ⟨rfl, h _ ⟨rfl, fun _ _ => rfl⟩ at_⟩
  | cons _ _ => exact h.elim
theorem gvs_cons {j1 j2 : List Nat} {f : D → Ev → W Ev} {g : List D → Ev → W Ev} (h1 : GV X J a j1 f) (h2 : GVs X J es j2 g) (hs : (assignEach (a :: es) X.env).map (·.2) = assign a X.env :: (assignEach es X.env).map (·.2) := by rfl) :
    GVs X J (a :: es) (j1 ++ j2) (gConsW f g) := by
  obtain ⟨g1, p1, q1⟩ := h1
  obtain ⟨g2, p2, q2⟩ := h2
  refine ⟨_, pgs_cons p1 p2 hs, fun v d σ H G env R at_ dv h => ?_⟩
  cases dv with
  | nil => exact h.elim
  | @cons v1 vs d1 ds a1 a2 =>
    refine ⟨v1, vs, rfl, q1 v1 d1 σ H G env _ at_ a1 ((f d1 env).mono (fun env1 h1 σ1 ag1 at1 => ?_) (fun _ q => q) h)⟩
    refine q2 vs ds σ1 H G env1 R at1 a2 ((g ds env1).mono (fun env2 h2 σ2 ag2 at2 => h2 σ2 ⟨ag2.1.trans ag1.1, fun j hj => ?_⟩ at2) (fun _ q => q) h1)
    rw [List.mem_append, not_or] at hj
    exact (ag2.2 j hj.2).trans (ag1.2 j hj.1)
def tupOf : D → W (List D)
  | .tup ds => W.pure ds
  | _ => W.fail
def gTupW (n : Nat) (g : List D → Ev → W Ev) (d : D) (env : Ev) : W Ev := W.bind (tupOf d) fun ds => W.bind (W.need (ds.length = n)) fun _ => g ds env
theorem gv_tup {k n : Nat} {js : List Nat} {g : List D → Ev → W Ev} (hc : X.calm = true) (h : GVs X J es js g) (hn : (assignEach es X.env).length = n := by rfl) (hst : (assignEach es X.env).findIdx? (·.1) = none := by rfl) :
    GV X J (.Tuple es k pos) js (gTupW n g) := by
  obtain ⟨g1, p1, q1⟩ := h
  refine ⟨_, pg_tup hc p1 hn hst, fun v d σ H G env R at_ dv h => ?_⟩
  cases dv with
  | tup q r l => exact ⟨_, _, rfl, q.to at_.gr.vw.sub, by rw [r.len]; exact h.1, q1 _ _ σ H G env R at_ r h.2⟩
  | _ => exact h.elim
/-- target = value -/
theorem sv_asg {js : List Nat} {f : D → Ev → W Ev} (ha : EV X J a ma) (hg : GV X J tg js f) (hs : swapsWithSole [tg] a pos.line X.env = pure false := by rfl) (hw : swappedStores [tg] a X.env = pure none := by rfl)
    (h1 : (assignEach [tg] X.env).map (·.2) = [assign tg X.env] := by rfl) :
    SV X J (.Assign [tg] a pos) (fun env => W.bind (ma env) fun d => W.bind (W.noX (f d env)) fun env' => W.pure (.nx env')) := by
  obtain ⟨t, p, q⟩ := ha
  obtain ⟨g, p2, q2⟩ := hg
  refine ⟨_, ps_asg p p2 hs hw h1, fun σ H G env N at_ h => q σ H G env _ at_ ((ma env).mono (fun d h1 v H1 G1 g1 d1 => ?_) (fun _ q => q) h)⟩
  exact q2 v d σ H1 G1 env _ (at_.grow g1) d1 ((f d env).mono (fun env' h2 σ' _ at' => h2 σ' H1 G1 at' g1.gg) (fun _ z => z) h1)
def parW (i j : Nat) (env : Ev) (ds : List D) : W Fl := match ds with
  | [d, e] => W.pure (.nx ((env.set i (some d)).set j (some e)))
  | _ => W.fail
theorem sv_par (i j : Nat) {x y : Str} {px py pt pt2 : Pos} {kt k2 : Nat} (hc : X.calm = true) (hN : X.N.Nodup) (hi : X.N[i]? = some x) (hj : X.N[j]? = some y) (hij : i ≠ j) (hx : X.env.scope.names.lookup x = some .local) (hy : X.env.scope.names.lookup y = some .local)
    (ha : AV X J [a, b] ms) (hw : swappedStores [.Tuple [.Name x px, .Name y py] kt pt] (.Tuple [a, b] k2 pt2) X.env = pure (some [x, y]) := by rfl) (hs : swapsWithSole [.Tuple [.Name x px, .Name y py] kt pt] (.Tuple [a, b] k2 pt2) pos.line X.env = pure false := by rfl) :
    SV X J (.Assign [.Tuple [.Name x px, .Name y py] kt pt] (.Tuple [a, b] k2 pt2) pos) (fun env => W.bind (ms env) (parW i j env)) := by
  obtain ⟨t, p, q⟩ := ha
  refine ⟨_, ps_par hc hN hi hj hij hx hy p hw hs, fun σ H G env N at_ h => q σ H G env _ at_ ((ms env).mono (fun ds h1 vs H1 G1 g1 d1 => ?_) (fun _ q => q) h)⟩
  cases d1 with
  | nil => exact h1.elim
  | cons a1 r =>
    cases r with
    | nil => exact h1.elim
    | cons a2 r =>
      cases r with
      | nil => exact ⟨_, _, rfl, h1 _ H1 G1 (((at_.grow g1).set i a1).set j a2) g1.gg⟩
      | cons _ _ => exact h1.elim
end
end Rg

set_option Elab.async false
set_option linter.all false
set_option maxRecDepth 100000
set_option maxHeartbeats 4500000
/-! the rules by data: what a loop walks, comprehensions, for -/
namespace Rg
open PySem PySem.Spec PyProof.Rows L2
section
variable {X : Cx} {z : Zk} {J : Jx X.K z} {a b c e tg : Expr} {es : List Expr} {st : Stmt} {ss : List Stmt} {ma mb mc : Ev → W D} {ms : Ev → W (List D)} {mt mt' : Ev → W Bool} {mf mg' : Ev → W Fl} {pos : Pos}
/-- the iterator gives the data ds, one by one -/
structure WalkD (K : PySem.W.Frag) (z : Zk) (I : It) (ds : List D) (G : Hp) : Prop where
  len : ds.length ≤ big
  goes : ∀ i H G', Same G G' → Vw z G' H → i < ds.length → I.go i H
  stops : ∀ H G', Same G G' → Vw z G' H → I.stop ds.length H
  yields : ∀ i H G' x H', Same G G' → Vw z G' H → I.yld i H x H' → i < ds.length → ∃ G'' d, Grow z G' H G'' H' ∧ ds[i]? = some d ∧ Den K z G'' x d
def IV (X : Cx) {z : Zk} (J : Jx X.K z) (tg e : Expr) (m : Ev → W (List D)) : Prop :=
  ∃ wi, PI X tg e wi ∧ ∀ σ H G env (R : It → Hp → Prop), At X.K z J.G0 J.H0 σ H G env → (m env).wp (fun ds => ∀ I H' G', Grow z G H G' H' → WalkD X.K z I ds G' → R I H') J.xQ → wi σ H R
theorem wd_list {K : PySem.W.Frag} {G : Hp} {p : Addr} {xs : List V} {ds : List D} (h : G p = some (.lst xs)) (d : Dens K z G xs ds) (lb : ds.length ≤ big) : WalkD K z (Itl K p) ds G := by
  have l := d.len
  refine ⟨lb, fun i H G' s vw hi => ⟨xs, xs[i]'(by omega), SqL.of (vw.sub _ _ (s _ _ h)), List.getElem?_eq_getElem _⟩, fun H G' s vw => ⟨xs, SqL.of (vw.sub _ _ (s _ _ h)), by omega⟩, fun i H G' x H' s vw y hi => ?_⟩
  obtain ⟨rfl, y⟩ := y
  obtain ⟨e, h1, h2⟩ := d.at (y xs (SqL.of (vw.sub _ _ (s _ _ h))))
  exact ⟨G', e, .refl vw, h1, h2.same s⟩
theorem wd_tup {K : PySem.W.Frag} {G : Hp} {p : Addr} {xs : List V} {ds : List D} (h : SqU K G p xs) (d : Dens K z G xs ds) (lb : ds.length ≤ big) : WalkD K z (Itt K p) ds G := by
  have l := d.len
  have up : ∀ {H G' : Hp}, Same G G' → Vw z G' H → SqT K H p xs := fun s vw => h.to (s.trans vw.sub)
  refine ⟨lb, fun i H G' s vw hi => ⟨xs, xs[i]'(by omega), up s vw, List.getElem?_eq_getElem _⟩, fun H G' s vw => ⟨xs, up s vw, by omega⟩, fun i H G' x H' s vw y hi => ?_⟩
  obtain ⟨rfl, y⟩ := y
  obtain ⟨e, h1, h2⟩ := d.at (y xs (up s vw))
  exact ⟨G', e, .refl vw, h1, h2.same s⟩
def signs (l : List Nat) : List D := l.map fun c => .str [c]
theorem wd_str {K : PySem.W.Frag} {G : Hp} {l : List Nat} (lb : l.length ≤ big) (h : ∀ c ∈ l, c < 1114112) : WalkD K z (Its (sOf l)) (signs l) G := by
  have sz : (sOf l).cps.size = l.length := by
    show l.toArray.size = _
    simp
  refine ⟨by unfold signs; rw [List.length_map]; exact lb, fun i H G' s vw hi => ?_, fun H G' s vw => ?_, fun i H G' x H' s vw y hi => ?_⟩
  · show i < _
    rw [sz]
    simpa [signs] using hi
  · show _ ≤ _
    rw [sz]
    simp [signs]
  · obtain ⟨rfl, c, h1, rfl⟩ := y
    have h2 : l[i]? = some c := by
      have e : (sOf l).cps = l.toArray := rfl
      rw [e] at h1
      simpa using h1
    refine ⟨G', .str [c], .refl vw, ?_, .str [c] (show 1 ≤ big by decide) fun y hy => ?_⟩
    · unfold signs
      rw [List.getElem?_map, h2]
      rfl
    · obtain rfl := List.mem_singleton.mp hy
      exact h y (List.mem_of_getElem? h2)
def irange (lo : Int) (n : Nat) : List D := (List.range n).map fun i => .int (lo + (i : Nat))
theorem wd_rng {K : PySem.W.Frag} {G : Hp} {lo : Int} {n : Nat} (hn : n ≤ big) : WalkD K z (Itr lo n) (irange lo n) G := by
  refine ⟨by unfold irange; rw [List.length_map, List.length_range]; exact hn, fun i H G' s vw hi => ?_, fun H G' s vw => ?_, fun i H G' x H' s vw y hi => ?_⟩
  · show i < n
    simpa [irange] using hi
  · show n ≤ _
    simp [irange]
  · obtain ⟨rfl, rfl⟩ := y
    have hi' : i < n := by simpa [irange] using hi
    refine ⟨G', _, .refl vw, ?_, .int _⟩
    unfold irange
    rw [List.getElem?_map, List.getElem?_range hi']
    rfl
/-- what a list, a tuple, a text walks -/
def seqOf : D → W (List D)
  | .lst ds => W.pure ds
  | .tup ds => W.pure ds
  | .str l => W.pure (signs l)
  | _ => W.fail
theorem iv_seq (ha : EV X J a ma) : IV X J tg a (fun env => W.bind (ma env) seqOf) := by
  obtain ⟨t, p, q⟩ := ha
  refine ⟨fun σ H R => t σ H fun x H1 => (∃ p xs, x = .ref p ∧ SqL X.K H1 p xs ∧ R (Itl X.K p) H1) ∨ (∃ p xs, x = .ref p ∧ SqT X.K H1 p xs ∧ R (Itt X.K p) H1) ∨ ∃ y, x = .str y ∧ R (Its y) H1, ⟨fun pins s σ H R I h => ?_⟩, fun σ H G env R at_ h => ?_⟩
  · refine thn (p.run pins s σ H _ I h) fun v s1 h1 => ?_
    obtain ⟨x, H1, I1, r1, c⟩ := h1
    rcases c with ⟨q, xs, rfl, hq, k⟩ | ⟨q, xs, rfl, hq, k⟩ | ⟨y, rfl, k⟩
    · cases r1
      obtain ⟨its, _, pl, _⟩ := I1.list hq
      exact wpAny_pyIter_list pl.isList (pi_one (tk := s1.toks) I1 _ (turn_list q _) ⟨_, Heap.get?_push_size _ rfl, rfl, rfl⟩ k)
    · cases r1
      obtain ⟨its, _, pl, _⟩ := I1.tuple hq
      exact wpAny_pyIter_tuple (show s1.heap.IsTuple q its.toArray from pl) (pi_one (tk := s1.toks) I1 _ (turn_tuple q _) ⟨_, Heap.get?_push_size _ rfl, rfl, rfl⟩ k)
    · obtain ⟨tk, rfl⟩ := r1
      cases hw : y.cps.all (· < 128) with
      | false => exact wpAny_pyIter_wide hw (pi_one (tk := s1.toks) I1 _ (turn_str _ y tk "str_iterator" (.inr rfl)) ⟨_, Heap.get?_push_size _ rfl, rfl, rfl⟩ k)
      | true => exact wpAny_pyIter_ascii hw (pi_one (tk := s1.toks) I1 _ (turn_str _ y tk "str_ascii_iterator" (.inl rfl)) ⟨_, Heap.get?_push_size _ rfl, rfl, rfl⟩ k)
  · refine q σ H G env _ at_ ((ma env).mono (fun d h1 v H1 G1 g1 d1 => ?_) (fun _ q => q) h)
    cases d1 with
    | lst q r l => exact .inl ⟨_, _, rfl, SqL.of (g1.vw.sub _ _ q), h1 _ _ _ g1 (wd_list q r l)⟩
    | tup q r l => exact .inr (.inl ⟨_, _, rfl, (q.to g1.vw.sub), h1 _ _ _ g1 (wd_tup q r l)⟩)
    | str l h2 h3 => exact .inr (.inr ⟨_, rfl, h1 _ _ _ g1 (wd_str h2 h3)⟩)
    | _ => exact h1.elim
def int1 : D → W Int
  | .int i => W.pure i
  | _ => W.fail
theorem int1_wp {K : PySem.W.Frag} {G : Hp} {v : V} {d : D} {Q : Int → Prop} {E : ExD → Prop} (h : Den K z G v d) (q : (int1 d).wp Q E) : ∃ i, v = .int i ∧ Q i := by
  cases h with
  | int i => exact ⟨i, rfl, q⟩
  | _ => exact q.elim
def one1 {α : Type} (f : D → W α) : List D → W α
  | [d] => f d
  | _ => W.fail
def two2 {α : Type} (f : D → D → W α) : List D → W α
  | [d, e] => f d e
  | _ => W.fail
theorem one1_wp {α : Type} {K : PySem.W.Frag} {G : Hp} {vs : List V} {ds : List D} {f : D → W α} {Q : α → Prop} {E : ExD → Prop} (h : Dens K z G vs ds) (q : (one1 f ds).wp Q E) : ∃ v d, vs = [v] ∧ ds = [d] ∧ Den K z G v d ∧ (f d).wp Q E := by
  cases h with
  | nil => exact q.elim
  | cons a r =>
    cases r with
    | nil => exact ⟨_, _, rfl, rfl, a, q⟩
    | cons _ _ => exact q.elim
theorem two2_wp {α : Type} {K : PySem.W.Frag} {G : Hp} {vs : List V} {ds : List D} {f : D → D → W α} {Q : α → Prop} {E : ExD → Prop} (h : Dens K z G vs ds) (q : (two2 f ds).wp Q E) : ∃ v w d e, vs = [v, w] ∧ ds = [d, e] ∧ Den K z G v d ∧ Den K z G w e ∧ (f d e).wp Q E := by
  cases h with
  | nil => exact q.elim
  | cons a r =>
    cases r with
    | nil => exact q.elim
    | cons b r =>
      cases r with
      | nil => exact ⟨_, _, _, _, rfl, rfl, a, b, q⟩
      | cons _ _ => exact q.elim
def rng1 : List D → W (List D) := one1 fun d => W.bind (int1 d) fun j => W.bind (W.need (-(big : Nat) ≤ j ∧ j ≤ (big : Nat))) fun _ => W.pure (irange 0 j.toNat)
def rng2 : List D → W (List D) := two2 fun c d => W.bind (int1 c) fun i => W.bind (int1 d) fun j => W.bind (W.need (-(big : Nat) ≤ i ∧ i ≤ (big : Nat) ∧ -(big : Nat) ≤ j ∧ j ≤ (big : Nat) ∧ j - i ≤ (big : Nat))) fun _ => W.pure (irange i (j - i).toNat)
theorem big62 : ((big : Nat) : Int) < 2 ^ 62 := by decide
theorem iv_range1 {p : Pos} (hg : Gl X "range") (hm : X.mg "range" = none) (ha : AV X J [a] ms) (hs : starEach [a] X.env = [(false, eval a X.env)] := by rfl) : IV X J tg (.Call (.Name "range" p) [a] [] pos) (fun env => W.bind (ms env) rng1) := by
  obtain ⟨t, p, q⟩ := ha
  refine ⟨_, pi_range1 hg hm p hs, fun σ H G env R at_ h => ?_⟩
  refine q σ H G env _ at_ ((ms env).mono (fun d h1 v H1 G1 g1 d1 => ?_) (fun _ q => q) h)
  obtain ⟨v, d, rfl, rfl, a1, h1⟩ := one1_wp d1 h1
  obtain ⟨j, rfl, ⟨h2, h3⟩, h4⟩ := int1_wp a1 h1
  have := big62
  exact ⟨j, rfl, by omega, by omega, h4 _ _ _ g1 (wd_rng (by omega))⟩
theorem iv_range2 {p : Pos} (hg : Gl X "range") (hm : X.mg "range" = none) (ha : AV X J [a, b] ms) (hs : starEach [a, b] X.env = [(false, eval a X.env), (false, eval b X.env)] := by rfl) (hs2 : starEach [b] X.env = [(false, eval b X.env)] := by rfl) : IV X J tg (.Call (.Name "range" p) [a, b] [] pos) (fun env => W.bind (ms env) rng2) := by
  obtain ⟨t, p, q⟩ := ha
  refine ⟨_, pi_range2 hg hm p hs hs2, fun σ H G env R at_ h => ?_⟩
  refine q σ H G env _ at_ ((ms env).mono (fun d h1 v H1 G1 g1 d1 => ?_) (fun _ q => q) h)
  obtain ⟨v, w, d, e, rfl, rfl, a1, a2, h1⟩ := two2_wp d1 h1
  obtain ⟨i, rfl, h1⟩ := int1_wp a1 h1
  obtain ⟨j, rfl, ⟨h2, h3, h5, h6, h7⟩, h4⟩ := int1_wp a2 h1
  have := big62
  exact ⟨i, j, rfl, ⟨by omega, by omega, by omega, by omega⟩, h4 _ _ _ g1 (wd_rng (by omega))⟩
/-- enumerate of a list -/
def lstOf : D → W (List D)
  | .lst ds => W.pure ds
  | _ => W.fail
def enumD (k : Nat) : List D → List D
  | [] => []
  | d :: r => .tup [.int (k : Nat), d] :: enumD (k + 1) r
theorem enumD_len : ∀ (ds : List D) (k : Nat), (enumD k ds).length = ds.length
  | [], _ => rfl
  | _ :: r, k => congrArg (· + 1) (enumD_len r (k + 1))
theorem enumD_get : ∀ {ds : List D} {k i : Nat} {d : D}, ds[i]? = some d → (enumD k ds)[i]? = some (.tup [.int ((k + i : Nat) : Int), d])
  | _ :: _, k, 0, d, h => by
    cases h
    rfl
  | _ :: r, k, i + 1, d, h => by
    have := enumD_get (k := k + 1) (i := i) (ds := r) h
    show (enumD (k + 1) r)[i]? = _
    rw [this, Nat.add_right_comm, Nat.add_assoc]
theorem wd_enum {K : PySem.W.Frag} {G : Hp} {p : Addr} {xs : List V} {ds : List D} (h : G p = some (.lst xs)) (d : Dens K z G xs ds) (lb : ds.length ≤ big) : WalkD K z (Ite K p) (enumD 0 ds) G := by
  have l := d.len
  refine ⟨by rw [enumD_len]; exact lb, fun i H G' s vw hi => ?_, fun H G' s vw => ?_, fun i H G' x H' s vw y hi => ?_⟩
  · rw [enumD_len] at hi
    exact ⟨xs, xs[i]'(by omega), SqL.of (vw.sub _ _ (s _ _ h)), List.getElem?_eq_getElem _⟩
  · exact ⟨xs, SqL.of (vw.sub _ _ (s _ _ h)), by rw [enumD_len]; omega⟩
  · obtain ⟨T, u, rfl, nT, rfl, hy⟩ := y
    obtain ⟨e, h1, h2⟩ := d.at (hy xs (SqL.of (vw.sub _ _ (s _ _ h))))
    have h3 := enumD_get (k := 0) h1
    rw [Nat.zero_add] at h3
    exact ⟨_, _, .new vw nT, h3, .tup (.inl upd_same) (.cons (.int _) (.cons ((h2.same s).same (same_new (vw.sub.free nT))) .nil)) (show 2 ≤ big by decide)⟩
theorem iv_enum {p tpos : Pos} {kk : Nat} (hg : Gl X "enumerate") (hm : X.mg "enumerate" = none) (ha : AV X J [a] ms) (hs : starEach [a] X.env = [(false, eval a X.env)] := by rfl) :
    IV X J (.Tuple es kk tpos) (.Call (.Name "enumerate" p) [a] [] pos) (fun env => W.bind (W.bind (ms env) (one1 lstOf)) fun ds => W.pure (enumD 0 ds)) := by
  obtain ⟨t, p, q⟩ := ha
  refine ⟨_, pi_enum hg hm p hs, fun σ H G env R at_ h => ?_⟩
  refine q σ H G env _ at_ ((ms env).mono (fun d h1 v H1 G1 g1 d1 => ?_) (fun _ q => q) h)
  obtain ⟨v, d, rfl, rfl, a1, h1⟩ := one1_wp d1 h1
  cases a1 with
  | lst q r l => exact ⟨_, _, rfl, SqL.of (g1.vw.sub _ _ q), h1 _ _ _ g1 (wd_enum q r l)⟩
  | _ => exact h1.elim
/-- zip of two lists or two tuples -/
def zipD : List D → List D → List D
  | x :: xs, y :: ys => .tup [x, y] :: zipD xs ys
  | _, _ => []
theorem zipD_len : ∀ xs ys : List D, (zipD xs ys).length = min xs.length ys.length
  | [], _ => by simp [zipD]
  | _ :: _, [] => by simp [zipD]
  | _ :: xs, _ :: ys => by
    show (zipD xs ys).length + 1 = _
    rw [zipD_len xs ys, List.length_cons, List.length_cons, Nat.add_min_add_right]
theorem zipD_get : ∀ {xs ys : List D} {i : Nat} {d e : D}, xs[i]? = some d → ys[i]? = some e → (zipD xs ys)[i]? = some (.tup [d, e])
  | _ :: _, _ :: _, 0, d, e, h, g => by
    cases h
    cases g
    rfl
  | _ :: xs, _ :: ys, i + 1, d, e, h, g => zipD_get (xs := xs) (ys := ys) (i := i) h g
theorem wd_zip {K : PySem.W.Frag} {G : Hp} {p p' : Addr} {xs ys : List V} {ds es : List D} (h : G p = some (.lst xs)) (d : Dens K z G xs ds) (h' : G p' = some (.lst ys)) (d' : Dens K z G ys es) (lb : ds.length ≤ big) : WalkD K z (Itz K p p') (zipD ds es) G := by
  have l := d.len
  have l' := d'.len
  have up : ∀ {H G' : Hp}, Same G G' → Vw z G' H → SqL K H p xs ∧ SqL K H p' ys := fun s vw => ⟨SqL.of (vw.sub _ _ (s _ _ h)), SqL.of (vw.sub _ _ (s _ _ h'))⟩
  refine ⟨by rw [zipD_len]; omega, fun i H G' s vw hi => ?_, fun H G' s vw => ?_, fun i H G' x H' s vw y hi => ?_⟩
  · rw [zipD_len] at hi
    exact ⟨xs, ys, xs[i]'(by omega), ys[i]'(by omega), (up s vw).1, (up s vw).2, List.getElem?_eq_getElem _, List.getElem?_eq_getElem _⟩
  · exact ⟨xs, ys, (up s vw).1, (up s vw).2, by rw [zipD_len]; omega⟩
  · obtain ⟨T, u, w, rfl, nT, rfl, h1, h2⟩ := y
    obtain ⟨e1, f1, f2⟩ := d.at (h1 xs (up s vw).1)
    obtain ⟨e2, f3, f4⟩ := d'.at (h2 ys (up s vw).2)
    have sn := same_new (o := .tup [u, w]) (vw.sub.free nT)
    exact ⟨_, _, .new vw nT, zipD_get f1 f3, .tup (.inl upd_same) (.cons ((f2.same s).same sn) (.cons ((f4.same s).same sn) .nil)) (show 2 ≤ big by decide)⟩
theorem wd_zipT {K : PySem.W.Frag} {G : Hp} {p p' : Addr} {xs ys : List V} {ds es : List D} (h : SqU K G p xs) (d : Dens K z G xs ds) (h' : SqU K G p' ys) (d' : Dens K z G ys es) (lb : ds.length ≤ big) : WalkD K z (RZ.ItzT K p p') (zipD ds es) G := by
  have l := d.len
  have l' := d'.len
  have up : ∀ {H G' : Hp}, Same G G' → Vw z G' H → SqT K H p xs ∧ SqT K H p' ys := fun s vw => ⟨h.to (s.trans vw.sub), h'.to (s.trans vw.sub)⟩
  refine ⟨by rw [zipD_len]; omega, fun i H G' s vw hi => ?_, fun H G' s vw => ?_, fun i H G' x H' s vw y hi => ?_⟩
  · rw [zipD_len] at hi
    exact ⟨xs, ys, xs[i]'(by omega), ys[i]'(by omega), (up s vw).1, (up s vw).2, List.getElem?_eq_getElem _, List.getElem?_eq_getElem _⟩
  · exact ⟨xs, ys, (up s vw).1, (up s vw).2, by rw [zipD_len]; omega⟩
  · obtain ⟨T, u, w, rfl, nT, rfl, h1, h2⟩ := y
    obtain ⟨e1, f1, f2⟩ := d.at (h1 xs (up s vw).1)
    obtain ⟨e2, f3, f4⟩ := d'.at (h2 ys (up s vw).2)
    have sn := same_new (o := .tup [u, w]) (vw.sub.free nT)
    exact ⟨_, _, .new vw nT, zipD_get f1 f3, .tup (.inl upd_same) (.cons ((f2.same s).same sn) (.cons ((f4.same s).same sn) .nil)) (show 2 ≤ big by decide)⟩
def zipTwo : D → D → W (List D)
  | .lst a, .lst b => W.pure (zipD a b)
  | .tup a, .tup b => W.pure (zipD a b)
  | _, _ => W.fail
def zip2 : List D → W (List D) := two2 zipTwo
theorem iv_zip {p tpos : Pos} {kk : Nat} (hg : Gl X "zip") (hm : X.mg "zip" = none) (ha : AV X J [a, b] ms) (hs : starEach [a, b] X.env = (false, eval a X.env) :: starEach [b] X.env := by rfl) (hpl : (backTo pos (starEach [b] X.env)).any (·.1) = false := by rfl) :
    IV X J (.Tuple es kk tpos) (.Call (.Name "zip" p) [a, b] [] pos) (fun env => W.bind (ms env) zip2) := by
  obtain ⟨t, p, q⟩ := ha
  refine ⟨_, RZ.pi_zipA hg hm p hs hpl, fun σ H G env R at_ h => ?_⟩
  refine q σ H G env _ at_ ((ms env).mono (fun d h1 v H1 G1 g1 d1 => ?_) (fun _ q => q) h)
  obtain ⟨v, w, d, e, rfl, rfl, a1, a2, h1⟩ := two2_wp d1 h1
  cases a1 with
  | lst q r l =>
    cases a2 with
    | lst q' r' l' => exact ⟨_, _, _, _, rfl, .inl ⟨SqL.of (g1.vw.sub _ _ q), SqL.of (g1.vw.sub _ _ q'), h1 _ _ _ g1 (wd_zip q r q' r' l)⟩⟩
    | _ => exact h1.elim
  | tup q r l =>
    cases a2 with
    | tup q' r' l' => exact ⟨_, _, _, _, rfl, .inr ⟨(q.to g1.vw.sub), (q'.to g1.vw.sub), h1 _ _ _ g1 (wd_zipT q r q' r' l)⟩⟩
    | _ => exact h1.elim
  | _ => exact h1.elim
end
end Rg

set_option Elab.async false
set_option linter.all false
set_option maxRecDepth 100000
set_option maxHeartbeats 4500000
/-! the rules by data: comprehensions, for -/
namespace Rg
open PySem PySem.Spec PyProof.Rows L2
section
variable {z : Zk} {G H G1 H1 : Hp} {p : Addr} {o : HO}
/-- an object that is not shown is changed -/
theorem Tabs.put {T : List (Addr × Str)} {o1 : HO} (h : LamX.Tabs T H) (hp : H p = some o1) (n1 : ∀ q, o1 ≠ LamX.CodeO p q) (n2 : ∀ ps, o1 ≠ .tbl ps) : LamX.Tabs T (upd H p o) := fun q hq => by
  obtain ⟨ps, h1, h2, h3⟩ := h q hq
  refine ⟨ps, ?_, h2, fun pos cv hc => ?_⟩
  · rw [upd_ne (fun e => by rw [e, hp] at h1; exact n2 ps (Option.some.inj h1))]
    exact h1
  · obtain ⟨c, rfl, h4⟩ := h3 pos cv hc
    refine ⟨c, rfl, ?_⟩
    rw [upd_ne (fun e => by subst e; rw [hp] at h4; exact n1 _ (Option.some.inj h4))]
    exact h4
theorem Grow.put {o1 : HO} (g : Grow z G1 H1 G H) (v : Vw z G1 H1) (np : H1 p = none) (gp : G p = none) (hp : H p = some o1) (m1 : ∀ q, o1 ≠ LamX.CodeO p q) (m2 : ∀ ps, o1 ≠ .tbl ps) : Grow z G1 H1 G (upd H p o) := by
  refine ⟨fun a u n h => ?_, g.gg, g.ap, ⟨fun a u h => ?_, fun B L q => ?_, ⟨Tabs.put g.vw.tab.1 hp m1 m2, g.vw.tab.2⟩⟩⟩
  · rw [upd_ne (ne_of_none h np)]
    exact g.fr a u n h
  · rw [upd_ne (ne_of_none h gp)]
    exact g.vw.sub a u h
  · obtain ⟨h1, h2, h3⟩ := g.vw.bag B L q
    obtain ⟨n1, n2⟩ := v.ne np q
    exact ⟨h1.upd n1 n2, h2, h3⟩
/-- it is shown from now on -/
theorem Grow.shown (g : Grow z G1 H1 G H) (v : Vw z G1 H1) (np : H1 p = none) (gp : G p = none) (hp : H p = some o) : Grow z G1 H1 (upd G p o) H := by
  refine ⟨g.fr, g.gg.trans (same_new gp), fun a u h nx n => ?_, ⟨fun a u h => ?_, fun B L q => ?_, ⟨g.vw.tab.1, fun q hq => by rw [upd_ne (v.neT np hq).symm]; exact g.vw.tab.2 q hq⟩⟩⟩
  · rw [upd_ne (ne_of_none h np)]
    exact g.ap a u h nx n
  · by_cases e : a = p
    · subst e
      rw [upd_same] at h
      rw [← h]
      exact hp
    · rw [upd_ne e] at h
      exact g.vw.sub a u h
  · obtain ⟨h1, h2, h3⟩ := g.vw.bag B L q
    obtain ⟨n1, n2⟩ := v.ne np q
    refine ⟨h1, ?_, ?_⟩
    · rw [upd_ne n1.symm]
      exact h2
    · rw [upd_ne n2.symm]
      exact h3
end
def wipeE (env : Ev) : List Nat → Ev
  | [] => env
  | v :: vs => (wipeE env vs).set v none
theorem wipeE_len (env : Ev) : ∀ vs, (wipeE env vs).length = env.length
  | [] => rfl
  | v :: vs => by
    show ((wipeE env vs).set v none).length = _
    rw [List.length_set, wipeE_len env vs]
section
variable {K : PySem.W.Frag} {z : Zk} {G0 H0 G H : Hp} {σ : L2.St} {env : Ev}
theorem At.unset (h : At K z G0 H0 σ H G env) (i : Nat) : At K z G0 H0 (σ.set i none) H G (env.set i none) := by
  have key : ∀ (j : Nat) (d : D), (env.set i none)[j]? = some (some d) → i ≠ j ∧ env[j]? = some (some d) := fun j d e => by
    rcases set_some e with ⟨_, _, e1⟩ | h
    · cases e1
    · exact h
  refine ⟨h.gr, h.v0, ⟨by simp [h.en.1], fun j d e m => ?_⟩, ⟨fun j ds e => ?_, fun j k ds es p n e1 e2 s1 s2 => ?_⟩⟩
  · obtain ⟨c, e⟩ := key j d e
    rw [List.getElem?_set_ne c]
    exact h.en.2 j d e m
  · obtain ⟨c, e⟩ := key j _ e
    rw [List.getElem?_set_ne c]
    exact h.mu.at_ j ds e
  · obtain ⟨c1, e1⟩ := key j _ e1
    obtain ⟨c2, e2⟩ := key k _ e2
    rw [List.getElem?_set_ne c1] at s1
    rw [List.getElem?_set_ne c2] at s2
    exact h.mu.dj j k ds es p n e1 e2 s1 s2
theorem At.wipe (h : At K z G0 H0 σ H G env) : ∀ vs, At K z G0 H0 (L2.wipe σ vs) H G (wipeE env vs)
  | [] => h
  | v :: vs => (h.wipe vs).unset v
end
theorem wipe_get (σ : L2.St) : ∀ (vs : List Nat) (j : Nat), (L2.wipe σ vs)[j]? = if j ∈ vs then σ[j]?.map fun _ => none else σ[j]?
  | [], j => by simp [L2.wipe]
  | v :: vs, j => by
    show ((L2.wipe σ vs).set v none)[j]? = _
    by_cases e : v = j
    · subst e
      rw [if_pos List.mem_cons_self]
      by_cases l : v < (L2.wipe σ vs).length
      · rw [List.getElem?_set_self l]
        rw [wipe_length] at l
        rw [List.getElem?_eq_getElem l]
        rfl
      · rw [List.getElem?_eq_none (by simpa using l)]
        rw [wipe_length] at l
        rw [show σ[v]? = none from List.getElem?_eq_none (Nat.le_of_not_lt l)]
        rfl
    · rw [List.getElem?_set_ne e, wipe_get σ vs j]
      have : j ∈ v :: vs ↔ j ∈ vs := by
        rw [List.mem_cons]
        exact ⟨fun h => h.resolve_left (fun q => e q.symm), .inr⟩
      simp only [this]
theorem Ago.wipe {js vs : List Nat} {σ σ' : L2.St} (h : Ago js (L2.wipe σ vs) σ') (hj : ∀ j ∈ js, j ∈ vs) : L2.wipe σ' vs = L2.wipe σ vs := by
  have l : σ'.length = σ.length := by
    rw [h.1, wipe_length]
  apply List.ext_getElem?
  intro j
  rw [wipe_get, wipe_get]
  by_cases e : j ∈ vs
  · rw [if_pos e, if_pos e]
    by_cases l2 : j < σ.length
    · rw [List.getElem?_eq_getElem l2, List.getElem?_eq_getElem (by omega)]
      rfl
    · rw [List.getElem?_eq_none (by omega), List.getElem?_eq_none (by omega)]
  · rw [if_neg e, if_neg e, h.2 j (fun q => e (hj j q)), wipe_get, if_neg e]
def compW (f : D → W (Option D)) : List D → W (List D)
  | [] => W.pure []
  | x :: r => W.bind (f x) fun o => W.bind (compW f r) fun ys => W.pure (o.toList ++ ys)
theorem compW_len (f : D → W (Option D)) {E : ExD → Prop} : ∀ {ds : List D} {Q : List D → Prop}, (compW f ds).wp Q E → (compW f ds).wp (fun ys => Q ys ∧ ys.length ≤ ds.length) E
  | [], _, h => ⟨h, Nat.le_refl _⟩
  | x :: r, Q, h => (f x).mono (fun o h1 => by
      refine (compW f r).mono (fun ys h2 => ⟨h2.1, ?_⟩) (fun _ q => q) (compW_len f h1)
      have := h2.2
      cases o <;> simp <;> omega) (fun _ q => q) h
section
variable {X : Cx} {z : Zk} {J : Jx X.K z} {a b c e tg iter elt : Expr} {es ifs : List Expr} {st : Stmt} {ss : List Stmt} {ma mb mc me : Ev → W D} {ms mi : Ev → W (List D)} {mt mt' : Ev → W Bool} {mf mg' : Ev → W Fl} {pos : Pos}
/-- the tests of a comprehension -/
def TsV (X : Cx) {z : Zk} (J : Jx X.K z) (es : List Expr) (m : Ev → W Bool) : Prop :=
  ∃ te, PTs X es te ∧ ∀ σ H G env (Q : Bool → Hp → Prop), At X.K z J.G0 J.H0 σ H G env → (m env).wp (fun b => ∀ H' G', Grow z G H G' H' → Q b H') J.xQ → te σ H Q
theorem ts_nil : TsV X J [] (fun _ => W.pure true) := ⟨_, pts_nil, fun σ H G env Q at_ h => h H G (.refl at_.gr.vw)⟩
theorem ts_one (h : TV X J c mt) : TsV X J [c] mt := by
  obtain ⟨t, p, q⟩ := h
  exact ⟨_, pts_one p, q⟩
/-- one turn of a comprehension -/
def turnW (js : List Nat) (f : D → Ev → W Ev) (mt : Ev → W Bool) (me : Ev → W D) (env : Ev) (x : D) : W (Option D) :=
  W.noX (W.bind (f x (wipeE env js)) fun env1 => W.bind (mt env1) fun k => iteW k (W.bind (me env1) fun y => W.pure (some y)) (W.pure none))
/-- an end with a list that is not shown -/
def OwnQ (K : PySem.W.Frag) (z : Zk) (G H : Hp) (Q : VK) : List D → Prop := fun ys => ∀ D H' G' acc, Grow z G H G' H' → H D = none → G' D = none → H' D = some (.lst acc) → Dens K z G' acc ys → ys.length ≤ big → Q (.ref D) H'
theorem OwnQ.of {K : PySem.W.Frag} {z : Zk} {G H : Hp} {Q : VK} (v : Vw z G H) {ys : List D} (h : VQ K z G H Q (.lst ys)) : OwnQ K z G H Q ys := fun D H' G' acc g n gD hD da l => h _ _ _ (g.shown v n gD hD) (.lst upd_same (da.same (same_new gD)) l)
theorem lc_own {wi : TI} {g : TG} {tt : TT} {te : TE} {vs js : List Nat} {f : D → Ev → W Ev} (hj : ∀ j ∈ js, j ∈ vs)
    (qi : ∀ σ H G env (R : It → Hp → Prop), At X.K z J.G0 J.H0 σ H G env → (mi env).wp (fun ds => ∀ I H' G', Grow z G H G' H' → WalkD X.K z I ds G' → R I H') J.xQ → wi σ H R)
    (qg : ∀ v d σ H G env (R : L2.St → Hp → Prop), At X.K z J.G0 J.H0 σ H G env → Den X.K z G v d → (f d env).wp (fun env' => ∀ σ', Ago js σ σ' → At X.K z J.G0 J.H0 σ' H G env' → R σ' H) (fun _ => False) → g v σ H R)
    (qt : ∀ σ H G env (Q : Bool → Hp → Prop), At X.K z J.G0 J.H0 σ H G env → (mt env).wp (fun b => ∀ H' G', Grow z G H G' H' → Q b H') (fun _ => False) → tt σ H Q)
    (qe : ∀ σ H G env Q, At X.K z J.G0 J.H0 σ H G env → (me env).wp (VQ X.K z G H Q) (fun _ => False) → te σ H Q)
    {σ : L2.St} {H G : Hp} {env : Ev} {Q : VK} (at_ : At X.K z J.G0 J.H0 σ H G env)
    (h : (W.bind (mi env) (compW (turnW vs f mt me env))).wp (OwnQ X.K z G H Q) J.xQ) : tLc wi g tt te vs σ H Q := by
  refine qi σ H G env _ at_ ((mi env).mono (fun ds h1 I H1 G1 g1 wk D nD => ?_) (fun _ q => q) h)
  have v1 := g1.vw
  refine ⟨fun i m H' => m = ds.length - i ∧ i ≤ ds.length ∧ ∃ G' ys acc, Grow z G1 H1 G' H' ∧ G' D = none ∧ H' D = some (.lst acc) ∧ Dens X.K z G' acc ys ∧ ys.length ≤ i ∧ (compW (turnW vs f mt me env) (ds.drop i)).wp (fun rest => OwnQ X.K z G H Q (ys ++ rest) ∧ rest.length ≤ (ds.drop i).length) J.xQ,
    ⟨ds.length, by omega, Nat.zero_le _, G1, [], [], Grow.hid v1 nD, v1.sub.free nD, upd_same, .nil, Nat.le_refl _, compW_len _ h1⟩, ?_⟩
  rintro i m H' ⟨rfl, hi, G', ys, acc, gr, gD, hD, da, ly, hw⟩
  by_cases lt : i < ds.length
  · refine .inr ⟨wk.goes i H' G' gr.gg gr.vw lt, fun H2 => i + 1 ≤ ds.length ∧ ∃ G' ys acc, Grow z G1 H1 G' H2 ∧ G' D = none ∧ H2 D = some (.lst acc) ∧ Dens X.K z G' acc ys ∧ ys.length ≤ i + 1 ∧ (compW (turnW vs f mt me env) (ds.drop (i + 1))).wp (fun rest => OwnQ X.K z G H Q (ys ++ rest) ∧ rest.length ≤ (ds.drop (i + 1)).length) J.xQ,
      fun H2 q => ⟨ds.length - (i + 1), by omega, rfl, q⟩, fun x H2 y => ?_⟩
    obtain ⟨G2, d, g2, hd, dx⟩ := wk.yields i H' G' x H2 gr.gg gr.vw y lt
    have edrop : ds.drop i = d :: ds.drop (i + 1) := by
      rw [List.drop_eq_getElem_cons lt]
      rw [List.getElem?_eq_getElem lt] at hd
      rw [Option.some.inj hd]
    rw [edrop] at hw
    have gr2 := gr.trans g2
    have gD2 : G2 D = none := g2.ap D _ hD (.inr rfl) gD
    have nB : z.out D := v1.out nD
    have hD2 : H2 D = some (.lst acc) := g2.fr D _ nB hD
    have hw' : (f d (wipeE env vs)).wp (fun env1 => (mt env1).wp (fun k => (iteW k (W.bind (me env1) fun y => W.pure (some y)) (W.pure none)).wp (fun o => (compW (turnW vs f mt me env) (ds.drop (i + 1))).wp (fun rest => OwnQ X.K z G H Q (ys ++ (o.toList ++ rest)) ∧ (o.toList ++ rest).length ≤ (d :: ds.drop (i + 1)).length) J.xQ) (fun _ => False)) (fun _ => False)) (fun _ => False) := hw
    refine qg x d (L2.wipe σ vs) H2 G2 (wipeE env vs) _ ((at_.grow (g1.trans gr2)).wipe vs) dx ((f d (wipeE env vs)).mono (fun env1 h2 σ2 ag at2 => ⟨ag.wipe hj, ?_⟩) (fun _ q => q) hw')
    refine qt σ2 H2 G2 env1 _ at2 ((mt env1).mono (fun k h3 H3 G3 g3 => ?_) (fun _ q => q) h2)
    cases k with
    | false =>
      show _ ∧ _
      refine ⟨lt, G3, ys, acc, gr2.trans g3, g3.ap D _ hD2 (.inr rfl) gD2, g3.fr D _ nB hD2, da.same (g2.gg.trans g3.gg), by omega, ?_⟩
      refine compW_len _ ((compW _ _).mono (fun rest q => q.1) (fun _ q => q) h3)
    | true =>
      refine qe σ2 H3 G3 env1 _ (at2.grow g3) ((me env1).mono (fun y h4 v H4 G4 g4 dv => ?_) (fun _ q => q) h3)
      have gD4 := (g3.trans g4).ap D _ hD2 (.inr rfl) gD2
      have hD4 := (g3.trans g4).fr D _ nB hD2
      refine ⟨acc, hD4, ?_, lt, G4, ys ++ [y], acc ++ [v], ((gr2.trans g3).trans g4).put v1 nD gD4 hD4 (fun _ e => nomatch e) (fun _ e => nomatch e), gD4, upd_same, (da.same (g2.gg.trans (g3.trans g4).gg)).app (.one dv), ?_, ?_⟩
      · have l1 := da.len
        have l2 := wk.len
        have l3 := big_lt
        omega
      · rw [List.length_append]
        simp
        omega
      · refine compW_len _ ((compW _ _).mono (fun rest q => ?_) (fun _ q => q) h4)
        have := q.1
        rw [List.append_assoc]
        exact this
  · have ei : i = ds.length := by omega
    subst ei
    refine .inl ⟨wk.stops H' G' gr.gg gr.vw, ?_⟩
    rw [List.drop_length] at hw
    have q := hw.1
    rw [List.append_nil] at q
    have nD0 : H D = none := by
      cases e : H D with
      | none => rfl
      | some o =>
        obtain ⟨o', h'⟩ := g1.there e
        rw [nD] at h'
        cases h'
    exact q D H' G' acc (g1.trans gr) nD0 gD hD da (Nat.le_trans ly wk.len)
theorem lc_data {wi : TI} {g : TG} {tt : TT} {te : TE} {vs js : List Nat} {f : D → Ev → W Ev} (hj : ∀ j ∈ js, j ∈ vs)
    (qi : ∀ σ H G env (R : It → Hp → Prop), At X.K z J.G0 J.H0 σ H G env → (mi env).wp (fun ds => ∀ I H' G', Grow z G H G' H' → WalkD X.K z I ds G' → R I H') J.xQ → wi σ H R)
    (qg : ∀ v d σ H G env (R : L2.St → Hp → Prop), At X.K z J.G0 J.H0 σ H G env → Den X.K z G v d → (f d env).wp (fun env' => ∀ σ', Ago js σ σ' → At X.K z J.G0 J.H0 σ' H G env' → R σ' H) (fun _ => False) → g v σ H R)
    (qt : ∀ σ H G env (Q : Bool → Hp → Prop), At X.K z J.G0 J.H0 σ H G env → (mt env).wp (fun b => ∀ H' G', Grow z G H G' H' → Q b H') (fun _ => False) → tt σ H Q)
    (qe : ∀ σ H G env Q, At X.K z J.G0 J.H0 σ H G env → (me env).wp (VQ X.K z G H Q) (fun _ => False) → te σ H Q)
    {σ : L2.St} {H G : Hp} {env : Ev} {Q : VK} (at_ : At X.K z J.G0 J.H0 σ H G env)
    (h : (W.bind (mi env) fun ds => W.bind (compW (turnW vs f mt me env) ds) fun ys => W.pure (.lst ys)).wp (VQ X.K z G H Q) J.xQ) : tLc wi g tt te vs σ H Q :=
  lc_own hj qi qg qt qe at_ ((W.bind (mi env) (compW (turnW vs f mt me env))).mono (fun ys q => OwnQ.of at_.gr.vw q) (fun _ q => q) h)
theorem ev_lc {scope : Scope} {own : List (Str × Nat)} {js : List Nat} {f : D → Ev → W Ev} (hc : X.calm = true) (hN : X.N.Nodup) (hi : IV X J tg iter mi) (ok : BlkOk X.N X.env.scope scope own)
    (hg : ∀ (s : Shared) (H : Hp) (C : Addr) (cl : List (Str × Addr)) (fp : List Addr), GV (X.blk s H scope (compEnvC scope cl C X.env) fp) J.no tg js f) (ht : ∀ (s : Shared) (H : Hp) (C : Addr) (cl : List (Str × Addr)) (fp : List Addr), TsV (X.blk s H scope (compEnvC scope cl C X.env) fp) J.no ifs mt)
    (he : ∀ (s : Shared) (H : Hp) (C : Addr) (cl : List (Str × Addr)) (fp : List Addr), EV (X.blk s H scope (compEnvC scope cl C X.env) fp) J.no elt me) (hj : ∀ j ∈ js, j ∈ own.map (·.2) := by decide) (hs : ∀ x, foldedSetIterable iter X.env x = pure x := by intro _; rfl) :
    EV X J (.ListComp elt [⟨tg, iter, ifs, 0⟩] scope pos) (fun env => W.bind (mi env) fun ds => W.bind (compW (turnW (own.map (·.2)) f mt me env) ds) fun ys => W.pure (.lst ys)) := by
  obtain ⟨wi, pi, qi⟩ := hi
  refine ⟨_, pe_lc (g := fun v σ H R => ∀ s h C cl fp, (hg s h C cl fp).choose v σ H R) (tt := fun σ H Q => ∀ s h C cl fp, (ht s h C cl fp).choose σ H Q) (te := fun σ H Q => ∀ s h C cl fp, (he s h C cl fp).choose σ H Q) hc hN pi ok
    (fun s h C cl fp => ⟨fun pins s' σ H v u R I r q => (hg s h C cl fp).choose_spec.1.run pins s' σ H v u R I r (q s h C cl fp)⟩) (fun s h C cl fp => ⟨fun pins s' σ H R I q => (ht s h C cl fp).choose_spec.1.run pins s' σ H R I (q s h C cl fp)⟩) (fun s h C cl fp => ⟨fun pins s' σ H R I q => (he s h C cl fp).choose_spec.1.run pins s' σ H R I (q s h C cl fp)⟩) hs, fun σ H G env Q at_ h => ?_⟩
  exact lc_data hj qi (fun v d σ H G env R at_ dv h s h' C cl fp => (hg s h' C cl fp).choose_spec.2 v d σ H G env R at_ dv h) (fun σ H G env Q at_ h s h' C cl fp => (ht s h' C cl fp).choose_spec.2 σ H G env Q at_ h) (fun σ H G env Q at_ h s h' C cl fp => (he s h' C cl fp).choose_spec.2 σ H G env Q at_ h) at_ h
theorem sv_setLc (i : Nat) {y : Str} {py spos : Pos} {scope : Scope} {own : List (Str × Nat)} {js : List Nat} {f : D → Ev → W Ev} (hc : X.calm = true) (hN : X.N.Nodup) (hy : X.N[i]? = some y) (hyl : X.env.scope.names.lookup y = some .local) (hsw : swapsWith (.ListComp elt [⟨tg, iter, ifs, 0⟩] scope pos) (some (.Name y py)) spos.line X.env = pure true)
    (hi : IV X J tg iter mi) (ok : BlkOk X.N X.env.scope scope own) (hg : ∀ (s : Shared) (H : Hp) (C : Addr) (cl : List (Str × Addr)) (fp : List Addr), GV (X.blk s H scope (compEnvC scope cl C X.env) fp) J.no tg js f) (ht : ∀ (s : Shared) (H : Hp) (C : Addr) (cl : List (Str × Addr)) (fp : List Addr), TsV (X.blk s H scope (compEnvC scope cl C X.env) fp) J.no ifs mt)
    (he : ∀ (s : Shared) (H : Hp) (C : Addr) (cl : List (Str × Addr)) (fp : List Addr), EV (X.blk s H scope (compEnvC scope cl C X.env) fp) J.no elt me) (hj : ∀ j ∈ js, j ∈ own.map (·.2) := by decide) (hs : ∀ x, foldedSetIterable iter X.env x = pure x := by intro _; rfl) :
    ∃ t, PS X (.Assign [.Name y py] (.ListComp elt [⟨tg, iter, ifs, 0⟩] scope pos) spos) t ∧ ∀ σ H G env N, At X.K z J.G0 J.H0 σ H G env → (W.bind (mi env) (compW (turnW (own.map (·.2)) f mt me env))).wp (OwnQ X.K z G H fun v H' => N.nx (σ.set i (some v)) H') J.xQ → t N σ H := by
  obtain ⟨wi, pi, qi⟩ := hi
  refine ⟨_, ps_setLc (g := fun v σ H R => ∀ s h C cl fp, (hg s h C cl fp).choose v σ H R) (tt := fun σ H Q => ∀ s h C cl fp, (ht s h C cl fp).choose σ H Q) (te := fun σ H Q => ∀ s h C cl fp, (he s h C cl fp).choose σ H Q) hc hN hy hyl hsw pi ok
    (fun s h C cl fp => ⟨fun pins s' σ H v u R I r q => (hg s h C cl fp).choose_spec.1.run pins s' σ H v u R I r (q s h C cl fp)⟩) (fun s h C cl fp => ⟨fun pins s' σ H R I q => (ht s h C cl fp).choose_spec.1.run pins s' σ H R I (q s h C cl fp)⟩) (fun s h C cl fp => ⟨fun pins s' σ H R I q => (he s h C cl fp).choose_spec.1.run pins s' σ H R I (q s h C cl fp)⟩) hs, fun σ H G env N at_ h => ?_⟩
  exact lc_own (Q := fun v H' => N.nx (σ.set i (some v)) H') hj qi (fun v d σ H G env R at_ dv h s h' C cl fp => (hg s h' C cl fp).choose_spec.2 v d σ H G env R at_ dv h) (fun σ H G env Q at_ h s h' C cl fp => (ht s h' C cl fp).choose_spec.2 σ H G env Q at_ h) (fun σ H G env Q at_ h s h' C cl fp => (he s h' C cl fp).choose_spec.2 σ H G env Q at_ h) at_ h
/-- name = [..]: data -/
theorem sv_lcD {i : Nat} (h : ∃ t, PS X st t ∧ ∀ σ H G env N, At X.K z J.G0 J.H0 σ H G env → (ms env).wp (OwnQ X.K z G H fun v H' => N.nx (σ.set i (some v)) H') J.xQ → t N σ H) : SV X J st (fun env => W.bind (ms env) fun ys => W.pure (.nx (env.set i (some (.lst ys))))) := by
  obtain ⟨t, p, q⟩ := h
  refine ⟨t, p, fun σ H G env N at_ h => q σ H G env N at_ ((ms env).mono (fun ys h1 => OwnQ.of at_.gr.vw ?_) (fun _ q => q) h)⟩
  exact fun v H' G' g d => h1 _ H' G' ((at_.grow g).set i d) g.gg
/-! for -/
def forW (f : D → Ev → W Fl) : List D → Ev → W Fl
  | [], env => W.pure (.nx env)
  | x :: r, env => W.bind (f x env) fun fl => match fl with
    | .nx env' => forW f r env'
    | .ct env' => forW f r env'
    | .bk env' => W.pure (.nx env')
    | .rt d => W.pure (.rt d)
theorem sv_for {js : List Nat} {f : D → Ev → W Ev} {body : List Stmt} (hp : PassesOwn (model X.prog X.w) X.A X.env X.xe) (hc : X.calm = true) (hi : IV X J tg iter mi) (hg : GV X J tg js f) (hb : SVs X J body mf) (hs : ∀ x, foldedSetIterable iter X.env x = pure x := by intro _; rfl) :
    SV X J (.For tg iter body [] pos) (fun env => W.bind (mi env) fun ds => forW (fun x env => W.bind (W.noX (f x env)) mf) ds env) := by
  obtain ⟨wi, pi, qi⟩ := hi
  obtain ⟨g, pg, qg⟩ := hg
  obtain ⟨tb, pb, qb⟩ := hb
  refine ⟨_, ps_for hp hc pi pg pb hs, fun σ H G env N at_ h => ?_⟩
  refine qi σ H G env _ at_ ((mi env).mono (fun ds h1 I H1 G1 g1 wk => ?_) (fun _ q => q) h)
  refine ⟨fun i m σ' H' => m = ds.length - i ∧ i ≤ ds.length ∧ ∃ G' env', At X.K z J.G0 J.H0 σ' H' G' env' ∧ Same G1 G' ∧ (forW (fun x env => W.bind (W.noX (f x env)) mf) (ds.drop i) env').wp (FlQ X.K z J.G0 J.H0 G' N) J.xQ,
    ⟨ds.length, by omega, Nat.zero_le _, G1, env, at_.grow g1, Same.refl _, (forW _ _ _).mono (FlQ.up g1.gg) (fun _ q => q) h1⟩, ?_⟩
  rintro i m σ' H' ⟨rfl, hi, G', env', at', gs, hw⟩
  by_cases lt : i < ds.length
  · refine .inr ⟨wk.goes i H' G' gs at'.gr.vw lt, fun σ2 H2 => i + 1 ≤ ds.length ∧ ∃ G' env', At X.K z J.G0 J.H0 σ2 H2 G' env' ∧ Same G1 G' ∧ (forW (fun x env => W.bind (W.noX (f x env)) mf) (ds.drop (i + 1)) env').wp (FlQ X.K z J.G0 J.H0 G' N) J.xQ,
      fun σ2 H2 q => ⟨ds.length - (i + 1), by omega, rfl, q⟩, fun x H2 y => ?_⟩
    obtain ⟨G2, d, g2, hd, dx⟩ := wk.yields i H' G' x H2 gs at'.gr.vw y lt
    have edrop : ds.drop i = d :: ds.drop (i + 1) := by
      rw [List.drop_eq_getElem_cons lt]
      rw [List.getElem?_eq_getElem lt] at hd
      rw [Option.some.inj hd]
    rw [edrop] at hw
    refine qg x d σ' H2 G2 env' _ (at'.grow g2) dx ((f d env').mono (fun env1 h2 σ1 _ at1 => ?_) (fun _ q => q) hw)
    refine qb σ1 H2 G2 env1 _ at1 ((mf env1).mono (fun fl h3 => ?_) (fun _ q => q) h2)
    cases fl with
    | nx env2 => exact fun σ2 H3 G3 at3 s3 => ⟨lt, G3, env2, at3, gs.trans (g2.gg.trans s3), (forW _ _ _).mono (FlQ.up (g2.gg.trans s3)) (fun _ q => q) h3⟩
    | ct env2 => exact fun σ2 H3 G3 at3 s3 => ⟨lt, G3, env2, at3, gs.trans (g2.gg.trans s3), (forW _ _ _).mono (FlQ.up (g2.gg.trans s3)) (fun _ q => q) h3⟩
    | bk env2 => exact fun σ2 H3 G3 at3 s3 => h3 σ2 H3 G3 at3 (g2.gg.trans s3)
    | rt d2 => exact h3
  · have ei : i = ds.length := by omega
    subst ei
    rw [List.drop_length] at hw
    exact .inl ⟨wk.stops H' G' gs at'.gr.vw, hw σ' H' G' at' (Same.refl _)⟩
end
end Rg

set_option Elab.async false
set_option linter.all false
set_option maxRecDepth 100000
set_option maxHeartbeats 4500000
/-! the rules by data: defs, calls, what is built in -/
namespace Rg
open PySem PySem.Spec PyProof.Rows L2
theorem passNo {X : Cx} : Passes (L2.CX X.prog X.w) X (fun _ _ _ => False) := fun pins σ H s e s' I h => by
  obtain ⟨a, B, H', cls, d, _, _, _, _, _, _, _, no⟩ := h
  exact no.elim
def startE (n : Nat) (ds : List D) : Ev := ds.map some ++ List.replicate (n - ds.length) none
def endF : Fl → W D
  | .nx _ => W.pure .non
  | .rt d => W.pure d
  | _ => W.fail
def runF (n : Nat) (mb : Ev → W Fl) (ds : List D) : W D := W.bind (mb (startE n ds)) endF
theorem startE_nomut {n : Nat} {ds es : List D} {i : Nat} (h : ∀ d ∈ ds, isMut d = false) (e : (startE n ds)[i]? = some (some (.own es))) : False := by
  unfold startE at e
  by_cases c : i < ds.length
  · rw [List.getElem?_append_left (by simpa using c), List.getElem?_map] at e
    obtain ⟨d', h1, h2⟩ := Option.map_eq_some_iff.mp e
    cases h2
    cases h _ (List.mem_of_getElem? h1)
  · rw [List.getElem?_append_right (by simpa using c), List.getElem?_replicate] at e
    split at e <;> cases e
theorem Dens.nomut {K : PySem.W.Frag} {z : Zk} {G : Hp} : ∀ {vs : List V} {ds : List D}, Dens K z G vs ds → ∀ d ∈ ds, isMut d = false
  | _, _, .nil, _, out => nomatch out
  | _, _, .cons q r, d, within => by
    cases within with
    | head => exact q.nomut
    | tail _ rest => exact r.nomut d rest
theorem start_en {K : PySem.W.Frag} {z : Zk} {G : Hp} {N : List Str} {vs : List V} {ds : List D} (h : Dens K z G vs ds) : EnvD K z G (L2.start N vs) (startE N.length ds) := by
  have l := h.len
  refine ⟨by simp [startE, L2.start, l], fun i d hi _ => ?_⟩
  unfold startE at hi
  unfold L2.start
  by_cases c : i < ds.length
  · rw [List.getElem?_append_left (by simpa using c), List.getElem?_map] at hi
    obtain ⟨d', h1, h2⟩ := Option.map_eq_some_iff.mp hi
    cases h2
    obtain ⟨v, h3, h4⟩ := h.at' h1
    refine ⟨v, ?_, h4⟩
    rw [List.getElem?_append_left (by rw [List.length_map, l]; exact c), List.getElem?_map, h3]
    rfl
  · rw [List.getElem?_append_right (by simpa using c), List.getElem?_replicate] at hi
    split at hi <;> cases hi
section
variable {P : Program} {w : World} {K : PySem.W.Frag} {mg : Str → Option Value} {base : Heap} {cm : Str → Option Addr}
/-- a def, by its body -/
theorem fnM {x qual : Str} {st : Stmt} {f : Addr} {fd : FuncData} {N ps : List Str} {k : Nat} {mb : Ev → W Fl} (F : Fun K x qual st f fd) (S : FnScope N ps (defScope st))
    (body : ∀ (cdv : Value) (A : Around) (outer : List Env) (s : Shared) (H : Hp) (bg : Bl) (J : Jx K ⟨cm, ⟨bg.1, [], bg.2⟩⟩), Room k (A.deeper (envOfC qual (defScope st) s.heap.objs.size f cdv)) →
      Passes (L2.CX P w) (cxOf (L2.CX P w) P w K mg base N qual (defScope st) f cdv A outer s H J.E) J.E → PassesOwn (model P w) (A.deeper (envOfC qual (defScope st) s.heap.objs.size f cdv)) (envOfC qual (defScope st) s.heap.objs.size f cdv) (cxOf (L2.CX P w) P w K mg base N qual (defScope st) f cdv A outer s H J.E).xe →
      SVs (cxOf (L2.CX P w) P w K mg base N qual (defScope st) f cdv A outer s H J.E) J (defBody st) mb) : FnM P w K mg base cm (k + 1) f fd ps (runF N.length mb) := by
  refine F.okX S (fun vs H Q E h => ?_) (fun cdv A outer s H vs Q E hr h => ?_)
  · obtain ⟨bg, G, ds, _, h1, h2, _⟩ := h
    rw [h1.len]
    exact h2
  · obtain ⟨bg, G, ds, vw, hd, _, h⟩ := h
    obtain ⟨t, pt, qt⟩ := body cdv A outer s H bg ⟨G, H, E, fun x => ∀ cls dx H' G', Grow ⟨cm, ⟨bg.1, [], bg.2⟩⟩ G H G' H' → XDen K ⟨cm, ⟨bg.1, [], bg.2⟩⟩ G' H' cls dx x → E cls dx H', fun x cls dx H' G' q g d => q cls dx H' G' g d⟩ hr
      (passes_call (takes_of rfl rfl rfl rfl) (fun _ _ _ _ h => h)) (passes_of rfl)
    refine ⟨t, pt, qt (L2.start N vs) H G (startE N.length ds) _ ⟨.refl vw, vw, start_en hd, ⟨fun i ds e => (startE_nomut hd.nomut e).elim, fun i j ds es p _ e => (startE_nomut hd.nomut e).elim⟩⟩ ((mb _).mono (fun fl h1 => ?_) (fun _ q => q) h)⟩
    cases fl with
    | nx env => exact fun σ H' G' at' _ => h1 .non H' G' at'.gr .non
    | rt d => exact fun v H' G' g dv => h1 v H' G' g dv
    | bk _ => exact h1.elim
    | ct _ => exact h1.elim
theorem FnM.up {j k : Nat} {f : Addr} {fd : FuncData} {ps : List Str} {m : List D → W D} (F : FnM P w K mg base cm j f fd ps m) (h : j ≤ k) : FnM P w K mg base cm k f fd ps m := FnOk.mono F h
/-- a def does less than m' -/
theorem FnM.to {k : Nat} {f : Addr} {fd : FuncData} {ps : List Str} {m m' : List D → W D} (F : FnM P w K mg base cm k f fd ps m) (h : ∀ ds Q E, (m' ds).wp Q E → (m ds).wp Q E) : FnM P w K mg base cm k f fd ps m' :=
  FnOk.imp F fun vs H Q E q => by
    obtain ⟨bg, G, ds, vw, hd, hl, q⟩ := q
    exact ⟨bg, G, ds, vw, hd, hl, h _ _ _ q⟩
end
section
variable {X : Cx} {z : Zk} {J : Jx X.K z} {a b c e o tg : Expr} {es : List Expr} {ma mb mc mo : Ev → W D} {ms mk : Ev → W (List D)} {pos p apos : Pos} {x : Str}
/-- what a promise by data asks -/
theorem ask {m : List D → W D} {n : Nat} {σ : L2.St} {H G : Hp} {env : Ev} {vs : List V} {ds : List D} {Q : VK} {H1 G1 : Hp} (at_ : At X.K z J.G0 J.H0 σ H G env) (g : Grow z G H G1 H1) (hd : Dens X.K z G1 vs ds) (hl : ds.length = n)
    (h : (m ds).wp (VQ X.K z G H Q) J.xQ) : spM X.K z.cm n m vs H1 Q J.E :=
  ⟨(z.bg.bag, z.bg.lm), G1, ds, g.vw.low, hd.low, hl, (m ds).mono (fun d q v H' G' g' dv => q v H' G' (g.trans (g'.up g.vw)) dv.up) (fun x q cls dx H' G' g' xd => J.hE x cls dx H' G' q (at_.gr.trans (g.trans (g'.up g.vw))) xd.up) h⟩
def callM (n : Nat) (m : List D → W D) (ds : List D) : W D := W.bind (W.need (ds.length = n)) fun _ => m ds
theorem ev_call {k : Nat} {f : Addr} {fd : FuncData} {ps : List Str} {m : List D → W D} (F : FnM X.prog X.w X.K X.mg X.base z.cm k f fd ps m) (hr : Room k X.A) (hg : Gl X x) (hm : X.mg x = some (.ref f)) (hk : PySem.W.keepIn X.K (.ref f) = true) (hb : Binds X.K fd ps [])
    (hx : Passes (L2.CX X.prog X.w) X J.E) (ha : AV X J (e :: es) ms) (hdb : (x == ("__debug__" : Str)) = false := by decide) (he : starEach (e :: es) X.env = (false, eval e X.env) :: starEach es X.env := by rfl) (hpl : (backTo pos (starEach es X.env)).any (·.1) = false := by rfl) {n : Nat} (hn : ps.length = n := by rfl) :
    EV X J (.Call (.Name x p) (e :: es) [] pos) (fun env => W.bind (ms env) (callM n m)) := by
  subst hn
  obtain ⟨ts, pa, qs⟩ := ha
  refine ⟨_, pe_call F hr hg hm hk hb .nil hx pa hdb he hpl, fun σ H G env Q at_ h => ?_⟩
  refine qs σ H G env _ at_ ((ms env).mono (fun ds h1 vs H1 G1 g1 d1 => ?_) (fun _ q => q) h)
  show spM X.K z.cm ps.length m (vs ++ []) H1 Q J.E
  rw [List.append_nil]
  exact ask at_ g1 d1 h1.1 h1.2
theorem ev_call0 {k : Nat} {f : Addr} {fd : FuncData} {ps : List Str} {m : List D → W D} (F : FnM X.prog X.w X.K X.mg X.base z.cm k f fd ps m) (hr : Room k X.A) (hg : Gl X x) (hm : X.mg x = some (.ref f)) (hk : PySem.W.keepIn X.K (.ref f) = true) (hb : Binds X.K fd ps [])
    (hx : Passes (L2.CX X.prog X.w) X J.E) (hdb : (x == ("__debug__" : Str)) = false := by decide) {n : Nat} (hn : ps.length = n := by rfl) : EV X J (.Call (.Name x p) [] [] pos) (fun env => callM n m []) := by
  subst hn
  refine ⟨_, pe_call0 F hr hg hm hk hb .nil hx hdb, fun σ H G env Q at_ h => ?_⟩
  exact ask at_ (.refl at_.gr.vw) .nil h.1 h.2
/-- arguments by keyword -/
def KV' (X : Cx) {z : Zk} (J : Jx X.K z) (es : List Keyword) (m : Ev → W (List D)) : Prop :=
  ∃ te, PK X es te ∧ ∀ σ H G env Q, At X.K z J.G0 J.H0 σ H G env → (m env).wp (VsQ X.K z G H Q) J.xQ → te σ H Q
theorem kv_nil : KV' X J [] (fun _ => W.pure []) := ⟨_, pk_nil, fun σ H G env Q at_ h => h [] H G (.refl at_.gr.vw) .nil⟩
theorem kv_cons {kws : List Keyword} {nm : Option Str} {kpos : Pos} (ha : EV X J a ma) (hs : KV' X J kws ms) : KV' X J (⟨nm, a, kpos⟩ :: kws) (fun env => W.bind (ma env) fun d => W.bind (ms env) fun ds => W.pure (d :: ds)) := by
  obtain ⟨ta, pa, qa⟩ := ha
  obtain ⟨ts, ps, qs⟩ := hs
  refine ⟨_, pk_cons pa ps, fun σ H G env Q at_ h => ?_⟩
  refine qa σ H G env _ at_ ((ma env).mono (fun d h1 v H1 G1 g1 d1 => ?_) (fun _ q => q) h)
  refine qs σ H1 G1 env _ (at_.grow g1) ((ms env).mono (fun ds h2 vs H2 G2 g2 d2 => ?_) (fun _ q => q) h1)
  exact h2 _ _ _ (g1.trans g2) (.cons (d1.same g2.gg) d2)
theorem ev_callK0 {k : Nat} {f : Addr} {fd : FuncData} {ps ks : List Str} {m : List D → W D} {kws : List Keyword} {g : List Value → List Value → List Value} {gV : List V → List V → List V} (gD : List D → List D) (hgD : ∀ G vs ds, Dens X.K z G vs ds → Dens X.K z G (gV [] vs) (gD ds))
    (F : FnM X.prog X.w X.K X.mg X.base z.cm k f fd ps m) (hr : Room k X.A) (hg : Gl X x) (hm : X.mg x = some (.ref f)) (hk : PySem.W.keepIn X.K (.ref f) = true) (hb : KBinds X.K fd ps ks g gV) (hx : Passes (L2.CX X.prog X.w) X J.E) (ha : KV' X J kws mk)
    (hks : (backToKw pos (keywordEach kws X.env)).filterMap (·.1) = ks := by rfl) (hall : (backToKw pos (keywordEach kws X.env)).all (·.1.isSome) = true := by rfl)
    (hdb : (x == ("__debug__" : Str)) = false := by decide)
    (bare : ((backTo pos (starEach [] X.env)).any (fun a => a.1) || (backToKw pos (keywordEach kws X.env)).any (fun a => a.1.isNone)) = false := by rfl) {n : Nat} (hn : ps.length = n := by rfl) :
    EV X J (.Call (.Name x p) [] kws pos) (fun env => W.bind (mk env) fun ds => callM n m (gD ds)) := by
  subst hn
  obtain ⟨ts, pa, qs⟩ := ha
  refine ⟨_, pe_callK0 F hr hg hm hk hb hx pa hall hks hdb bare, fun σ H G env Q at_ h => ?_⟩
  refine qs σ H G env _ at_ ((mk env).mono (fun ds h1 vs H1 G1 g1 d1 => ?_) (fun _ q => q) h)
  exact ask at_ g1 (hgD _ _ _ d1) h1.1 h1.2
/-! what is built in -/
def CaD (X : Cx) {z : Zk} (J : Jx X.K z) (f : Value) (o : List D → W D) : Prop :=
  ∃ r, CallR X f r ∧ ∀ vs ds H G Q, Vw z G H → Dens X.K z G vs ds → (o ds).wp (VQ X.K z G H Q) J.xQ → r vs H Q
theorem ev_callB {id : String} {m : List D → W D} (hc : CaD X J (.builtin id) m) (hg : Gl X x) (hm : X.mg x = none) (hv : bootBuiltins x = some (.builtin id)) (ha : AV X J (e :: es) ms) (hn : x ≠ "__name__" := by decide) (hdb : (x == ("__debug__" : Str)) = false := by decide)
    (he : starEach (e :: es) X.env = (false, eval e X.env) :: starEach es X.env := by rfl) (hpl : (backTo pos (starEach es X.env)).any (·.1) = false := by rfl) : EV X J (.Call (.Name x p) (e :: es) [] pos) (fun env => W.bind (ms env) m) := by
  obtain ⟨r, pr, qr⟩ := hc
  obtain ⟨ts, pa, qs⟩ := ha
  refine ⟨_, pe_callB pr hg hm hv pa hn hdb he hpl, fun σ H G env Q at_ h => ?_⟩
  exact qs σ H G env _ at_ ((ms env).mono (fun ds h1 vs H1 G1 g1 d1 => qr vs ds H1 G1 Q g1.vw d1 ((m ds).mono (VQ.grow g1) (fun _ q => q) h1)) (fun _ q => q) h)
theorem ev_callTy {T : String} {m : List D → W D} (hc : CaD X J (.type T) m) (hg : Gl X x) (hm : X.mg x = none) (hv : bootBuiltins x = some (.type T)) (ha : AV X J (e :: es) ms) (hn : x ≠ "__name__" := by decide) (hdb : (x == ("__debug__" : Str)) = false := by decide)
    (he : starEach (e :: es) X.env = (false, eval e X.env) :: starEach es X.env := by rfl) (hpl : (backTo pos (starEach es X.env)).any (·.1) = false := by rfl) : EV X J (.Call (.Name x p) (e :: es) [] pos) (fun env => W.bind (ms env) m) := by
  obtain ⟨r, pr, qr⟩ := hc
  obtain ⟨ts, pa, qs⟩ := ha
  refine ⟨_, pe_callTy pr hg hm hv pa hn hdb he hpl, fun σ H G env Q at_ h => ?_⟩
  exact qs σ H G env _ at_ ((ms env).mono (fun ds h1 vs H1 G1 g1 d1 => qr vs ds H1 G1 Q g1.vw d1 ((m ds).mono (VQ.grow g1) (fun _ q => q) h1)) (fun _ q => q) h)
def lenD : D → W D
  | .str l => W.pure (.int (l.length : Nat))
  | .lst l => W.pure (.int (l.length : Nat))
  | .tup l => W.pure (.int (l.length : Nat))
  | _ => W.fail
theorem ca_len : CaD X J (.builtin "len") (one1 lenD) := by
  refine ⟨_, call_len, fun vs ds H G Q vw hd h => ?_⟩
  obtain ⟨v, d, rfl, rfl, a1, h⟩ := one1_wp hd h
  refine ⟨v, ?_⟩
  cases a1 with
  | str l h1 h2 =>
    have e := len_sOf l
    exact ⟨l.length, rfl, ⟨by rw [e]; exact Nat.le_trans h1 big_line, e.symm⟩, h _ _ _ (.refl vw) (.int _)⟩
  | lst q r l => exact ⟨_, rfl, .inl ⟨_, SqL.of (vw.sub _ _ q), r.len.symm⟩, h _ _ _ (.refl vw) (.int _)⟩
  | tup q r l => exact ⟨_, rfl, .inr ⟨_, (q.to vw.sub), r.len.symm⟩, h _ _ _ (.refl vw) (.int _)⟩
  | _ => exact h.elim
def blsOf : List D → Option (List Bool)
  | [] => some []
  | .bl b :: r => (blsOf r).map (b :: ·)
  | _ => none
def allB (f : List Bool → Bool) : D → W D
  | .lst ds => ofO ((blsOf ds).map fun bs => .bl (f bs))
  | _ => W.fail
theorem bls_den {K : PySem.W.Frag} {G : Hp} : ∀ {vs : List V} {ds : List D} {bs : List Bool}, Dens K z G vs ds → blsOf ds = some bs → vs = bs.map V.bl
  | _, [], _, h, e => by
    cases h
    cases e
    rfl
  | _, d :: r, bs, .cons a t, e => by
    cases a with
    | bl b =>
      obtain ⟨bs', h1, rfl⟩ := Option.map_eq_some_iff.mp (show (blsOf r).map (b :: ·) = some bs from e)
      rw [bls_den t h1]
      rfl
    | _ => cases e
theorem ca_all (hc : X.calm = true) : CaD X J (.builtin "all") (one1 (allB fun bs => bs.all id)) := by
  refine ⟨_, cr_all hc, fun vs ds H G Q vw hd h => ?_⟩
  obtain ⟨v, d, rfl, rfl, a1, h⟩ := one1_wp hd h
  cases a1 with
  | lst q r l =>
    obtain ⟨y, e, h⟩ := ofO_wp h
    obtain ⟨bs, h1, rfl⟩ := Option.map_eq_some_iff.mp e
    refine ⟨_, bs, rfl, ?_, h _ _ _ (.refl vw) (.bl _)⟩
    rw [← bls_den r h1]
    exact SqL.of (vw.sub _ _ q)
  | _ => exact h.elim
theorem ca_any (hc : X.calm = true) : CaD X J (.builtin "any") (one1 (allB fun bs => bs.any id)) := by
  refine ⟨_, cr_any hc, fun vs ds H G Q vw hd h => ?_⟩
  obtain ⟨v, d, rfl, rfl, a1, h⟩ := one1_wp hd h
  cases a1 with
  | lst q r l =>
    obtain ⟨y, e, h⟩ := ofO_wp h
    obtain ⟨bs, h1, rfl⟩ := Option.map_eq_some_iff.mp e
    refine ⟨_, bs, rfl, ?_, h _ _ _ (.refl vw) (.bl _)⟩
    rw [← bls_den r h1]
    exact SqL.of (vw.sub _ _ q)
  | _ => exact h.elim
end
end Rg

set_option Elab.async false
set_option linter.all false
set_option maxRecDepth 100000
set_option maxHeartbeats 4500000
/-! the rules by data: objects -/
namespace Rg
open PySem PySem.Spec PyProof.Rows L2
section
variable {X : Cx} {z : Zk} {J : Jx X.K z} {a b c e o tg : Expr} {es : List Expr} {ma mb mc mo : Ev → W D} {ms mk : Ev → W (List D)} {pos p apos : Pos} {x f m : Str}
/-- an object of the class c: its fields -/
def insOf (c : Str) : D → W (List (Str × D))
  | .ins c' gs => if c' = c then W.pure gs else W.fail
  | _ => W.fail
theorem insOf_wp {c : Str} {C : Addr} {G : Hp} {v : V} {d : D} {Q : List (Str × D) → Prop} {E : ExD → Prop} (hc : z.cm c = some C) (h : Den X.K z G v d) (q : (insOf c d).wp Q E) : ∃ q dx fs gs, v = .ref q ∧ G q = some (.ins C dx fs) ∧ DenF X.K z G fs gs ∧ d = .ins c gs ∧ Q gs := by
  cases h with
  | @ins a' C' dx c' fs gs h1 h2 h3 =>
    by_cases e : c' = c
    · subst e
      rw [hc] at h1
      cases h1
      have q' : (if c' = c' then W.pure gs else W.fail).wp Q E := q
      rw [if_pos rfl] at q'
      exact ⟨_, _, _, _, rfl, h2, h3, rfl, q'⟩
    · have q' : (if c' = c then W.pure gs else W.fail).wp Q E := q
      rw [if_neg e] at q'
      exact q'.elim
  | _ => exact q.elim
def fldD (c f : Str) (d : D) : W D := W.bind (insOf c d) fun gs => ofO (gs.lookup f)
theorem ev_fld {c : Str} {C : Addr} (hc : z.cm c = some C) (cl : Cls X.K C) (na : NoAttr X.K C f) (he : EV X J e ma) (hb : attributeBase e f X.env (eval e X.env) = eval e X.env := by rfl) : EV X J (.Attribute e f pos) (fun env => W.bind (ma env) (fldD c f)) := by
  obtain ⟨t, p, q⟩ := he
  refine ⟨_, pe_fld p hb, fun σ H G env Q at_ h => q σ H G env _ at_ ((ma env).mono (fun d h1 v H1 G1 g1 d1 => ?_) (fun _ q => q) h)⟩
  obtain ⟨p, dx, fs, gs, rfl, h2, h3, rfl, h4⟩ := insOf_wp hc d1 h1
  obtain ⟨d', h5, h6⟩ := ofO_wp h4
  obtain ⟨v, h7, h8⟩ := h3.look h5
  exact ⟨p, C, dx, fs, v, rfl, g1.vw.sub _ _ h2, cl, na, h7, h6 v H1 G1 g1 h8⟩
theorem DenF.none : ∀ {K : PySem.W.Frag} {G : Hp} {fs : List (Str × V)} {gs : List (Str × D)} {f : Str}, DenF K z G fs gs → gs.lookup f = none → fs.lookup f = none
  | _, _, _, _, _, .nil, _ => rfl
  | _, _, _, _, f, .cons (f := f') q r, h => by
    rw [List.lookup_cons] at h ⊢
    cases e : f == f' with
    | true =>
      rw [e] at h
      cases h
    | false =>
      rw [e] at h
      exact DenF.none r h
/-- a property, by its getter -/
theorem ev_prop {c : Str} {C pa g : Addr} {k : Nat} {fd : FuncData} {s : Str} {m : List D → W D} (hc : z.cm c = some C) (cl : Cls X.K C) (hp : PropOf X.K C f pa g) (F : FnM X.prog X.w X.K X.mg X.base z.cm k g fd [s] m) (hr : Room (k + 1) X.A) (hb : Binds X.K fd [s] []) (he : EV X J e ma)
    (hab : attributeBase e f X.env (eval e X.env) = eval e X.env := by rfl) : EV X J (.Attribute e f pos) (fun env => W.bind (ma env) fun d => W.bind (insOf c d) fun _ => W.noX (m [d])) := by
  obtain ⟨t, p, q⟩ := he
  refine ⟨_, pe_prop (E := fun _ _ _ => False) p cl hp F hr hb .nil passNo hab, fun σ H G env Q at_ h => q σ H G env _ at_ ((ma env).mono (fun d h1 v H1 G1 g1 d1 => ?_) (fun _ q => q) h)⟩
  obtain ⟨p, dx, fs, gs, rfl, h2, h3, rfl, h4⟩ := insOf_wp hc d1 h1
  exact ⟨p, dx, fs, rfl, g1.vw.sub _ _ h2, (z.bg.bag, z.bg.lm), G1, _, g1.vw.low, .one d1.low, rfl, (m _).mono (fun d q v H' G' g' dv => q v H' G' (g1.trans (g'.up g1.vw)) dv.up) (fun _ z => z.elim) h4⟩
/-- a constant of a class: C.f -/
theorem ev_cval {C : Addr} {mc' : Value} {v : V} {u : Value} {d : D} (hg : Gl X x) (hm : X.mg x = some (.ref C)) (r : ClX.CRead X.K C mc') (k : ClX.CVal X.K C mc' f v u) (hd : ∀ G, Den X.K z G v d) (hdb : (x == ("__debug__" : Str)) = false := by decide)
    (hb : attributeBase (.Name x p) f X.env (eval (.Name x p) X.env) = eval (.Name x p) X.env := by rfl) : EV X J (.Attribute (.Name x p) f pos) (fun _ => W.pure d) := by
  have pg : PE X (.Name x p) (tC (.ref C)) := pe_glob hg hm rfl hdb
  exact ⟨_, ClX.pe_cval pg hb, fun σ H G env Q at_ h => ⟨C, mc', v, u, rfl, r, k, h v H G (.refl at_.gr.vw) (hd G)⟩⟩
/-- o.m(..) -/
theorem ev_meth {pl : Sem Bool} {c : Str} {C g : Addr} {k : Nat} {fd : FuncData} {ps : List Str} {mm : List D → W D} (hc : z.cm c = some C) (cl : Cls X.K C) (hm : Meth X.K C m g) (F : FnM X.prog X.w X.K X.mg X.base z.cm k g fd ps mm) (hr : Room k X.A) (hb : Binds X.K fd ps []) (hx : Passes (L2.CX X.prog X.w) X J.E)
    (ho : EV X J o mo) (ha : AV X J (e :: es) ms) (hst : starEach (e :: es) X.env = (false, eval e X.env) :: starEach es X.env := by rfl) (hpl : (backTo pos (starEach es X.env)).any (·.1) = false := by rfl)
    (ht : eval (.Call (.Attribute o m apos) (e :: es) [] pos) X.env = (do
      let ov ← eval o X.env
      standAt apos.atName
      let (f, first) ← holding [ov] (getMethod ov m pl)
      callWith pos f first (backTo pos (starEach (e :: es) X.env)) (backToKw pos (keywordEach [] X.env))) := by rfl) {n : Nat} (hn : ps.length = n := by rfl) :
    EV X J (.Call (.Attribute o m apos) (e :: es) [] pos) (fun env => W.bind (mo env) fun d => W.bind (insOf c d) fun gs => W.bind (W.need (gs.lookup m = none)) fun _ => W.bind (ms env) fun ds => callM n mm (d :: ds)) := by
  subst hn
  obtain ⟨t, p, q⟩ := ho
  obtain ⟨ts, pa, qs⟩ := ha
  refine ⟨_, pe_meth p cl hm F hr hb .nil hx pa hst hpl ht, fun σ H G env Q at_ h => q σ H G env _ at_ ((mo env).mono (fun d h1 v H1 G1 g1 d1 => ?_) (fun _ q => q) h)⟩
  obtain ⟨p, dx, fs, gs, rfl, h2, h3, rfl, h4, h5⟩ := insOf_wp hc d1 h1
  refine ⟨p, dx, fs, rfl, g1.vw.sub _ _ h2, h3.none h4, qs σ H1 G1 env _ (at_.grow g1) ((ms env).mono (fun ds h6 vs H2 G2 g2 d2 => ?_) (fun _ q => q) h5)⟩
  show spM X.K z.cm ps.length mm (V.ref p :: (vs ++ [])) H2 Q J.E
  rw [List.append_nil]
  exact ask at_ (g1.trans g2) (.cons (d1.same g2.gg) d2) h6.1 h6.2
theorem ev_meth0 {pl : Sem Bool} {c : Str} {C g : Addr} {k : Nat} {fd : FuncData} {ps : List Str} {mm : List D → W D} (hc : z.cm c = some C) (cl : Cls X.K C) (hm : Meth X.K C m g) (F : FnM X.prog X.w X.K X.mg X.base z.cm k g fd ps mm) (hr : Room k X.A) (hb : Binds X.K fd ps []) (hx : Passes (L2.CX X.prog X.w) X J.E)
    (ho : EV X J o mo)
    (none0 : eval (.Call (.Attribute o m apos) [] [] pos) X.env = (do
      let ov ← eval o X.env
      standAt apos.atName
      let (f, first) ← holding [ov] (getMethod ov m pl)
      callWith pos f first (backTo pos (starEach [] X.env)) (backToKw pos (keywordEach [] X.env))) := by rfl) {n : Nat} (hn : ps.length = n := by rfl) :
    EV X J (.Call (.Attribute o m apos) [] [] pos) (fun env => W.bind (mo env) fun d => W.bind (insOf c d) fun gs => W.bind (W.need (gs.lookup m = none)) fun _ => callM n mm [d]) := by
  subst hn
  obtain ⟨t, p, q⟩ := ho
  refine ⟨_, pe_meth0 p cl hm F hr hb .nil hx none0, fun σ H G env Q at_ h => q σ H G env _ at_ ((mo env).mono (fun d h1 v H1 G1 g1 d1 => ?_) (fun _ q => q) h)⟩
  obtain ⟨p, dx, fs, gs, rfl, h2, h3, rfl, h4, h5⟩ := insOf_wp hc d1 h1
  exact ⟨p, dx, fs, rfl, g1.vw.sub _ _ h2, h3.none h4, ask at_ g1 (.one d1) h5.1 h5.2⟩
end
/-! making an object -/
/-- __init__ by data: m tells the fields that it sets -/
def spI (K : PySem.W.Frag) (cm : Str → Option Addr) (C : Addr) (n : Nat) (m : List D → W (List (Str × D))) : Sp := fun vs H Q E => ∃ (bg : Bl) (G Hb : Hp) (x dx : Addr) (us : List V) (ds : List D), vs = .ref x :: us ∧ H = upd (upd Hb dx (.own x)) x (.ins C dx []) ∧ Hb x = none ∧ Hb dx = none ∧ dx ≠ x ∧
  Vw ⟨cm, ⟨bg.1, [], bg.2⟩⟩ G Hb ∧ Dens K ⟨cm, ⟨bg.1, [], bg.2⟩⟩ G us ds ∧ ds.length + 1 = n ∧ (m ds).wp (fun gs => ∀ H' G' fs, Grow ⟨cm, ⟨bg.1, [], bg.2⟩⟩ G Hb G' H' → G' x = none → H' x = some (.ins C dx fs) → DenF K ⟨cm, ⟨bg.1, [], bg.2⟩⟩ G' fs gs → Q .non H') (fun y => ∀ cls d H' G', Grow ⟨cm, ⟨bg.1, [], bg.2⟩⟩ G Hb G' H' → XDen K ⟨cm, ⟨bg.1, [], bg.2⟩⟩ G' H' cls d y → E cls d H')
/-- a body of an __init__ -/
def SIs (X : Cx) {z : Zk} (J : Jx X.K z) (C : Addr) (ss : List Stmt) (m : Ev → List (Str × D) → W (List (Str × D))) : Prop :=
  ∃ t, PSs X ss t ∧ ∀ (x dx : Addr) σ H G env N fs gs, At X.K z J.G0 J.H0 σ H G env → Vw z J.G0 J.H0 → J.H0 x = none → G x = none → H x = some (.ins C dx fs) → DenF X.K z G fs gs → σ[0]? = some (some (.ref x)) →
    (m env gs).wp (fun gs' => ∀ σ' H' G' fs', Grow z J.G0 J.H0 G' H' → G' x = none → H' x = some (.ins C dx fs') → DenF X.K z G' fs' gs' → N.nx σ' H') J.xQ → t N σ H
def putD (f : Str) (v : D) : List (Str × D) → List (Str × D)
  | [] => [(f, v)]
  | (g, x) :: r => if g = f then (g, v) :: r else (g, x) :: putD f v r
theorem DenF.put {K : PySem.W.Frag} {z : Zk} {G : Hp} {f : Str} {v : V} {d : D} (h : Den K z G v d) : ∀ {fs : List (Str × V)} {gs : List (Str × D)}, DenF K z G fs gs → DenF K z G (putF f v fs) (putD f d gs)
  | _, _, .nil => .cons h .nil
  | _, _, .cons (f := g) (vs := vs) (ds := ds) (v := u) (d := e) q r => by
    show DenF K z G (if g = f then (g, v) :: vs else (g, u) :: putF f v vs) (if g = f then (g, d) :: ds else (g, e) :: putD f d ds)
    by_cases e : g = f
    · rw [if_pos e, if_pos e]
      exact .cons h r
    · rw [if_neg e, if_neg e]
      exact .cons q (DenF.put h r)
theorem DenF.len {K : PySem.W.Frag} {z : Zk} {G : Hp} : ∀ {fs : List (Str × V)} {gs : List (Str × D)}, DenF K z G fs gs → fs.length = gs.length
  | _, _, .nil => rfl
  | _, _, .cons _ r => congrArg (· + 1) r.len
/-- a hidden object other than the lists of one's own is changed -/
theorem At.put {K : PySem.W.Frag} {z : Zk} {G0 H0 G H : Hp} {σ : L2.St} {env : Ev} {x : Addr} {C dx : Addr} {fs : List (Str × V)} {o : HO} (a : At K z G0 H0 σ H G env) (hx : H x = some (.ins C dx fs)) (g : Grow z G0 H0 G (upd H x o)) : At K z G0 H0 σ (upd H x o) G env := by
  refine ⟨g, a.v0, a.en, ⟨fun i ds e => ?_, a.mu.dj⟩⟩
  obtain ⟨p, vs, h1, h2, h3⟩ := a.mu.at_ i ds e
  have ne : p ≠ x := fun q => by
    subst q
    rw [h2] at hx
    cases hx
  exact ⟨p, vs, h1, by rw [upd_ne ne]; exact h2, h3⟩
section
variable {X : Cx} {z : Zk} {J : Jx X.K z} {a b c e o tg : Expr} {es : List Expr} {ss : List Stmt} {ma mb mc mo : Ev → W D} {ms mk : Ev → W (List D)} {pos p apos : Pos} {x f : Str} {C : Addr} {m : Ev → List (Str × D) → W (List (Str × D))}
theorem Grow.keeps {x : Addr} {G H G' H' G0 H0 : Hp} {o : HO} (g : Grow z G H G' H') (v : Vw z G0 H0) (n : H0 x = none) (hx : H x = some o) : H' x = some o := g.fr x o (v.out n) hx
theorem si_nil : SIs X J C [] (fun _ gs => W.pure gs) := ⟨_, pss_nil, fun x dx σ H G env N fs gs at_ v n g0 hx df s0 h => h σ H G fs at_.gr g0 hx df⟩
theorem si_expr (ha : EV X J a ma) (hs : SIs X J C ss m) (hsw : swapsWith a none pos.line X.env = pure false := by rfl) : SIs X J C (.Expr a pos :: ss) (fun env gs => W.bind (ma env) fun _ => m env gs) := by
  obtain ⟨t, p, q⟩ := ha
  obtain ⟨t', p', q'⟩ := hs
  refine ⟨_, pss_cons (ps_expr p hsw) p', fun x dx σ H G env N fs gs at_ v n g0 hx df s0 h => ?_⟩
  refine q σ H G env _ at_ ((ma env).mono (fun d h1 u H1 G1 g1 d1 => ?_) (fun _ q => q) h)
  exact q' x dx σ H1 G1 env N fs gs (at_.grow g1) v n (g1.ap x _ hx (.inr rfl) g0) (g1.keeps v n hx) (df.same g1.gg) s0 h1
theorem si_set (i : Nat) {y : Str} {p' : Pos} (hN : X.N.Nodup) (hi : X.N[i]? = some y) (hy : Loc X.env.scope y) (h0 : 0 ≠ i) (ha : EV X J a ma) (hs : SIs X J C ss m) (hsw : swapsWith a (some (.Name y p')) pos.line X.env = pure false := by rfl) (hf : X.fn y = true ∨ X.env.scope.names.lookup y = some .local := by first | exact .inl rfl | exact .inr rfl) :
    SIs X J C (.Assign [.Name y p'] a pos :: ss) (fun env gs => W.bind (ma env) fun d => m (env.set i (some d)) gs) := by
  obtain ⟨t, p, q⟩ := ha
  obtain ⟨t', p', q'⟩ := hs
  refine ⟨_, pss_cons (ps_set hN hi hy p hsw hf) p', fun x dx σ H G env N fs gs at_ v n g0 hx df s0 h => ?_⟩
  refine q σ H G env _ at_ ((ma env).mono (fun d h1 u H1 G1 g1 d1 => ?_) (fun _ q => q) h)
  refine q' x dx _ H1 G1 (env.set i (some d)) N fs gs ((at_.grow g1).set i d1) v n (g1.ap x _ hx (.inr rfl) g0) (g1.keeps v n hx) (df.same g1.gg) ?_ h1
  rw [List.getElem?_set_ne h0.symm]
  exact s0
theorem si_fld {y : Str} {p1 p2 : Pos} (cl : Cls X.K C) (na : NoAttr X.K C f) (hN : X.N[0]? = some y) (hv : Vis X.env.scope y) (ha : EV X J a ma) (hs : SIs X J C ss m) (hsw : swapsWith a (some (.Attribute (.Name y p1) f p2)) pos.line X.env = pure false := by rfl) (hd : (y == ("__debug__" : Str)) = false := by decide)
    (hcd : (y == ("__classdict__" : Str)) = false := by decide) : SIs X J C (.Assign [.Attribute (.Name y p1) f p2] a pos :: ss) (fun env gs => W.bind (ma env) fun d => W.bind (W.need (gs.length < 1000)) fun _ => m env (putD f d gs)) := by
  obtain ⟨t, p, q⟩ := ha
  obtain ⟨t', p', q'⟩ := hs
  refine ⟨_, pss_cons (ps_fld (pe_var hN hv hd hcd) p hsw) p', fun x dx σ H G env N fs gs at_ v n g0 hx df s0 h => ?_⟩
  refine q σ H G env _ at_ ((ma env).mono (fun d h1 u H1 G1 g1 d1 => ?_) (fun _ q => q) h)
  have gx := g1.ap x _ hx (.inr rfl) g0
  have hx1 := g1.keeps v n hx
  refine ⟨.ref x, s0, x, C, dx, fs, rfl, hx1, cl, na, by rw [df.len]; exact h1.1, ?_⟩
  have gp := (at_.gr.trans g1).put (o := .ins C dx (putF f u fs)) v n gx hx1 (fun _ e => nomatch e) (fun _ e => nomatch e)
  exact q' x dx σ _ G1 env N _ (putD f d gs) ((at_.grow g1).put hx1 gp) v n gx upd_same (DenF.put d1 (df.same g1.gg)) s0 h1.2
end
section
variable {P : Program} {w : World} {K : PySem.W.Frag} {mg : Str → Option Value} {base : Heap} {cm : Str → Option Addr}
abbrev FnI (P : Program) (w : World) (K : PySem.W.Frag) (mg : Str → Option Value) (base : Heap) (cm : Str → Option Addr) (C : Addr) (k : Nat) (f : Addr) (fd : FuncData) (ps : List Str) (m : List D → W (List (Str × D))) : Prop :=
  FnOk P w K mg base (L2.CX P w) k f fd ps (spI K cm C ps.length m)
def runI (n : Nat) (mb : Ev → List (Str × D) → W (List (Str × D))) (ds : List D) : W (List (Str × D)) := mb (none :: startE n ds) []
theorem fnI {x qual : Str} {st : Stmt} {f : Addr} {fd : FuncData} {N ps : List Str} {s0 : Str} {C : Addr} {k : Nat} {mb : Ev → List (Str × D) → W (List (Str × D))} (F : Fun K x qual st f fd) (S : FnScope (s0 :: N) ps (defScope st))
    (body : ∀ (cdv : Value) (A : Around) (outer : List Env) (s : Shared) (H : Hp) (bg : Bl) (J : Jx K ⟨cm, ⟨bg.1, [], bg.2⟩⟩), Room k (A.deeper (envOfC qual (defScope st) s.heap.objs.size f cdv)) →
      Passes (L2.CX P w) (cxOf (L2.CX P w) P w K mg base (s0 :: N) qual (defScope st) f cdv A outer s H J.E) J.E → PassesOwn (model P w) (A.deeper (envOfC qual (defScope st) s.heap.objs.size f cdv)) (envOfC qual (defScope st) s.heap.objs.size f cdv) (cxOf (L2.CX P w) P w K mg base (s0 :: N) qual (defScope st) f cdv A outer s H J.E).xe →
      SIs (cxOf (L2.CX P w) P w K mg base (s0 :: N) qual (defScope st) f cdv A outer s H J.E) J C (defBody st) mb) : FnI P w K mg base cm C (k + 1) f fd ps (runI N.length mb) := by
  refine F.okX S (fun vs H Q E h => ?_) (fun cdv A outer s H vs Q E hr h => ?_)
  · obtain ⟨bg, G, Hb, x, dx, us, ds, rfl, _, _, _, _, _, h1, h2, _⟩ := h
    rw [List.length_cons, h1.len]
    exact h2
  · obtain ⟨bg, G, Hb, x, dx, us, ds, rfl, rfl, nx, nd, ne, vw, hd, _, h⟩ := h
    obtain ⟨t, pt, qt⟩ := body cdv A outer s (upd (upd Hb dx (.own x)) x (.ins C dx [])) bg ⟨G, Hb, E, fun y => ∀ cls d H' G', Grow ⟨cm, ⟨bg.1, [], bg.2⟩⟩ G Hb G' H' → XDen K ⟨cm, ⟨bg.1, [], bg.2⟩⟩ G' H' cls d y → E cls d H', fun y cls d H' G' q g e => q cls d H' G' g e⟩ hr
      (passes_call (takes_of rfl rfl rfl rfl) (fun _ _ _ _ h => h)) (passes_of rfl)
    have n2 : upd Hb dx (.own x) x = none := by
      rw [upd_ne (Ne.symm ne)]
      exact nx
    have g1 : Grow ⟨cm, ⟨bg.1, [], bg.2⟩⟩ G Hb G (upd Hb dx (.own x)) := .hid vw nd
    have g2 : Grow ⟨cm, ⟨bg.1, [], bg.2⟩⟩ G Hb G (upd (upd Hb dx (.own x)) x (.ins C dx [])) := g1.trans (.hid g1.vw n2)
    have en := start_en (N := N) hd
    have e0 : L2.start (s0 :: N) (.ref x :: us) = some (.ref x) :: L2.start N us := by
      unfold L2.start
      simp
    refine ⟨t, pt, qt x dx (L2.start (s0 :: N) (.ref x :: us)) _ G (none :: startE N.length ds) _ [] [] ⟨g2, vw, ?_, ⟨fun i ds' e => ?_, fun i j ds' es p _ e => ?_⟩⟩ vw nx (vw.sub.free nx) upd_same .nil rfl ((mb _ _).mono (fun gs h1 σ' H' G' fs' gr gx hx df => h1 H' G' fs' gr gx hx df) (fun _ q => q) h)⟩
    · rw [e0]
      refine ⟨by rw [List.length_cons, List.length_cons, en.1], fun i d hi m => ?_⟩
      cases i with
      | zero => cases hi
      | succ i => exact en.2 i d hi m
    · cases i with
      | zero => cases e
      | succ i => exact (startE_nomut hd.nomut e).elim
    · cases i with
      | zero => cases e
      | succ i => exact (startE_nomut hd.nomut e).elim
end
section
variable {X : Cx} {z : Zk} {J : Jx X.K z} {e : Expr} {es : List Expr} {ms : Ev → W (List D)} {pos p : Pos} {x : Str}
def makeM (c : Str) (n : Nat) (m : List D → W (List (Str × D))) (ds : List D) : W D := W.bind (W.need (ds.length = n)) fun _ => W.bind (m ds) fun gs => W.pure (.ins c gs)
/-- C(..) -/
theorem ev_make {c : Str} {C f : Addr} {k : Nat} {fd : FuncData} {ps : List Str} {m : List D → W (List (Str × D))} (hc : z.cm c = some C) (M : Mk X.K C f) (F : FnI X.prog X.w X.K X.mg X.base z.cm C k f fd ps m) (hr : Room (k + 1) X.A) (hg : Gl X x) (hm : X.mg x = some (.ref C)) (hb : Binds X.K fd ps []) (hx : Passes (L2.CX X.prog X.w) X J.E)
    (ha : AV X J (e :: es) ms) (hdb : (x == ("__debug__" : Str)) = false := by decide) (he : starEach (e :: es) X.env = (false, eval e X.env) :: starEach es X.env := by rfl) (hpl : (backTo pos (starEach es X.env)).any (·.1) = false := by rfl) {n : Nat} (hn : ps.length = n + 1 := by rfl) :
    EV X J (.Call (.Name x p) (e :: es) [] pos) (fun env => W.bind (ms env) (makeM c n m)) := by
  obtain ⟨ts, pa, qs⟩ := ha
  refine ⟨_, pe_make M F hr hg hm hb .nil hx pa hdb he hpl, fun σ H G env Q at_ h => ?_⟩
  refine qs σ H G env _ at_ ((ms env).mono (fun ds h1 vs H1 G1 g1 d1 => ?_) (fun _ q => q) h)
  intro y dx ny nd ne
  refine ⟨(z.bg.bag, z.bg.lm), G1, H1, y, dx, vs, ds, by rw [List.append_nil], rfl, ny, nd, ne, g1.vw.low, d1.low, by rw [hn, h1.1], (m ds).mono (fun gs h2 H' G' fs gr gy hy df => ⟨rfl, ?_⟩) (fun e q cls d H' G' g' xd => J.hE e cls d H' G' q (at_.gr.trans (g1.trans (g'.up g1.vw))) xd.up) h1.2⟩
  exact h2 _ _ _ (g1.trans ((gr.up g1.vw).shown g1.vw ny gy hy)) (.ins hc upd_same (df.up.same (same_new gy)))
end
end Rg

set_option Elab.async false
set_option linter.all false
set_option maxRecDepth 100000
set_option maxHeartbeats 4500000
/-! the rules by data: isinstance, tuple, list, join, str, texts in braces -/
namespace Rg
open PySem PySem.Spec PyProof.Rows L2
/-- the kind of plain data -/
def tyOf : D → Option String
  | .non => some "NoneType"
  | .bl _ => some "bool"
  | .int _ => some "int"
  | .str _ => some "str"
  | .lst _ => some "list"
  | .tup _ => some "tuple"
  | _ => none
def kinds : List String := ["NoneType", "bool", "int", "str", "list", "tuple"]
def isSub (t u : String) : Bool := t == u || (t == "bool" && u == "int")
theorem kit_all : ∀ t ∈ kinds, ∀ u ∈ kinds, kitB t u = some (isSub t u) := by decide +kernel
theorem tyOf_mem {d : D} {t : String} (h : tyOf d = some t) : t ∈ kinds := by
  cases d <;> cases h <;> decide
theorem tyX_of {K : PySem.W.Frag} {z : Zk} {G H : Hp} {v : V} {d : D} {t : String} (s : Same G H) (h : Den K z G v d) (e : tyOf d = some t) : TyX K H v (.type t) := by
  cases h with
  | non => cases e; exact .base .non
  | bl b => cases e; exact .base (.bl b)
  | int i => cases e; exact .base (.int i)
  | str l _ _ => cases e; exact .base (.str _)
  | lst q _ _ => cases e; exact .base (.lst (s _ _ q))
  | tup q _ _ =>
    cases e
    rcases q with h | ⟨o, _, _, h, c, _⟩
    · exact .base (.tup (s _ _ h))
    · exact .kTuple h c
  | _ => cases e
/-- the names of kinds in a tuple of kinds -/
def tysOf : List D → Option (List String)
  | [] => some []
  | .ty n :: r => (tysOf r).map (n :: ·)
  | _ => none
def isiD (d : D) : D → W D
  | .ty u => W.bind (W.need (u ∈ kinds)) fun _ => ofO ((tyOf d).map fun t => .bl (isSub t u))
  | .tup us => ofO ((tysOf us).bind fun l => if l.all (kinds.contains ·) then (tyOf d).map fun t => .bl (l.any (isSub t)) else none)
  | _ => W.fail
theorem kitAny_of {K : PySem.W.Frag} {t : String} (ht : t ∈ kinds) : ∀ {l : List String}, (∀ u ∈ l, u ∈ kinds) → PySem.W.kitAny K (.type t) (l.map Value.type) = some (l.any (isSub t))
  | [], _ => rfl
  | u :: r, h => by
    have h1 : PySem.W.kitOne K (.type t) (.type u) = some (isSub t u) := kit_ty (kit_all t ht u (h u List.mem_cons_self))
    have h2 := kitAny_of (K := K) ht (l := r) fun x hx => h x (List.mem_cons_of_mem _ hx)
    rw [List.map_cons, List.any_cons]
    exact kitAny_cons h1 (fun e => by rw [e, h2]; rfl) (fun e => by rw [e]; rfl)
theorem tys_den {K : PySem.W.Frag} {z : Zk} {G : Hp} : ∀ {vs : List V} {ds : List D} {l : List String}, Dens K z G vs ds → tysOf ds = some l → Paired ClsV vs (l.map Value.type)
  | _, [], _, h, e => by
    cases h
    cases e
    exact .nil
  | _, d :: r, l, .cons a t, e => by
    cases a with
    | ty n =>
      obtain ⟨l', h1, rfl⟩ := Option.map_eq_some_iff.mp (show (tysOf r).map (n :: ·) = some l from e)
      exact .cons (.ty n) (tys_den t h1)
    | _ => cases e
section
variable {X : Cx} {z : Zk} {J : Jx X.K z} {a b c e o tg : Expr} {es : List Expr} {ma mb mc mo : Ev → W D} {ms mk : Ev → W (List D)} {pos p apos : Pos} {x f m : Str}
theorem ca_isi : CaD X J (.builtin "isinstance") (two2 isiD) := by
  refine ⟨fun xs H Q => rIsi X.K xs H Q ∨ rIsiT X.K xs H Q ∨ rIsiK X.K xs H Q, fun pins s σ H xs us Q I r h => ?_, fun vs ds H G Q vw hd h => ?_⟩
  · rcases h with h | h | h
    · exact call_isi pins s σ H xs us Q I r h
    · exact call_isiT pins s σ H xs us Q I r h
    · exact call_isiK pins s σ H xs us Q I r h
  · obtain ⟨v, w, d, e, rfl, rfl, a1, a2, h⟩ := two2_wp hd h
    cases a2 with
    | ty u =>
      obtain ⟨hu, h⟩ := h
      obtain ⟨y, h1, h2⟩ := ofO_wp h
      obtain ⟨t, h3, rfl⟩ := Option.map_eq_some_iff.mp h1
      exact .inl ⟨v, _, _, _, _, rfl, .ty u, tyX_of vw.sub a1 h3, kit_ty (kit_all t (tyOf_mem h3) u hu), h2 _ _ _ (.refl vw) (.bl _)⟩
    | tup q r l =>
      obtain ⟨y, h1, h2⟩ := ofO_wp h
      obtain ⟨l', h3, h4⟩ := Option.bind_eq_some_iff.mp h1
      split at h4
      · rename_i hk
        obtain ⟨t, h5, rfl⟩ := Option.map_eq_some_iff.mp h4
        have hk' : ∀ u ∈ l', u ∈ kinds := fun u hu => by
          have := List.all_eq_true.mp hk u hu
          simpa using this
        rcases q with q1 | ⟨o, its, n, k1, k2, k3, k4, k5⟩
        · exact .inr (.inl ⟨v, _, _, _, _, _, rfl, vw.sub _ _ q1, tys_den r h3, tyX_of vw.sub a1 h5, kitAny_of (tyOf_mem h5) hk', h2 _ _ _ (.refl vw) (.bl _)⟩)
        · have ei : its.toList = l'.map Value.type := ClsV.all (tys_den r h3) k5
          obtain ⟨oc, od, dat, sl⟩ := o
          cases k2
          cases k3
          refine .inr (.inr ⟨v, _, od, l'.map Value.type, n, sl, _, _, rfl, ?_, tyX_of vw.sub a1 h5, kitAny_of (tyOf_mem h5) hk', h2 _ _ _ (.refl vw) (.bl _)⟩)
          rw [k1, ← ei]
      · cases h4
    | _ => exact h.elim
def tupleD : D → W D
  | .lst ds => W.pure (.tup ds)
  | .tup ds => W.pure (.tup ds)
  | _ => W.fail
theorem ca_tuple : CaD X J (.type "tuple") (one1 tupleD) := by
  refine ⟨_, call_tuple_of, fun vs ds H G Q vw hd h => ?_⟩
  obtain ⟨v, d, rfl, rfl, a1, h⟩ := one1_wp hd h
  cases a1 with
  | lst q r l => exact ⟨_, _, rfl, .inl ⟨SqL.of (vw.sub _ _ q), fun p np => h _ _ _ (.new vw np) (.tup (.inl upd_same) (r.same (same_new (vw.sub.free np))) l)⟩⟩
  | tup q r l => exact ⟨_, _, rfl, .inr ⟨(q.to vw.sub), h _ _ _ (.refl vw) (.tup q r l)⟩⟩
  | _ => exact h.elim
def listD : D → W D
  | .lst ds => W.pure (.lst ds)
  | .tup ds => W.pure (.lst ds)
  | _ => W.fail
theorem ca_list : CaD X J (.type "list") (one1 listD) := by
  refine ⟨_, call_list_of, fun vs ds H G Q vw hd h => ?_⟩
  obtain ⟨v, d, rfl, rfl, a1, h⟩ := one1_wp hd h
  cases a1 with
  | lst q r l => exact ⟨_, _, rfl, .inl (SqL.of (vw.sub _ _ q)), fun p np => h _ _ _ (.new vw np) (.lst upd_same (r.same (same_new (vw.sub.free np))) l)⟩
  | tup q r l => exact ⟨_, _, rfl, .inr ((q.to vw.sub)), fun p np => h _ _ _ (.new vw np) (.lst upd_same (r.same (same_new (vw.sub.free np))) l)⟩
  | _ => exact h.elim
/-- texts put together -/
def joinL (s : List Nat) : List (List Nat) → List Nat
  | [] => []
  | [x] => x
  | x :: r => x ++ s ++ joinL s r
def strsOf : List D → Option (List (List Nat))
  | [] => some []
  | .str l :: r => (strsOf r).map (l :: ·)
  | _ => none
def strOf : D → W (List Nat)
  | .str l => W.pure l
  | _ => W.fail
def joinD (s : List Nat) : D → W D
  | .lst ds => W.bind (W.need (∃ ls, strsOf ds = some ls ∧ (ls.map (·.length)).sum + ls.length * s.length ≤ big)) fun _ => ofO ((strsOf ds).map fun ls => .str (joinL s ls))
  | _ => W.fail
theorem sOf_nil : (Str.ofString "" : Str) = sOf [] := rfl
theorem join_sOf (s : List Nat) : ∀ ls : List (List Nat), Str.join (sOf s) (ls.map sOf) = sOf (joinL s ls)
  | [] => rfl
  | [x] => rfl
  | x :: y :: r => by
    show sOf x ++ sOf s ++ Str.join (sOf s) ((y :: r).map sOf) = _
    rw [join_sOf s (y :: r), sOf_app, sOf_app]
    rfl
theorem txtJoin_sOf (s : List Nat) (ls : List (List Nat)) : Txt.join (sOf s) (ls.map sOf) = sOf (joinL s ls) := by
  show Builtin.Str.glued (sOf s) (ls.map sOf) = _
  rw [StrLaws.glued_eq_join]
  exact join_sOf s ls
theorem strs_den {K : PySem.W.Frag} {G : Hp} : ∀ {vs : List V} {ds : List D} {ls : List (List Nat)}, Dens K z G vs ds → strsOf ds = some ls → vs = (ls.map sOf).map V.str ∧ ∀ l ∈ ls, ∀ c ∈ l, c < 1114112
  | _, [], _, h, e => by
    cases h
    cases e
    exact ⟨rfl, fun _ z => nomatch z⟩
  | _, d :: r, ls, .cons a t, e => by
    cases a with
    | str l h1 h2 =>
      obtain ⟨l', h3, rfl⟩ := Option.map_eq_some_iff.mp (show (strsOf r).map (l :: ·) = some ls from e)
      obtain ⟨e1, e2⟩ := strs_den t h3
      refine ⟨by rw [e1]; rfl, fun x hx c hc => ?_⟩
      cases hx with
      | head => exact h2 c hc
      | tail _ rest => exact e2 x rest c hc
    | _ => cases e
theorem joinL_len (s : List Nat) : ∀ ls : List (List Nat), (joinL s ls).length ≤ (ls.map (·.length)).sum + ls.length * s.length
  | [] => Nat.zero_le _
  | [x] => by simp [joinL]
  | x :: y :: r => by
    have := joinL_len s (y :: r)
    show (x ++ s ++ joinL s (y :: r)).length ≤ _
    simp only [List.length_append, List.map_cons, List.sum_cons, List.length_cons, Nat.add_mul, Nat.one_mul] at this ⊢
    omega
theorem joinL_mem {s : List Nat} {c : Nat} : ∀ {ls : List (List Nat)}, c ∈ joinL s ls → c ∈ s ∨ ∃ l ∈ ls, c ∈ l
  | [x], h => .inr ⟨x, List.mem_singleton.mpr rfl, h⟩
  | x :: y :: r, h => by
    have h : c ∈ x ++ s ++ joinL s (y :: r) := h
    simp only [List.mem_append] at h
    match h with
    | .inl (.inl first) => exact .inr ⟨x, List.mem_cons_self, first⟩
    | .inl (.inr between) => exact .inl between
    | .inr later =>
      match joinL_mem later with
      | .inl between => exact .inl between
      | .inr ⟨l, h1, h2⟩ => exact .inr ⟨l, List.mem_cons_of_mem _ h1, h2⟩
theorem ev_join (ho : EV X J o mo) (he : EV X J e ma) (hs : starEach [e] X.env = [(false, eval e X.env)] := by rfl) (hbase : attributeBase o "join" X.env (eval o X.env) = eval o X.env := by rfl) (hline : (apos.endLine == pos.line) = true := by rfl) :
    EV X J (.Call (.Attribute o "join" apos) [e] [] pos) (fun env => W.bind (W.bind (mo env) strOf) fun s => W.bind (ma env) (joinD s)) := by
  obtain ⟨t, p, q⟩ := ho
  obtain ⟨t', p', q'⟩ := he
  refine ⟨_, pe_join p p' hs hbase hline, fun σ H G env Q at_ h => q σ H G env _ at_ ((mo env).mono (fun d h1 v H1 G1 g1 d1 => ?_) (fun _ q => q) h)⟩
  cases d1 with
  | str s hs1 hs2 =>
    refine ⟨⟨_, rfl⟩, q' σ H1 G1 env _ (at_.grow g1) ((ma env).mono (fun e h2 u H2 G2 g2 d2 => ?_) (fun _ q => q) h1)⟩
    cases d2 with
    | lst qa r l =>
      obtain ⟨⟨ls, e1, sz⟩, h3⟩ := h2
      obtain ⟨y, h4, h5⟩ := ofO_wp h3
      rw [e1] at h4
      cases h4
      obtain ⟨rfl, e3⟩ := strs_den r e1
      refine ⟨_, _, ls.map sOf, rfl, rfl, .inl (SqL.of (g2.vw.sub _ _ qa)), ?_, ?_⟩
      · rw [List.map_map, List.length_map, len_sOf]
        have em : (fun x : Str => x.length) ∘ sOf = fun l : List Nat => l.length := funext len_sOf
        rw [em]
        exact Nat.le_trans sz (by decide)
      · rw [txtJoin_sOf]
        refine h5 _ _ _ (g1.trans g2) (.str _ (Nat.le_trans (joinL_len s ls) sz) fun c hc => ?_)
        rcases joinL_mem hc with hc | ⟨l, h6, h7⟩
        · exact hs2 c hc
        · exact e3 l h6 c h7
    | _ => exact h2.elim
  | _ => exact h1.elim
end
end Rg

set_option Elab.async false
set_option linter.all false
set_option maxRecDepth 100000
set_option maxHeartbeats 4500000
/-! the rules by data: lists of one's own, that are changed until they are shown -/
namespace Rg
open PySem PySem.Spec PyProof.Rows L2
section
variable {K : PySem.W.Frag} {z : Zk} {G0 H0 G H : Hp} {σ : L2.St} {env : Ev} {p : Addr} {vs ws : List V} {ds es : List D} {i : Nat}
/-- a new list that is not shown -/
theorem At.setOwn (a : At K z G0 H0 σ H G env) (i : Nat) (hp : H p = some (.lst vs)) (gp : G p = none) (h0 : H0 p = none) (hd : Dens K z G vs ds) (hl : ds.length ≤ big) (new : ∀ (j : Nat) (es : List D), j ≠ i → env[j]? = some (some (.own es)) → σ[j]? ≠ some (some (.ref p))) :
    At K z G0 H0 (σ.set i (some (.ref p))) H G (env.set i (some (.own ds))) := by
  refine ⟨a.gr, a.v0, a.en.set i fun z => (nomatch z), ⟨fun j es e => ?_, fun j k es fs q n e1 e2 s1 s2 => ?_⟩⟩
  · rcases set_some e with ⟨rfl, l, e1⟩ | ⟨c, e⟩
    · cases e1
      exact ⟨p, vs, List.getElem?_set_self (by rw [← a.en.1]; exact l), hp, gp, h0, hd, hl⟩
    · rw [List.getElem?_set_ne c]
      exact a.mu.at_ j es e
  · rcases set_some e1 with ⟨rfl, l, f1⟩ | ⟨c1, f1⟩
    · rcases set_some e2 with ⟨rfl, _, _⟩ | ⟨c2, f2⟩
      · exact n rfl
      · rw [List.getElem?_set_self (by rw [← a.en.1]; exact l)] at s1
        cases s1
        rw [List.getElem?_set_ne c2] at s2
        exact new k fs n.symm f2 s2
    · rw [List.getElem?_set_ne c1] at s1
      rcases set_some e2 with ⟨rfl, l, _⟩ | ⟨c2, f2⟩
      · rw [List.getElem?_set_self (by rw [← a.en.1]; exact l)] at s2
        cases s2
        exact new j es n f1 s1
      · rw [List.getElem?_set_ne c2] at s2
        exact a.mu.dj j k es fs q n f1 f2 s1 s2
/-- such a list is changed -/
theorem At.chg (a : At K z G0 H0 σ H G env) (e : env[i]? = some (some (.own ds))) (s : σ[i]? = some (some (.ref p))) (hd : Dens K z G ws es) (hl : es.length ≤ big) : At K z G0 H0 σ (upd H p (.lst ws)) G (env.set i (some (.own es))) := by
  obtain ⟨p', vs, h1, h2, h3, h4, h5, h6⟩ := a.mu.at_ i ds e
  rw [s] at h1
  cases h1
  have gp := a.gr.put (o := .lst ws) a.v0 h4 h3 h2 (fun _ e => nomatch e) (fun _ e => nomatch e)
  have il : i < env.length := (List.getElem?_eq_some_iff.mp e).1
  have key : ∀ (j : Nat) (fs : List D), (env.set i (some (.own es)))[j]? = some (some (.own fs)) → ∃ gs, env[j]? = some (some (.own gs)) := fun j fs q => by
    rcases set_some q with ⟨rfl, _, _⟩ | ⟨_, q⟩
    · exact ⟨ds, e⟩
    · exact ⟨fs, q⟩
  refine ⟨gp, a.v0, ⟨by rw [List.length_set]; exact a.en.1, fun j d q m => ?_⟩, ⟨fun j fs q => ?_, fun j k fs gs q n e1 e2 s1 s2 => ?_⟩⟩
  · rcases set_some q with ⟨_, _, e1⟩ | ⟨_, q⟩
    · cases e1
      cases m
    · exact a.en.2 j d q m
  · rcases set_some q with ⟨rfl, _, e1⟩ | ⟨c, q⟩
    · cases e1
      exact ⟨p, ws, s, upd_same, h3, h4, hd, hl⟩
    · obtain ⟨p2, vs2, g1, g2, g3⟩ := a.mu.at_ j fs q
      have ne : p2 ≠ p := fun z => a.mu.dj i j ds fs p c e q s (by rw [← z]; exact g1)
      exact ⟨p2, vs2, g1, by rw [upd_ne ne]; exact g2, g3⟩
  · obtain ⟨_, e1⟩ := key j fs e1
    obtain ⟨_, e2⟩ := key k gs e2
    exact a.mu.dj j k _ _ q n e1 e2 s1 s2
/-- such a list is shown from now on -/
def frz (i : Nat) (env : Ev) : Ev := match env[i]? with
  | some (some (.own ds)) => env.set i (some (.lst ds))
  | _ => env
theorem At.frz (a : At K z G0 H0 σ H G env) (i : Nat) : ∃ G', At K z G0 H0 σ H G' (frz i env) ∧ Same G G' := by
  unfold Rg.frz
  split
  · rename_i ds e
    obtain ⟨p, vs, h1, h2, h3, h4, h5, h6⟩ := a.mu.at_ i ds e
    have sn : Same G (upd G p (.lst vs)) := same_new h3
    have gp := a.gr.shown (o := .lst vs) a.v0 h4 h3 h2
    refine ⟨upd G p (.lst vs), ⟨gp, a.v0, ?_, ⟨fun j fs q => ?_, fun j k fs gs q n e1 e2 s1 s2 => ?_⟩⟩, sn⟩
    · refine ⟨by rw [List.length_set]; exact a.en.1, fun j d q m => ?_⟩
      rcases set_some q with ⟨rfl, _, e1⟩ | ⟨_, q⟩
      · cases e1
        exact ⟨.ref p, h1, .lst upd_same (h5.same sn) h6⟩
      · obtain ⟨v, g1, g2⟩ := a.en.2 j d q m
        exact ⟨v, g1, g2.same sn⟩
    · rcases set_some q with ⟨_, _, e1⟩ | ⟨c, q⟩
      · cases e1
      · obtain ⟨p2, vs2, g1, g2, g3, g4, g5, g6⟩ := a.mu.at_ j fs q
        have ne : p2 ≠ p := fun z => a.mu.dj i j ds fs p c e q h1 (by rw [← z]; exact g1)
        exact ⟨p2, vs2, g1, g2, by rw [upd_ne ne]; exact g3, g4, g5.same sn, g6⟩
    · rcases set_some e1 with ⟨_, _, z1⟩ | ⟨_, f1⟩
      · cases z1
      · rcases set_some e2 with ⟨_, _, z2⟩ | ⟨_, f2⟩
        · cases z2
        · exact a.mu.dj j k fs gs q n f1 f2 s1 s2
  · exact ⟨G, a, Same.refl _⟩
end
section
variable {X : Cx} {z : Zk} {J : Jx X.K z} {a b c e tg iter elt : Expr} {es ifs : List Expr} {st : Stmt} {ss : List Stmt} {ma mb mc me : Ev → W D} {ms mi : Ev → W (List D)} {mt mt' : Ev → W Bool} {mf mg' : Ev → W Fl} {pos p' apos cpos : Pos} {x : Str} {i : Nat}
/-- from here on the list in the slot i is shown -/
theorem sv_frz (i : Nat) (h : SVs X J ss mf) : SVs X J ss (fun env => mf (frz i env)) := by
  obtain ⟨t, p, q⟩ := h
  refine ⟨t, p, fun σ H G env N at_ h => ?_⟩
  obtain ⟨G', at', s⟩ := at_.frz i
  exact q σ H G' _ N at' ((mf _).mono (FlQ.up s) (fun _ q => q) h)
/-- x = [] -/
theorem sv_own (i : Nat) (hN : X.N.Nodup) (hi : X.N[i]? = some x) (hx : Loc X.env.scope x) {lp : Pos} (hs : swapsWith (.List [] lp) (some (.Name x p')) pos.line X.env = pure false := by rfl) (hf : X.fn x = true ∨ X.env.scope.names.lookup x = some .local := by first | exact .inl rfl | exact .inr rfl) :
    SV X J (.Assign [.Name x p'] (.List [] lp) pos) (fun env => W.pure (.nx (env.set i (some (.own []))))) := by
  refine ⟨_, ps_set hN hi hx (pe_lst pa_nil) hs hf, fun σ H G env N at_ h => ⟨Nat.zero_le _, fun p np => ?_⟩⟩
  have g1 : Grow z G H G (upd H p (.lst [])) := .hid at_.gr.vw np
  have n0 : J.H0 p = none := by
    cases e : J.H0 p with
    | none => rfl
    | some o =>
      obtain ⟨o', h'⟩ := at_.gr.there e
      rw [np] at h'
      cases h'
  exact h _ _ G ((at_.grow g1).setOwn i upd_same (at_.gr.vw.sub.free np) n0 .nil (Nat.zero_le _) fun j es c e s => by
    obtain ⟨p2, vs, h1, h2, _⟩ := at_.mu.at_ j es e
    rw [h1] at s
    cases s
    rw [np] at h2
    cases h2) (Same.refl _)
/-- x, y = ([], []) -/
theorem sv_own2 (i j : Nat) {y : Str} {px py pt pt2 l1 l2 : Pos} {kt k2 : Nat} (hc : X.calm = true) (hN : X.N.Nodup) (hi : X.N[i]? = some x) (hj : X.N[j]? = some y) (hij : i ≠ j) (hx : X.env.scope.names.lookup x = some .local) (hy : X.env.scope.names.lookup y = some .local)
    (hw : swappedStores [.Tuple [.Name x px, .Name y py] kt pt] (.Tuple [.List [] l1, .List [] l2] k2 pt2) X.env = pure (some [x, y]) := by rfl) (hs : swapsWithSole [.Tuple [.Name x px, .Name y py] kt pt] (.Tuple [.List [] l1, .List [] l2] k2 pt2) pos.line X.env = pure false := by rfl)
    (h1 : starEach [.List [] l1, .List [] l2] X.env = (false, eval (.List [] l1) X.env) :: starEach [.List [] l2] X.env := by rfl) (h2 : starEach [.List [] l2] X.env = (false, eval (.List [] l2) X.env) :: starEach [] X.env := by rfl) :
    SV X J (.Assign [.Tuple [.Name x px, .Name y py] kt pt] (.Tuple [.List [] l1, .List [] l2] k2 pt2) pos) (fun env => W.pure (.nx ((env.set i (some (.own []))).set j (some (.own []))))) := by
  refine ⟨_, ps_par hc hN hi hj hij hx hy (pa_cons (pe_lst pa_nil) (pa_cons (pe_lst pa_nil) pa_nil h2) h1) hw hs, fun σ H G env N at_ h => ⟨Nat.zero_le _, fun p np => ⟨Nat.zero_le _, fun q nq => ⟨_, _, rfl, ?_⟩⟩⟩⟩
  have fresh : ∀ {p : Addr} {H' : Hp}, Grow z J.G0 J.H0 G H' → H' p = none → J.H0 p = none := fun {p H'} g np => by
    cases e : J.H0 p with
    | none => rfl
    | some o =>
      obtain ⟨o', h'⟩ := g.there e
      rw [np] at h'
      cases h'
  have g1 : Grow z G H G (upd H p (.lst [])) := .hid at_.gr.vw np
  have a1 := (at_.grow g1).setOwn i upd_same (at_.gr.vw.sub.free np) (fresh at_.gr np) .nil (Nat.zero_le _) fun j es c e s => by
    obtain ⟨p2, vs, h1, h2, _⟩ := at_.mu.at_ j es e
    rw [h1] at s
    cases s
    rw [np] at h2
    cases h2
  have g2 : Grow z G (upd H p (.lst [])) G (upd (upd H p (.lst [])) q (.lst [])) := .hid a1.gr.vw nq
  exact h _ _ G ((a1.grow g2).setOwn j upd_same (a1.gr.vw.sub.free nq) (fresh a1.gr nq) .nil (Nat.zero_le _) fun j es c e s => by
    obtain ⟨p2, vs, h1, h2, _⟩ := a1.mu.at_ j es e
    rw [h1] at s
    cases s
    rw [nq] at h2
    cases h2) (Same.refl _)
/-- name = [..]: a list of one's own -/
theorem sv_lcOwn {i : Nat} (h : ∃ t, PS X st t ∧ ∀ σ H G env N, At X.K z J.G0 J.H0 σ H G env → (ms env).wp (OwnQ X.K z G H fun v H' => N.nx (σ.set i (some v)) H') J.xQ → t N σ H) : SV X J st (fun env => W.bind (ms env) fun ys => W.pure (.nx (env.set i (some (.own ys))))) := by
  obtain ⟨t, p, q⟩ := h
  refine ⟨t, p, fun σ H G env N at_ h => q σ H G env N at_ ((ms env).mono (fun ys h1 D H' G' acc g nD gD hD da l => ?_) (fun _ q => q) h)⟩
  have n0 : J.H0 D = none := by
    cases e : J.H0 D with
    | none => rfl
    | some o =>
      obtain ⟨o', h'⟩ := at_.gr.there e
      rw [nD] at h'
      cases h'
  exact h1 _ H' G' ((at_.grow g).setOwn i hD gD n0 da l fun j es c e s => by
    obtain ⟨p2, vs, h1, h2, _⟩ := at_.mu.at_ j es e
    rw [h1] at s
    cases s
    rw [nD] at h2
    cases h2) g.gg
/-- the list of one's own in the slot i -/
def ownOf (env : Ev) (i : Nat) : W (List D) := match env[i]? with
  | some (some (.own ds)) => W.pure ds
  | _ => W.fail
theorem ownOf_wp {env : Ev} {i : Nat} {Q : List D → Prop} {E : ExD → Prop} (h : (ownOf env i).wp Q E) : ∃ ds, env[i]? = some (some (.own ds)) ∧ Q ds := by
  unfold ownOf at h
  split at h
  · exact ⟨_, by assumption, h⟩
  · exact h.elim
/-- x.append(e) -/
theorem sv_app (i : Nat) (hN : X.N[i]? = some x) (hv : Vis X.env.scope x) (ha : EV X J a ma) (hs : swapsWith (.Call (.Attribute (.Name x p') "append" apos) [a] [] cpos) none pos.line X.env = pure false := by rfl) (hd : (x == ("__debug__" : Str)) = false := by decide) (hcd : (x == ("__classdict__" : Str)) = false := by decide)
    (hbase : attributeBase (.Name x p') "append" X.env (eval (.Name x p') X.env) = eval (.Name x p') X.env := by rfl)
    (hfew : ((backTo cpos (starEach [a] X.env)).all (fun x => !x.1) && (backToKw cpos (keywordEach [] X.env)).all (fun x => x.1.isSome) && decide (([a] : List Expr).length + ([] : List Keyword).length + (if ([] : List Keyword).isEmpty then 0 else 1) < 30)) = true := by rfl)
    (hline : (apos.endLine == cpos.line) = true := by rfl) (hst : starEach [a] X.env = (false, eval a X.env) :: starEach [] X.env := by rfl) (hplain : (backTo cpos (starEach [] X.env)).any (·.1) = false := by rfl) :
    SV X J (.Expr (.Call (.Attribute (.Name x p') "append" apos) [a] [] cpos) pos) (fun env => W.bind (ownOf env i) fun ds => W.bind (ma env) fun d => W.bind (W.need (ds.length < big)) fun _ => W.pure (.nx (env.set i (some (.own (ds ++ [d])))))) := by
  obtain ⟨t, p, q⟩ := ha
  refine ⟨_, ps_expr (pe_bm PySem.F.plainAttrs_list PySem.F.slot_list_append PySem.F.type_list_append mt_append (pe_var hN hv hd hcd) (pa_cons p pa_nil hst) hbase hfew hline hst hplain) hs, fun σ H G env N at_ h => ?_⟩
  obtain ⟨ds, e, h⟩ := ownOf_wp h
  obtain ⟨l, vs, h1, h2, h3⟩ := at_.mu.at_ i ds e
  refine ⟨.ref l, h1, .inl ⟨rfl, vs, SqL.of h2⟩, q σ H G env _ at_ ((ma env).mono (fun d h4 v H1 G1 g1 d1 => ?_) (fun _ q => q) h)⟩
  have a1 := at_.grow g1
  obtain ⟨l', vs', k1, k2, k3, k4, k5, k6⟩ := a1.mu.at_ i ds e
  rw [h1] at k1
  cases k1
  refine ⟨l, vs', v, rfl, rfl, k2, ?_, ?_⟩
  · rw [k5.len]
    exact Nat.lt_trans h4.1 big_lt
  · refine h4.2 σ _ G1 (a1.chg e h1 (k5.app (.one d1)) ?_) g1.gg
    rw [List.length_append]
    exact h4.1
/-- x.insert(n, e) -/
theorem sv_ins (i : Nat) (hN : X.N[i]? = some x) (hv : Vis X.env.scope x) (ha : EV X J a ma) (hb : EV X J b mb) (hs : swapsWith (.Call (.Attribute (.Name x p') "insert" apos) [a, b] [] cpos) none pos.line X.env = pure false := by rfl) (hd : (x == ("__debug__" : Str)) = false := by decide) (hcd : (x == ("__classdict__" : Str)) = false := by decide)
    (hbase : attributeBase (.Name x p') "insert" X.env (eval (.Name x p') X.env) = eval (.Name x p') X.env := by rfl)
    (hfew : ((backTo cpos (starEach [a, b] X.env)).all (fun x => !x.1) && (backToKw cpos (keywordEach [] X.env)).all (fun x => x.1.isSome) && decide (([a, b] : List Expr).length + ([] : List Keyword).length + (if ([] : List Keyword).isEmpty then 0 else 1) < 30)) = true := by rfl)
    (hline : (apos.endLine == cpos.line) = true := by rfl) (hst : starEach [a, b] X.env = (false, eval a X.env) :: starEach [b] X.env := by rfl) (hst2 : starEach [b] X.env = (false, eval b X.env) :: starEach [] X.env := by rfl) (hplain : (backTo cpos (starEach [b] X.env)).any (·.1) = false := by rfl) :
    SV X J (.Expr (.Call (.Attribute (.Name x p') "insert" apos) [a, b] [] cpos) pos) (fun env => W.bind (ownOf env i) fun ds => W.bind (ma env) fun n => W.bind (mb env) fun d => W.bind (int1 n) fun n => W.bind (W.need (ds.length < big ∧ 0 ≤ n ∧ n ≤ (big : Nat))) fun _ => W.pure (.nx (env.set i (some (.own (ds.take n.toNat ++ [d] ++ ds.drop n.toNat)))))) := by
  obtain ⟨t, p, q⟩ := ha
  obtain ⟨t2, p2, q2⟩ := hb
  refine ⟨_, ps_expr (pe_bm PySem.F.plainAttrs_list PySem.F.slot_list_insert PySem.F.type_list_insert mt_insert (pe_var hN hv hd hcd) (pa_cons p (pa_cons p2 pa_nil hst2) hst) hbase hfew hline hst hplain) hs, fun σ H G env N at_ h => ?_⟩
  obtain ⟨ds, e, h⟩ := ownOf_wp h
  obtain ⟨l, vs, h1, h2, h3⟩ := at_.mu.at_ i ds e
  refine ⟨.ref l, h1, .inl ⟨rfl, vs, SqL.of h2⟩, q σ H G env _ at_ ((ma env).mono (fun d0 h4 v H1 G1 g1 d1 => ?_) (fun _ q => q) h)⟩
  refine q2 σ H1 G1 env _ (at_.grow g1) ((mb env).mono (fun d h5 u H2 G2 g2 d2 => ?_) (fun _ q => q) h4)
  have a2 := (at_.grow g1).grow g2
  obtain ⟨l', vs', k1, k2, k3, k4, k5, k6⟩ := a2.mu.at_ i ds e
  rw [h1] at k1
  cases k1
  obtain ⟨n, rfl, ⟨l1, n0, n1⟩, h6⟩ := int1_wp d1 h5
  have b63 : ((big : Nat) : Int) < 2 ^ 63 := by decide
  refine ⟨l, vs', n, u, rfl, rfl, k2, ?_, n0, by omega, ?_⟩
  · rw [k5.len]
    exact Nat.lt_trans l1 big_lt
  · refine h6 σ _ G2 (a2.chg e h1 (((k5.take _).app (.one d2)).app (k5.drop _)) ?_) (g1.gg.trans g2.gg)
    simp only [List.length_append, List.length_take, List.length_drop, List.length_singleton]
    omega
/-- len(x) of such a list -/
theorem ev_lenOwn (i : Nat) {p : Pos} (hg : Gl X "len") (hm : X.mg "len" = none) (hN : X.N[i]? = some x) (hv : Vis X.env.scope x) (hd : (x == ("__debug__" : Str)) = false := by decide) (hcd : (x == ("__classdict__" : Str)) = false := by decide)
    (he : starEach [.Name x p'] X.env = (false, eval (.Name x p') X.env) :: starEach [] X.env := by rfl) (hpl : (backTo pos (starEach [] X.env)).any (·.1) = false := by rfl) :
    EV X J (.Call (.Name "len" p) [.Name x p'] [] pos) (fun env => W.bind (ownOf env i) fun ds => W.pure (.int (ds.length : Nat))) := by
  refine ⟨_, pe_callB call_len hg hm PySem.boot_len (pa_cons (pe_var hN hv hd hcd) pa_nil he) (by decide) (by decide) he hpl, fun σ H G env Q at_ h => ?_⟩
  obtain ⟨ds, e, h⟩ := ownOf_wp h
  obtain ⟨l, vs, h1, h2, h3, h4, h5, h6⟩ := at_.mu.at_ i ds e
  exact ⟨.ref l, h1, .ref l, ds.length, rfl, .inl ⟨vs, SqL.of h2, h5.len.symm⟩, h _ _ _ (.refl at_.gr.vw) (.int _)⟩
end
end Rg

set_option Elab.async false
set_option linter.all false
set_option maxRecDepth 100000
set_option maxHeartbeats 4500000
/-! the rules by data: list(range(..)), str(n), texts repeated, own objects asked by len, repr, == -/
namespace Rg
open PySem PySem.Spec PyProof.Rows L2
section
variable {X : Cx} {z : Zk} {J : Jx X.K z} {a b c e o tg : Expr} {es : List Expr} {ma mb mc mo : Ev → W D} {ms mk : Ev → W (List D)} {pos p p2 pos2 apos : Pos} {x f m : Str}
def listRange (d : D) : W D := W.bind (int1 d) fun n => W.bind (W.need (0 ≤ n ∧ n ≤ (big : Nat))) fun _ => W.pure (.lst (irange 0 n.toNat))
theorem dens_range {K : PySem.W.Frag} {G : Hp} (lo : Int) : ∀ l : List Nat, Dens K z G (l.map fun i => V.int (lo + (i : Nat))) (l.map fun i => D.int (lo + (i : Nat)))
  | [] => .nil
  | i :: r => .cons (.int _) (dens_range lo r)
theorem ev_listRange (hc : X.calm = true) (hg : Gl X "list") (hm : X.mg "list" = none) (hg2 : Gl X "range") (hm2 : X.mg "range" = none) (ha : EV X J a ma) (na : starEach [a] X.env = (false, eval a X.env) :: starEach [] X.env := by rfl)
    (nb : starEach [.Call (.Name "range" p2) [a] [] pos2] X.env = (false, eval (.Call (.Name "range" p2) [a] [] pos2) X.env) :: starEach [] X.env := by rfl) :
    EV X J (.Call (.Name "list" p) [.Call (.Name "range" p2) [a] [] pos2] [] pos) (fun env => W.bind (ma env) listRange) := by
  obtain ⟨t, pa, qa⟩ := ha
  refine ⟨_, pe_listRg hc hg hm (prg_1 hg2 hm2 pa na) nb, fun σ H G env Q at_ h => qa σ H G env _ at_ ((ma env).mono (fun d h1 v H1 G1 g1 d1 => ?_) (fun _ q => q) h)⟩
  obtain ⟨n, rfl, ⟨n0, n1⟩, h2⟩ := int1_wp d1 h1
  have hb : ((big : Nat) : Int) ≤ 16777216 := by decide
  refine ⟨n, rfl, RgOk.of_le (by omega) (by omega) (by omega) (by omega), fun q nq => h2 _ _ _ (g1.trans (.new g1.vw nq)) (.lst upd_same ?_ ?_)⟩
  · unfold rgV irange
    rw [Int.sub_zero]
    exact dens_range 0 _
  · unfold irange
    have many : ((List.range n.toNat).map fun i => D.int (0 + (i : Nat))).length = n.toNat := by simp
    omega
/-! special methods of own classes -/
theorem run_in1 {CX : CXT} {k : Nat} {f : Addr} {fd : FuncData} {ps : List Str} {sp : Sp} {E : XK} {pins : List (Addr × Obj)} {σ : L2.St} {H : Hp} {s : Shared} {Q : VK} {us : List Value} {vs : List V} (F : FnOk X.prog X.w X.K X.mg X.base CX k f fd ps sp) (hr : Room (k + 1) X.A) (hb : Binds X.K fd ps []) (hx : Passes CX X E)
    (I : Inv X pins σ H s) (r : Vals vs us) (h : sp vs H Q E) : wpAny (model X.prog X.w) X.A.in1 (call (.ref f) us) (EP X pins σ Q) X.xe s := by
  have hl : (us ++ []).length = ps.length := by
    rw [List.append_nil, ← r.length]
    exact F.len _ _ _ _ h
  have bt := hb s us I.kIn hl
  rw [List.append_nil] at bt
  refine wpAny_call (codeAny_mono (F.run X.A.in1 X.stack s H ⟨us, []⟩ us vs Q E hr.in1 I.env0.in1 bt r h) fun res s' hq => ?_)
  match res, hq with
  | .error er, hq => exact hx pins σ H s er s' I hq
  | .ok (.ret u), hq => exact I.after hq
def lenO (c : Str) (m : List D → W D) (d : D) : W D := W.bind (insOf c d) fun _ => W.bind (W.noX (m [d])) fun r => W.bind (int1 r) fun n => W.bind (W.need (0 ≤ n ∧ n ≤ (big : Nat))) fun _ => W.pure (.int n)
theorem ca_lenO {c : Str} {C g : Addr} {k : Nat} {fd : FuncData} {s0 : Str} {m : List D → W D} (hc : z.cm c = some C) (hs : PySem.W.findIn X.K (.ref C) "__len__" = some (some (.ref g))) (hf : PySem.W.isFn X.K (.ref g) = true) (F : FnM X.prog X.w X.K X.mg X.base z.cm k g fd [s0] m) (hr : Room (k + 1) X.A) (hb : Binds X.K fd [s0] []) :
    CaD X J (.builtin "len") (one1 (lenO c m)) := by
  refine ⟨fun xs H Q => ∃ q dx fs, xs = [V.ref q] ∧ H q = some (.ins C dx fs) ∧ spM X.K z.cm 1 m [.ref q] H (fun v H' => ∃ n : Int, v = .int n ∧ 0 ≤ n ∧ n < 2 ^ 63 ∧ Q (.int n) H') (fun _ _ _ => False), fun pins s σ H xs us Q I r h => ?_, fun vs ds H G Q vw hd h => ?_⟩
  · obtain ⟨q, dx, fs, rfl, hq, h⟩ := h
    obtain ⟨_, rfl, same⟩ := vals1 r
    cases same
    obtain ⟨mA, O, _⟩ := ins_get I.hok hq
    obtain ⟨od, O, _⟩ := O.look
    obtain ⟨m', hF⟩ := I.fr
    refine PySem.W.len_K hF I.ok.mod.kin O hs hf (thn (run_in1 (vs := [.ref q]) F hr hb passNo I (.cons rfl .nil) h) fun v s' hv => ?_)
    obtain ⟨y, H', I', ry, n, rfl, n0, n1, qn⟩ := hv
    obtain ⟨t, rfl⟩ := ry
    exact ⟨⟨n0, n1⟩, .int n, H', I'.tok _, ⟨_, rfl⟩, qn⟩
  · obtain ⟨v, d, rfl, rfl, a1, h⟩ := one1_wp hd h
    obtain ⟨q, dx, fs, gs, rfl, h2, h3, rfl, h4⟩ := insOf_wp hc a1 h
    refine ⟨q, dx, fs, rfl, vw.sub _ _ h2, (z.bg.bag, z.bg.lm), G, _, vw.low, .one a1.low, rfl, (m _).mono (fun r hr v' H' G' g' dv => ?_) (fun _ z => z.elim) h4⟩
    obtain ⟨n, rfl, ⟨n0, n1⟩, h5⟩ := int1_wp dv.up hr
    have b63 : ((big : Nat) : Int) < 2 ^ 63 := by decide
    exact ⟨n, rfl, n0, by omega, h5 _ _ _ (g'.up vw) (.int n)⟩
end
end Rg

set_option Elab.async false
set_option linter.all false
set_option maxRecDepth 100000
set_option maxHeartbeats 4500000
/-! the rules by data: f'..', str(n), a text n times; a comprehension in an __init__ -/
namespace Rg
open PySem PySem.Spec PyProof.Rows L2
section
variable {X : Cx} {z : Zk} {J : Jx X.K z} {a b c e o tg : Expr} {es : List Expr} {st : Stmt} {ss : List Stmt} {ma mb mc mo : Ev → W D} {ms mk : Ev → W (List D)} {pos p p2 pos2 apos : Pos} {x f : Str} {C : Addr} {m : Ev → List (Str × D) → W (List (Str × D))}
/-- name = [..] in an __init__ -/
theorem si_lc (i : Nat) (h0 : 0 ≠ i) (h : ∃ t, PS X st t ∧ ∀ σ H G env N, At X.K z J.G0 J.H0 σ H G env → (ms env).wp (OwnQ X.K z G H fun v H' => N.nx (σ.set i (some v)) H') J.xQ → t N σ H) (hs : SIs X J C ss m) :
    SIs X J C (st :: ss) (fun env gs => W.bind (ms env) fun ys => m (env.set i (some (.lst ys))) gs) := by
  obtain ⟨t, p, q⟩ := h
  obtain ⟨t', p', q'⟩ := hs
  refine ⟨_, pss_cons p p', fun x dx σ H G env N fs gs at_ v n g0 hx df s0 h => ?_⟩
  refine q σ H G env _ at_ ((ms env).mono (fun ys h1 => OwnQ.of at_.gr.vw ?_) (fun _ q => q) h)
  intro u H1 G1 g1 d1
  refine q' x dx _ H1 G1 (env.set i (some (.lst ys))) N fs gs ((at_.grow g1).set i d1) v n (g1.ap x _ hx (.inr rfl) g0) (g1.keeps v n hx) (df.same g1.gg) ?_ h1
  rw [List.getElem?_set_ne h0.symm]
  exact s0
/-! f'..' -/
/-- a part of an f'..': a text -/
def JV (X : Cx) {z : Zk} (J : Jx X.K z) (e : Expr) (m : Ev → W (List Nat)) : Prop :=
  ∃ te, PE X e te ∧ ∀ σ H G env Q, At X.K z J.G0 J.H0 σ H G env → (m env).wp (fun l => VQ X.K z G H Q (.str l)) J.xQ → te σ H Q
theorem jv_con {k : Nat} (l : List Nat) (h : x.cps.toList = l := by rfl) (h1 : l.length ≤ big := by decide) (h2 : ∀ c ∈ l, c < 1114112 := by decide) : JV X J (.Constant (.str x) k pos) (fun _ => W.pure l) := by
  subst h
  exact ⟨_, pe_str, fun σ H G env Q at_ h => h _ _ _ (.refl at_.gr.vw) (.str _ h1 h2)⟩
def digs (i : Int) : List Nat := (toString i : Str).cps.toList
def fmtT : D → W (List Nat)
  | .str l => W.pure l
  | .int i => W.bind (W.need (i.natAbs < 1000000000)) fun _ => W.pure (digs i)
  | _ => W.fail
theorem char_lt (c : Char) : c.toNat < 1114112 := by
  have h := c.valid
  show c.val.toNat < 1114112
  rcases h with h | h
  · have : c.val.toNat < 55296 := h
    omega
  · exact h.2
theorem digs_eq (i : Int) : digs i = (toString i : String).toList.map Char.toNat := by
  show (Str.ofString (toString i)).cps.toList = _
  rw [Str.ofString_eq_toList]
theorem digs_ok {i : Int} (h : i.natAbs < 1000000000) : (digs i).length ≤ 10 ∧ ∀ c ∈ digs i, c < 1114112 := by
  rw [digs_eq]
  constructor
  · rw [List.length_map]
    have := PySem.int_text_length_le10 (a := i) (k := 9) (by decide) (by simpa using h)
    rw [String.length_toList]
    exact this
  · intro c hc
    obtain ⟨d, _, rfl⟩ := List.mem_map.mp hc
    exact char_lt d
theorem small_log {i : Int} (h : i.natAbs < 1000000000) : i.natAbs.log2 < 1920 := by
  by_cases z : i.natAbs = 0
  · rw [z]
    decide
  · have h30 : i.natAbs.log2 < 30 := (Nat.log2_lt z).mpr (Nat.lt_trans h (by decide))
    omega
theorem jv_fmt (ha : EV X J a ma) : JV X J (.FormattedValue a (-1) none pos) (fun env => W.bind (ma env) fmtT) := by
  obtain ⟨t, p, q⟩ := ha
  refine ⟨_, pe_fmt p, fun σ H G env Q at_ h => q σ H G env _ at_ ((ma env).mono (fun d h1 v H1 G1 g1 d1 => ?_) (fun _ q => q) h)⟩
  cases d1 with
  | str l h2 h3 => exact .inl ⟨_, rfl, by rw [len_sOf]; exact Nat.le_trans h2 big_line, h1 _ _ _ g1 (.str l h2 h3)⟩
  | int i => exact .inr ⟨i, rfl, small_log h1.1, h1.2 _ _ _ g1 (.str (digs i) (Nat.le_trans (digs_ok h1.1).1 (by decide)) (digs_ok h1.1).2)⟩
  | _ => exact h1.elim
/-- the parts -/
def JVs (X : Cx) {z : Zk} (J : Jx X.K z) (es : List Expr) (m : Ev → W (List (List Nat))) : Prop :=
  ∃ ts, PJ X es ts ∧ ∀ acc σ H G env (Q : Str → Hp → Prop), At X.K z J.G0 J.H0 σ H G env → acc.length + es.length * 10000 ≤ sizeLine → (m env).wp (fun ls => ∀ H' G', Grow z G H G' H' → (∀ l ∈ ls, l.length ≤ 10000 ∧ ∀ c ∈ l, c < 1114112) → Q (sOf (acc ++ ls.flatten)) H') J.xQ → tJs ts (sOf acc) σ H Q
theorem js_nil : JVs X J [] (fun _ => W.pure []) := by
  refine ⟨_, .nil, fun acc σ H G env Q at_ _ h => ?_⟩
  have := h H G (.refl at_.gr.vw) (fun l hl => nomatch hl)
  rw [List.flatten_nil, List.append_nil] at this
  exact this
theorem js_cons {m1 : Ev → W (List Nat)} {m2 : Ev → W (List (List Nat))} (h1 : JV X J a m1) (h2 : JVs X J es m2) : JVs X J (a :: es) (fun env => W.bind (m1 env) fun x => W.bind (W.need (x.length ≤ 10000)) fun _ => W.bind (m2 env) fun y => W.pure (x :: y)) := by
  obtain ⟨t, p, q⟩ := h1
  obtain ⟨ts, ps, qs⟩ := h2
  refine ⟨_, .cons p ps, fun acc σ H G env Q at_ sz h => q σ H G env _ at_ ((m1 env).mono (fun l h3 v H1 G1 g1 d1 => ?_) (fun _ q => q) h)⟩
  cases d1 with
  | str _ l1 l2 =>
    obtain ⟨l3, h3⟩ := h3
    rw [List.length_cons] at sz
    refine ⟨_, rfl, ?_, ?_⟩
    · rw [sOf_app, len_sOf, List.length_append]
      omega
    · rw [sOf_app]
      refine qs (acc ++ l) σ H1 G1 env Q (at_.grow g1) (by rw [List.length_append]; omega) ((m2 env).mono (fun ls h4 H2 G2 g2 hl => ?_) (fun _ q => q) h3)
      have := h4 H2 G2 (g1.trans g2) (fun x hx => by
        cases hx with
        | head => exact ⟨l3, l2⟩
        | tail _ rest => exact hl x rest)
      rw [List.flatten_cons] at this
      rw [List.append_assoc]
      exact this
def glueD (ls : List (List Nat)) : W D := W.bind (W.need (ls.flatten.length ≤ big)) fun _ => W.pure (.str ls.flatten)
theorem ev_joined {m' : Ev → W (List (List Nat))} (h : JVs X J (a :: b :: es) m') (sz : (a :: b :: es).length ≤ 100 := by decide) : EV X J (.JoinedStr (a :: b :: es) pos) (fun env => W.bind (m' env) glueD) := by
  obtain ⟨ts, ps, qs⟩ := h
  refine ⟨_, pe_joined ps, fun σ H G env Q at_ h => ?_⟩
  have hz : (16777216 : Nat) ≤ sizeLine := by decide +kernel
  refine qs [] σ H G env _ at_ (by rw [List.length_nil]; omega) ((m' env).mono (fun ls h1 H1 G1 g1 hl => ?_) (fun _ q => q) h)
  rw [List.nil_append]
  exact h1.2 _ _ _ g1 (.str _ h1.1 fun c hc => by
    obtain ⟨l, h2, h3⟩ := List.mem_flatten.mp hc
    exact (hl l h2).2 c h3)
theorem ev_joined1 {m' : Ev → W (List Nat)} (h : JV X J a m') : EV X J (.JoinedStr [a] pos) (fun env => W.bind (m' env) fun l => W.pure (.str l)) := by
  obtain ⟨t, p, q⟩ := h
  exact ⟨_, pe_joined1 p, q⟩
def strD : D → W D
  | .int i => W.bind (W.need (i.natAbs < 1000000000)) fun _ => W.pure (.str (digs i))
  | _ => W.fail
theorem ca_str : CaD X J (.type "str") (one1 strD) := by
  refine ⟨_, call_str_int, fun vs ds H G Q vw hd h => ?_⟩
  obtain ⟨v, d, rfl, rfl, a1, h⟩ := one1_wp hd h
  cases a1 with
  | int i => exact ⟨i, rfl, small_log h.1, h.2 _ _ _ (.refl vw) (.str (digs i) (Nat.le_trans (digs_ok h.1).1 (by decide)) (digs_ok h.1).2)⟩
  | _ => exact h.elim
/-- a text n times -/
def mulS : D → D → W D
  | .str l, .int n => W.bind (W.need (0 ≤ n ∧ n ≤ 1000 ∧ l.length ≤ 100)) fun _ => W.pure (.str (List.replicate n.toNat l).flatten)
  | _, _ => W.fail
theorem rep_cps (l : List Nat) : ∀ (n : Nat) (acc : Array Nat), (List.replicate n l.toArray).foldl (· ++ ·) acc = acc ++ (List.replicate n l).flatten.toArray
  | 0, acc => by simp
  | n + 1, acc => by
    rw [List.replicate_succ, List.foldl_cons, rep_cps l n, List.replicate_succ, List.flatten_cons]
    simp
theorem flat_len (l : List Nat) : ∀ n : Nat, (List.replicate n l).flatten.length = n * l.length
  | 0 => by simp
  | n + 1 => by
    rw [List.replicate_succ, List.flatten_cons, List.length_append, flat_len l n, Nat.succ_mul, Nat.add_comm]
theorem od_mulS : OpD X J (binaryOp .Mult) mulS := by
  refine ⟨fun x y H Q => ∃ (l : List Nat) (n : Int), x = .str (sOf l) ∧ y = .int n ∧ (0 ≤ n ∧ n ≤ 1000 ∧ l.length ≤ 100) ∧ Q (.str (sOf (List.replicate n.toNat l).flatten)) H, fun pins s σ H x y v u Q I rx ry h => ?_, fun x y d e H G Q vw dx dy h => ?_⟩
  · obtain ⟨l, n, rfl, rfl, ⟨n0, n1, l1⟩, q⟩ := h
    obtain ⟨t, rfl⟩ := rx
    obtain ⟨t', rfl⟩ := ry
    have len : (sOf l).length = l.length := len_sOf l
    have small : (List.replicate n.toNat l).flatten.length ≤ 100000 := by
      rw [flat_len]
      have h1 : n.toNat ≤ 1000 := by omega
      exact Nat.le_trans (Nat.mul_le_mul h1 l1) (by decide)
    refine PySem.P.mul_str ?_ (fun h1 h2 => ?_) (fun h1 h2 => ?_) ?_
    · rw [decide_eq_false (by omega), decide_eq_false (by omega)]
      rfl
    · rw [len]
      have : (l.length : Int) ≤ 100 := by omega
      have h3 : (100 : Int) ≤ (2 ^ 63 - 1) / n := by
        rw [Int.le_ediv_iff_mul_le (by omega)]
        omega
      omega
    · rw [len]
      show decide (sizeLine < l.length * n.toNat) = false
      rw [flat_len] at small
      have hz : (16777216 : Nat) ≤ sizeLine := by decide +kernel
      rw [Nat.mul_comm] at small
      rw [decide_eq_false_iff_not]
      omega
    · have fin : ∀ tk t', EP X pins σ Q (.str (sOf (List.replicate n.toNat l).flatten) tk) { s with toks := t' } := fun tk t' => ⟨.str _, H, I.tok _, ⟨_, rfl⟩, q⟩
      by_cases c1 : n < 1
      · rw [if_pos c1]
        have e0 : n.toNat = 0 := by omega
        rw [e0] at fin
        exact ⟨Nat.zero_le _, fin _ _⟩
      · rw [if_neg c1]
        by_cases c2 : (n == 1 || (sOf l).length == 0) = true
        · rw [if_pos c2]
          have el : (List.replicate n.toNat l).flatten = l := by
            rcases Bool.or_eq_true_iff.mp c2 with c | c
            · have : n = 1 := by simpa using c
              subst this
              simp
            · have : l.length = 0 := by
                rw [len] at c
                simpa using c
              have : l = [] := List.eq_nil_of_length_eq_zero this
              subst this
              exact List.eq_nil_of_length_eq_zero (by rw [flat_len]; rfl)
          rw [el] at fin
          exact fin t s.toks
        · rw [if_neg c2]
          have ec : (⟨(List.replicate n.toNat (sOf l).cps).foldl (· ++ ·) #[]⟩ : Str) = sOf (List.replicate n.toNat l).flatten := by
            show (⟨(List.replicate n.toNat l.toArray).foldl (· ++ ·) #[]⟩ : Str) = _
            rw [rep_cps]
            unfold sOf
            simp
          rw [ec]
          refine ⟨?_, fin _ _⟩
          rw [len_sOf]
          exact Nat.le_trans small (by decide +kernel)
  · cases dx with
    | str l h1 h2 =>
      cases dy with
      | int n => 
        refine ⟨l, n, rfl, rfl, h.1, h.2 _ _ _ (.refl vw) (.str _ ?_ fun c hc => ?_)⟩
        · rw [flat_len]
          have h3 : n.toNat ≤ 1000 := by
            have := h.1
            omega
          exact Nat.le_trans (Nat.mul_le_mul h3 h.1.2.2) (by decide)
        · obtain ⟨l', h4, h5⟩ := List.mem_flatten.mp hc
          rw [(List.mem_replicate.mp h4).2] at h5
          exact h2 c h5
      | _ => exact h.elim
    | _ => exact h.elim
end
end Rg

set_option Elab.async false
set_option linter.all false
set_option maxRecDepth 100000
set_option maxHeartbeats 4500000
namespace Rg
open PySem PySem.Spec PyProof.Rows L2
section
variable {X : Cx} {z : Zk} {J : Jx X.K z} {a b c e : Expr} {ma mb mc : Ev → W D} {pos : Pos}
/-- a < b < c as a test -/
theorem tv_chain {op op' : CmpOp} {o o' : D → D → W D} (ho : OpD X J (compareOp op) o) (ho' : OpD X J (compareOp op') o') (ha : EV X J a ma) (hb : EV X J b mb) (hc : EV X J c mc) (hm : lastMarks [op, op'] [b, c] = false := by with_unfolding_all rfl) :
    TV X J (.Compare a [op, op'] [b, c] pos) (fun env => W.bind (ma env) fun d => W.bind (mb env) fun e => W.bind (W.bind (o d e) ofB) fun k => iteW k (W.bind (W.bind (mc env) fun f => o' e f) ofB) (W.pure false)) := by
  obtain ⟨ta, pa, qa⟩ := ha
  obtain ⟨tb, pb, qb⟩ := hb
  obtain ⟨tc, pc, qc⟩ := hc
  obtain ⟨r, pr, qr⟩ := ho
  obtain ⟨r', pr', qr'⟩ := ho'
  refine ⟨_, pt_chain pr pr' pa pb pc hm, fun σ H G env Q at_ h => ?_⟩
  refine qa σ H G env _ at_ ((ma env).mono (fun d h1 v H1 G1 g1 d1 => ?_) (fun _ q => q) h)
  refine qb σ H1 G1 env _ (at_.grow g1) ((mb env).mono (fun e h2 u H2 G2 g2 d2 => ?_) (fun _ q => q) h1)
  refine qr v u d e H2 G2 _ g2.vw (d1.same g2.gg) d2 ((o d e).mono (fun d3 h3 v3 H3 G3 g3 e3 => ?_) (fun _ q => q) h2)
  obtain ⟨k, rfl, rfl, h4⟩ := ofB_wp (H := H) e3 h3
  refine ⟨k, rfl, ?_⟩
  have g13 := g1.trans (g2.trans g3)
  cases k with
  | true =>
    refine qc σ H3 G3 env _ (at_.grow g13) ((mc env).mono (fun f h5 w H4 G4 g4 d4 => ?_) (fun _ q => q) h4)
    refine qr' u w e f H4 G4 _ g4.vw ((d2.same g3.gg).same g4.gg) d4 ((o' e f).mono (fun d5 h6 v5 H5 G5 g5 e5 => ?_) (fun _ q => q) h5)
    obtain ⟨k', rfl, rfl, h7⟩ := ofB_wp (H := H) e5 h6
    exact ⟨k', rfl, h7 _ _ (g13.trans (g4.trans g5))⟩
  | false => exact ⟨false, rfl, h4 _ _ g13⟩
end
end Rg

set_option Elab.async false
set_option linter.all false
set_option maxRecDepth 100000
set_option maxHeartbeats 4500000
/-! the rules by data: {x:>n} -/
namespace Rg
open PySem PySem.Spec PyProof.Rows L2
open PySem.Builtin
open PySem.Builtin.Str
open PySem.Builtin.Int
open PySem.Builtin.Float
def padL (n : Nat) (l : List Nat) : List Nat := List.replicate (n - l.length) 32 ++ l
/-- the specs that stand in the program: >3 and >4 -/
def specOf (n : Nat) : Str := sOf [62, 48 + n]
theorem parse3 (name : String) : parseFormatSpec [62, 51] name 60 = .ok { align := 62, width := some 3 } := rfl
theorem parse4 (name : String) : parseFormatSpec [62, 52] name 60 = .ok { align := 62, width := some 4 } := rfl
theorem strSub_all (x : Str) : strSub x 0 x.length = x := by
  unfold strSub
  simp [Str.length]
theorem field4 (x : Str) (name : String) (n : Nat) : strField x { align := 62, width := some n } name = .ok (if n ≤ x.length then none else some (padded x (n - x.length) 0 32)) := by
  unfold strField
  by_cases h : n ≤ x.length
  · rw [if_pos h]
    simp [h]
    rfl
  · rw [if_neg h]
    simp [h, strSub_all]
    rfl
theorem fnM_none {P : Program} {w : World} {K : PySem.W.Frag} {mg : Str → Option Value} {base : Heap} {cm : Str → Option Addr} {k : Nat} {f : Addr} {fd : FuncData} {ps : List Str} : FnM P w K mg base cm k f fd ps (fun _ => W.fail) :=
  ⟨fun vs H Q E h => by
    obtain ⟨_, _, _, _, _, _, z⟩ := h
    exact z.elim, fun A outer s H args us vs Q E _ _ _ _ h => by
    obtain ⟨_, _, _, _, _, _, z⟩ := h
    exact z.elim⟩
end Rg

set_option Elab.async false
set_option linter.all false
set_option maxRecDepth 100000
set_option maxHeartbeats 4500000
/-! the rules by data: {x:>n} -/
namespace Rg
open PySem PySem.Spec PyProof.Rows L2
open PySem.Builtin
open PySem.Builtin.Str
open PySem.Builtin.Int
open PySem.Builtin.Float
theorem pad_sOf (n : Nat) (l : List Nat) : padded (sOf l) (n - l.length) 0 32 = sOf (padL n l) := by
  unfold padded sOf padL
  simp
theorem padL_ge {n : Nat} {l : List Nat} (h : n ≤ l.length) : padL n l = l := by
  unfold padL
  rw [Nat.sub_eq_zero_of_le h]
  rfl
theorem padL_len (n : Nat) (l : List Nat) : (padL n l).length = max n l.length := by
  unfold padL
  simp only [List.length_append, List.length_replicate]
  omega
section
variable {prog : Program} {w : World} {A : Around} {E : Value → Shared → Prop} {s : Shared} {t : Tok}
theorem pad_str {n : Nat} (hn : n = 3 ∨ n = 4) {l : List Nat} (hl : l.length ≤ big) {Q : Value → Shared → Prop} (h : ∀ t' k, Q (.str (sOf (padL n l)) t') { s with toks := k }) : wpAny (model prog w) A (formatField (.str (sOf l) t) (specOf n)) Q E s := by
  refine PySem.W.KXf.field_str rfl rfl ?_ ?_ (fun u => ?_) h
  · rcases hn with rfl | rfl <;> rfl
  · rcases hn with rfl | rfl <;> decide
  · intro prog w A R s hR
    have hp : ∀ name, parseFormatSpec (specOf n).cps.toList name 60 = .ok { align := 62, width := some n } := fun name => by
      rcases hn with rfl | rfl
      · exact parse3 name
      · exact parse4 name
    have hf := field4 (sOf l) "str" n
    rw [len_sOf, pad_sOf] at hf
    have hb : tooLong n = false := by
      rcases hn with rfl | rfl <;> decide
    have hback : ((specOf n).cps.back? == some 0) = false := by
      rcases hn with rfl | rfl <;> rfl
    unfold PySem.Builtin.«str.__format__»
    have hasc : (((specOf n).cps.toList.drop 1).any (· ≥ 128) || ((specOf n).cps.getD 0 0 ≥ 128 && !([60, 62, 61, 94] : List Nat).contains ((specOf n).cps.getD 1 0))) = false := by
      rcases hn with rfl | rfl <;> rfl
    have hne : ((specOf n).length == 0) = false := by
      rcases hn with rfl | rfl <;> rfl
    simp only [strOneArg, selfAndOne, noKeywords, textOf, asStr?, List.isEmpty_nil, if_true, pure_bind, bind_pure, bind_assoc, hne, hasc, Bool.false_eq_true, if_false]
    refine wpAny_bind (PySem.W.KXf.cut_str ?_)
    simp only [hp, hback, Bool.and_false, Bool.false_eq_true, if_false, bind, Except.bind, Option.getD_some, hb, hf, pure, Except.pure]
    by_cases c : n ≤ l.length
    · rw [if_pos c]
      rw [padL_ge c] at hR
      exact wpAny_bind (wpAny_rule (PySem.W.KXf.ret_same rfl hR))
    · rw [if_neg c]
      refine PySem.W.KXf.ret_text rfl ?_ hR
      rw [len_sOf, padL_len]
      have := big_line
      have h4 : (4 : Nat) ≤ sizeLine := by decide
      omega
theorem iparse3 (name : String) : parseFormatSpec [62, 51] name 62 = .ok { align := 62, width := some 3 } := rfl
theorem iparse4 (name : String) : parseFormatSpec [62, 52] name 62 = .ok { align := 62, width := some 4 } := rfl
theorem digs_nat (m : Nat) : digs (m : Int) = (Nat.toDigits 10 m).map Char.toNat := by
  exact (digs_eq m).trans (congrArg (List.map Char.toNat) (Nat.toList_repr (n := m)))
end
section
variable {X : Cx} {z : Zk} {J : Jx X.K z} {a : Expr} {ma : Ev → W D} {pos sp p2 : Pos}
/-- {x:>n} of a text -/
def padD (n : Nat) : D → W (List Nat)
  | .str l => W.pure (padL n l)
  | _ => W.fail
theorem jv_pad (n : Nat) {x : Str} {k : Nat} (ha : EV X J a ma) (hx : x = specOf n := by rfl) (hn : n = 3 ∨ n = 4 := by decide) : JV X J (.FormattedValue a (-1) (some (.JoinedStr [.Constant (.str x) k sp] p2)) pos) (fun env => W.bind (ma env) (padD n)) := by
  subst hx
  obtain ⟨t, p, q⟩ := ha
  refine ⟨fun σ H Q => t σ H fun v H1 => ∃ l : List Nat, v = .str (sOf l) ∧ l.length ≤ big ∧ Q (.str (sOf (padL n l))) H1, ⟨fun pins s σ H Q I h => ?_⟩, fun σ H G env Q at_ h => q σ H G env _ at_ ((ma env).mono (fun d h1 v H1 G1 g1 d1 => ?_) (fun _ q => q) h)⟩
  · refine wpAny_FormattedValue_spec (thn (p.run pins s σ H _ I h) fun v s1 hv => ?_)
    obtain ⟨y, H1, I1, r1, l, rfl, hl, h⟩ := hv
    obtain ⟨tk, rfl⟩ := r1
    refine thn ((pe_joined1 pe_str).run pins s1 σ H1 (fun v H2 => v = .str (specOf n) ∧ H2 = H1) I1 ⟨rfl, rfl⟩) fun r s2 hr => ?_
    obtain ⟨y2, H2, I2, r2, rfl, rfl⟩ := hr
    obtain ⟨tk2, rfl⟩ := r2
    exact ⟨_, _, rfl, pad_str hn hl fun t' k => ⟨.str _, H2, I2.tok _, ⟨_, rfl⟩, h⟩⟩
  · cases d1 with
    | str l h2 h3 =>
      refine ⟨l, rfl, h2, h1 _ _ _ g1 (.str _ ?_ fun c hc => ?_)⟩
      · rw [padL_len]
        have : (4 : Nat) ≤ big := by decide
        omega
      · unfold padL at hc
        cases List.mem_append.mp hc with
        | inl blank =>
          rw [(List.mem_replicate.mp blank).2]
          decide
        | inr own => exact h3 c own
    | _ => exact h1.elim
end
end Rg

set_option Elab.async false
set_option linter.all false
set_option maxRecDepth 100000
set_option maxHeartbeats 4500000
/-! the rules by data: {i:>n} of a number -/
namespace Rg
open PySem PySem.Spec PyProof.Rows L2
open PySem.Builtin
open PySem.Builtin.Str
open PySem.Builtin.Int
open PySem.Builtin.Float
theorem nodigits {X : Cx} {pins : List (Addr × Obj)} {σ : L2.St} {H : Hp} {s : Shared} (hd : PySem.W.nsIn X.K cStatics "sys.int_max_str_digits" = some none) (I : Inv X pins σ H s) : s.heap.NoDigits := by
  obtain ⟨mc, hn, _⟩ := I.ok.mod.nolimit
  have b : X.base.NoDigits := ⟨mc, hn, PySem.W.ns_none_of I.ok.mod.kin hn hd⟩
  exact b.keeps fun q o e => I.bk q o e
theorem specText (n m : Nat) : intSpecText { align := 62, width := some n } (m : Int) = sOf (padL n (digs (m : Int))) := by
  unfold intSpecText intField'
  have e0 : decide ((m : Int) < 0) = false := by
    rw [decide_eq_false_iff_not]
    omega
  have e1 : (Nat.toDigits 10 (m : Int).natAbs).map (fun c => (if ((100 : Nat) == 88) = true then c.toUpper else c).toNat) = digs (m : Int) := by
    rw [digs_nat]
    rfl
  have ne : (digs (m : Int)).isEmpty = false := by
    rw [digs_nat]
    have := tDigits_len_ge 10 m
    cases h : Nat.toDigits 10 m with
    | nil =>
      rw [h] at this
      cases this
    | cons _ _ => rfl
  have many : ((n : Int) - (digs (m : Int)).length).toNat = n - (digs (m : Int)).length := by omega
  rw [e0, e1]
  simp [ne, padL, sOf, many]
section
variable {X : Cx} {z : Zk} {J : Jx X.K z} {a : Expr} {ma : Ev → W D} {pos sp p2 : Pos}
/-- {x:>n} of a number -/
def padI (n : Nat) : D → W (List Nat)
  | .int i => W.bind (W.need (0 ≤ i ∧ i < 1000000000)) fun _ => W.pure (padL n (digs i))
  | _ => W.fail
theorem jv_padI (n : Nat) {x : Str} {k : Nat} (hd : PySem.W.nsIn X.K cStatics "sys.int_max_str_digits" = some none) (ha : EV X J a ma) (hx : x = specOf n := by rfl) (hn : n = 3 ∨ n = 4 := by decide) : JV X J (.FormattedValue a (-1) (some (.JoinedStr [.Constant (.str x) k sp] p2)) pos) (fun env => W.bind (ma env) (padI n)) := by
  subst hx
  obtain ⟨t, p, q⟩ := ha
  refine ⟨fun σ H Q => t σ H fun v H1 => ∃ m : Nat, v = .int (m : Int) ∧ m < 1000000000 ∧ Q (.str (sOf (padL n (digs (m : Int))))) H1, ⟨fun pins s σ H Q I h => ?_⟩, fun σ H G env Q at_ h => q σ H G env _ at_ ((ma env).mono (fun d h1 v H1 G1 g1 d1 => ?_) (fun _ q => q) h)⟩
  · refine wpAny_FormattedValue_spec (thn (p.run pins s σ H _ I h) fun v s1 hv => ?_)
    obtain ⟨y, H1, I1, r1, m, rfl, hm, h⟩ := hv
    obtain ⟨tk, rfl⟩ := r1
    refine thn ((pe_joined1 pe_str).run pins s1 σ H1 (fun v H2 => v = .str (specOf n) ∧ H2 = H1) I1 ⟨rfl, rfl⟩) fun r s2 hr => ?_
    obtain ⟨y2, H2, I2, r2, rfl, rfl⟩ := hr
    obtain ⟨tk2, rfl⟩ := r2
    have hp : parseFormatSpec (specOf n).cps.toList "int" 62 = .ok { align := 62, width := some n } := by
      rcases hn with rfl | rfl
      · exact iparse3 _
      · exact iparse4 _
    have low : (m : Int).natAbs < 10 ^ 4300 := lt_digitLimit_of_lt (by omega)
    have g1 : ((specOf n).length == 0) = false := by rcases hn with rfl | rfl <;> rfl
    have g2 : (((specOf n).cps.toList.drop 1).any (· ≥ 128) || ((specOf n).cps.getD 0 0 ≥ 128 && !([60, 62, 61, 94] : List Nat).contains ((specOf n).cps.getD 1 0))) = false := by rcases hn with rfl | rfl <;> rfl
    have g3 : intSpecGood (specOf n) { align := 62, width := some n } = true := by rcases hn with rfl | rfl <;> rfl
    have g4 : (specOf n).length ≤ sizeLine := by rcases hn with rfl | rfl <;> decide
    refine ⟨_, _, rfl, formatField_int_spec (nodigits hd I2) low hp g1 g2 g3 (fun _ => ?_) g4⟩
    rw [specText]
    exact ⟨.str _, H2, I2.tok _, ⟨_, rfl⟩, h⟩
  · cases d1 with
    | int i =>
      obtain ⟨⟨i0, i1⟩, h1⟩ := h1
      obtain ⟨m, rfl⟩ : ∃ m : Nat, i = (m : Int) := ⟨i.toNat, by omega⟩
      have ok := digs_ok (i := (m : Int)) (by omega)
      refine ⟨m, rfl, by omega, h1 _ _ _ g1 (.str _ ?_ fun c hc => ?_)⟩
      · rw [padL_len]
        have : (10 : Nat) ≤ big := by decide
        omega
      · unfold padL at hc
        cases List.mem_append.mp hc with
        | inl blank =>
          rw [(List.mem_replicate.mp blank).2]
          decide
        | inr own => exact ok.2 c own
    | _ => exact h1.elim
end
end Rg

set_option Elab.async false
set_option linter.all false
set_option maxRecDepth 100000
set_option maxHeartbeats 4500000
/-! calls by keywords alone, in any order -/
namespace Rg
open PySem PySem.Spec PyProof.Rows L2
def pick {α : Type} (ws : List α) : List Nat → List α
  | [] => []
  | i :: r => (ws[i]?).toList ++ pick ws r
def permK {α : Type} (pl : List Nat) (us ws : List α) : List α := if us.length = 0 ∧ ws.length = pl.length then pick ws pl else []
def permD (pl : List Nat) (ds : List D) : List D := permK pl [] ds
theorem permK_len {α : Type} {pl : List Nat} {us ws : List α} (h : (permK pl us ws).length ≠ 0) : us = [] ∧ ws.length = pl.length := by
  unfold permK at h
  split at h
  · rename_i c
    exact ⟨List.eq_nil_of_length_eq_zero c.1, c.2⟩
  · exact (h rfl).elim
theorem pick_vals {vs : List V} {us : List Value} (r : Vals vs us) : ∀ pl, Vals (pick vs pl) (pick us pl)
  | [] => .nil
  | i :: pl => by
    unfold pick
    cases e : vs[i]? with
    | none =>
      rw [r.none_of e]
      exact pick_vals r pl
    | some v =>
      obtain ⟨u, h1, h2⟩ := r.get e
      rw [h1]
      exact .cons h2 (pick_vals r pl)
theorem permK_vals (pl : List Nat) {vs zs : List V} {us ws : List Value} (r : Vals vs us) (q : Vals zs ws) : Vals (permK pl vs zs) (permK pl us ws) := by
  unfold permK
  rw [r.length, q.length]
  split
  · exact pick_vals q pl
  · exact .nil
theorem pick_dens {K : PySem.W.Frag} {z : Zk} {G : Hp} {vs : List V} {ds : List D} (h : Dens K z G vs ds) : ∀ pl, Dens K z G (pick vs pl) (pick ds pl)
  | [] => .nil
  | i :: pl => by
    unfold pick
    cases e : vs[i]? with
    | none =>
      have e2 : ds[i]? = none := by
        rw [List.getElem?_eq_none_iff] at e ⊢
        rw [← h.len]
        exact e
      rw [e2]
      exact pick_dens h pl
    | some v =>
      obtain ⟨d, h1, h2⟩ := h.at e
      rw [h1]
      exact .cons h2 (pick_dens h pl)
theorem dens_perm {K : PySem.W.Frag} {z : Zk} {G : Hp} {vs : List V} {ds : List D} (pl : List Nat) (h : Dens K z G vs ds) : Dens K z G (permK pl [] vs) (permD pl ds) := by
  have e := h.len
  unfold permD permK
  by_cases c : vs.length = pl.length
  · rw [if_pos ⟨rfl, c⟩, if_pos ⟨rfl, by omega⟩]
    exact pick_dens h pl
  · rw [if_neg (fun q => c q.2), if_neg (fun q => c (by omega))]
    exact .nil
/-- the letters at the law's start: the bag alone -/
def isBag : D → Prop
  | .bag => True
  | _ => False
theorem noneE : ∀ {n i : Nat} {d : D}, (List.replicate n (none : Option D))[i]? = some (some d) → False
  | 0, _, _, h => by simp at h
  | n + 1, 0, _, h => by cases h
  | n + 1, i + 1, _, h => noneE (n := n) (i := i) h
theorem lawE {n i : Nat} {d : D} (h : (none :: some D.bag :: List.replicate n none : Ev)[i]? = some (some d)) : i = 1 ∧ isBag d := by
  match i, h with
  | 0, h => cases h
  | 1, h =>
    cases h
    exact ⟨rfl, trivial⟩
  | i + 2, h => exact (noneE (n := n) (i := i) h).elim
/-- no error is wanted at all -/
def Jx.calm {K : PySem.W.Frag} {z : Zk} (G0 H0 : Hp) : Jx K z := ⟨G0, H0, fun _ _ _ => False, fun _ => False, fun _ _ _ _ _ h => h.elim⟩
end Rg

set_option Elab.async false
set_option linter.all false
set_option maxRecDepth 100000
set_option maxHeartbeats 4500000
/-! the rules by data: own objects compared, isinstance of own classes, try without an error, texts cut -/
namespace Rg
open PySem PySem.Spec PyProof.Rows L2
section
variable {prog : Program} {w : World} {A : Around} {E : Value → Shared → Prop} {s : Shared} {K : PySem.W.Frag} {x C L f : Addr} {h₀ : Heap} {m : Str → Option Value} {ox : Obj} {od : Option Obj} {name : Str} {b tb : Value}
/-- a special method that object has -/
theorem ifBound_B {M : Model} {id : String} {args : List Value} {Q : Option Value → Shared → Prop} (KX : K.In s.heap) (I : PySem.W.InstAt s.heap x ox C od) (hs : PySem.W.findIn K (.ref C) name = some (some (.builtin id))) (hbd : ∀ self, bindSpecial (.builtin id) self = pure (.builtin id, [self]))
    (h : wpAny M A (call (.builtin id) (.ref x :: args)) (fun v => Q (some v)) E s) : wpAny M A (callSpecialIfBound? (.ref x) name args) Q E s := by
  simp only [callSpecialIfBound?, bindSpecialIfBound?, hbd]
  have fin : wpAny M A (call (.builtin id) ([.ref x] ++ args) >>= fun v => pure (some v)) Q E s := wpAny_bind (wpAny_mono h (fun _ _ q => wpAny_pure q) fun _ _ q => q)
  refine wpAny_holding (wpAny_bind (wpAny_bind (wpAny_bind (I.type.here ((PySem.W.looks_findIn KX hs).here (wpAny_bind (wpAny_askSetting (wpAny_ite ?_))))))))
  split
  · rw [hbd]
    exact wpAny_bind (wpAny_pure (wpAny_pure fin))
  · rw [hbd]
    exact wpAny_tryCatch (wpAny_bind (wpAny_pure (wpAny_pure fin)))
/-- x != b, where the class has its own == and no != -/
theorem ne_K {Q : Value → Shared → Prop} (hu : A.units + 1 < cLine) (FR : Fr h₀ L s.heap m) (X₀ : K.In h₀) (I : PySem.W.InstAt s.heap x ox C od) (hb : PySem.W.Looks (model prog w) s.heap (typeOf b) tb) (hn : PySem.W.notFirst K C tb = true) (hob : PySem.W.mroIn K C (.type "object") = some true)
    (hne : PySem.W.findIn K (.ref C) "__ne__" = some (some (.builtin "object.__ne__"))) (hs : PySem.W.findIn K (.ref C) "__eq__" = some (some (.ref f))) (hf : PySem.W.isFn K (.ref f) = true)
    (h : wpAny (model prog w) A.in1 (call (.ref f) [.ref x, b]) (fun v s' => ∃ r, v = .bool r ∧ Q (.bool (!r)) s') E s) : wpAny (model prog w) A (richCompare .NotEq (.ref x) b) Q E s := by
  have low : A.units < cLine := Nat.lt_of_succ_lt hu
  have KX := X₀.keeps FR.keep
  have sub : PySem.W.Looks (model prog w) s.heap (isInstance (.ref x) (.type "object")) true := I.type.andThen (PySem.W.looks_mroIn KX hob)
  have body : wpAny (model prog w) A.in1 (Builtin.«object.__ne__» ⟨[.ref x, b], []⟩) (fun r s' => ∃ v, r = .done (.ret (.bool v)) ∧ Q (.bool v) s') E s := by
    simp only [Builtin.«object.__ne__»]
    repeat (first | with_reducible refine wpAny_cRoomFor hu ?_ | with_reducible refine PySem.W.ifBound_K KX I hs hf (wpAny_mono h (fun v s' hv => ?_) fun _ _ q => q) | wp_step)
    obtain ⟨r, rfl, q⟩ := hv
    exact wpAny_bind (wpAny_truthy_bool (wpAny_pure ⟨_, rfl, q⟩))
  have one : wpAny (model prog w) A (tryCompare (.ref x) "__ne__" b) (fun r s' => ∃ v, r = some (.bool v) ∧ Q (.bool v) s') E s := by
    unfold tryCompare
    refine wpAny_bind (ifBound_B KX I hne PySem.F.cmp_object.ne.bind (wpAny_call (codeAny_call_builtin PySem.F.cmp_object.ne.plain PySem.F.cmpEntry_ne (PySem.W.check_slot PySem.F.cmpKind_ne PySem.F.cmpSplit_ne sub (PySem.F.cmpArgs_ne _ _) (wpAny_mono body (fun r s' hr => ?_) fun _ _ q => q)))))
    obtain ⟨v, rfl, q⟩ := hr
    exact wpAny_pure ⟨v, rfl, q⟩
  have last : ∀ k : Bool, k = false → wpAny (model prog w) A (tryCompare (.ref x) "__ne__" b) (fun r s' => ∃ v, r = some (.bool v) ∧ Q (.bool v) s') E s := fun _ _ => one
  unfold richCompare
  simp only [oneThing_ref, cmpInfo_NotEq]
  refine wpAny_holding (wpAny_bind (wpAny_cRoomFor low (wpAny_bind (I.type.here (wpAny_bind (hb.here ?_))))))
  split
  · rename_i ne
    have e : PySem.W.subIn K tb (.ref C) = some false := (Bool.or_eq_true_iff.mp hn).elim (fun e => by rw [beq_iff_eq.mp e] at ne; simp at ne) beq_iff_eq.mp
    refine wpAny_bind ((PySem.W.looks_subIn KX e).here ?_)
    simp only [if_false, Bool.false_eq_true]
    refine wpAny_bind (wpAny_mono (last false rfl) (fun r s' hr => ?_) fun _ _ q => q)
    obtain ⟨v, rfl, q⟩ := hr
    exact wpAny_pure q
  · refine wpAny_bind (wpAny_pure (id ?_))
    simp only [if_false, Bool.false_eq_true]
    refine wpAny_bind (wpAny_mono (last false rfl) (fun r s' hr => ?_) fun _ _ q => q)
    obtain ⟨v, rfl, q⟩ := hr
    exact wpAny_pure q
end
section
variable {X : Cx} {z : Zk} {J : Jx X.K z} {a b c e o tg : Expr} {es : List Expr} {ma mb mc mo : Ev → W D} {ms mk : Ev → W (List D)} {mf : Ev → W Fl} {pos p p2 pos2 apos : Pos} {x f m : Str}
/-- what isinstance and != ask of an own class -/
structure IsC (K : PySem.W.Frag) (C : Addr) : Prop where
  k1 : PySem.W.findIn K (.ref C) "__class__" = some (some (.builtin "object.__class__"))
  k2 : PySem.W.specialIn K (.builtin "object.__class__") "__get__" = some (some (.builtin "getset_descriptor.__get__"))
  k3 : PySem.W.takesIn K (.builtin "object.__class__") = some true
  k4 : PySem.W.mroIn K C (.type "object") = some true
  k5 : PySem.W.findIn K (.ref C) "__ne__" = some (some (.builtin "object.__ne__"))
def isiC (c : Str) (d e : D) : W D := match e with
  | .cls c' => if c' = c then W.bind (insOf c d) fun _ => W.pure (.bl true) else W.fail
  | _ => W.fail
theorem kit_same {K : PySem.W.Frag} (t : Value) : PySem.W.kitOne K t t = some true := by
  unfold PySem.W.kitOne
  rw [if_pos (by simp)]
theorem ca_isiC {c : Str} {C : Addr} (hc : z.cm c = some C) (cl : Cls X.K C) (ic : IsC X.K C) : CaD X J (.builtin "isinstance") (two2 (isiC c)) := by
  refine ⟨rIsi X.K, call_isi, fun vs ds H G Q vw hd h => ?_⟩
  obtain ⟨v, w, d, e, rfl, rfl, a1, a2, h⟩ := two2_wp hd h
  cases a2 with
  | @cls C' c' h1 =>
    by_cases q : c' = c
    · subst q
      rw [hc] at h1
      cases h1
      have h' : (if c' = c' then W.bind (insOf c' d) fun _ => W.pure (.bl true) else W.fail).wp (VQ X.K z G H Q) J.xQ := h
      rw [if_pos rfl] at h'
      obtain ⟨q, dx, fs, gs, rfl, h2, h3, rfl, h4⟩ := insOf_wp hc a1 h'
      exact ⟨_, _, _, _, _, rfl, .own C, .base (.ins (vw.sub _ _ h2) cl ic.k1 ic.k2 ic.k3 ic.k4), kit_same _, h4 _ _ _ (.refl vw) (.bl _)⟩
    · have h' : (if c' = c then W.bind (insOf c d) fun _ => W.pure (.bl true) else W.fail).wp (VQ X.K z G H Q) J.xQ := h
      rw [if_neg q] at h'
      exact h'.elim
  | _ => exact h.elim
theorem run_at {CX : CXT} {k : Nat} {f : Addr} {fd : FuncData} {ps : List Str} {sp : Sp} {E : XK} {pins : List (Addr × Obj)} {σ : L2.St} {H : Hp} {s : Shared} {Q : VK} {us : List Value} {vs : List V} (F : FnOk X.prog X.w X.K X.mg X.base CX k f fd ps sp) (hr : Room k X.A) (hb : Binds X.K fd ps []) (hx : Passes CX X E)
    (I : Inv X pins σ H s) (r : Vals vs us) (h : sp vs H Q E) : wpAny (model X.prog X.w) X.A (call (.ref f) us) (EP X pins σ Q) X.xe s := by
  have hl : (us ++ []).length = ps.length := by
    rw [List.append_nil, ← r.length]
    exact F.len _ _ _ _ h
  have bt := hb s us I.kIn hl
  rw [List.append_nil] at bt
  refine wpAny_call (codeAny_mono (F.run X.A X.stack s H ⟨us, []⟩ us vs Q E hr I.env0 bt r h) fun res s' hq => ?_)
  match res, hq with
  | .error er, hq => exact hx pins σ H s er s' I hq
  | .ok (.ret u), hq => exact I.after hq
/-- == and != of two objects of one class -/
def eqO (n : Bool) (c : Str) (m : List D → W D) (d e : D) : W D := W.bind (insOf c d) fun _ => W.bind (insOf c e) fun _ => W.bind (W.noX (m [d, e])) fun r => W.bind (ofB r) fun k => W.pure (.bl (k != n))
def rEqO (K : PySem.W.Frag) (cm : Str → Option Addr) (C : Addr) (m : List D → W D) (n : Bool) : R2 := fun x y H Q => ∃ (q p dx dy : Addr) (fs gs : List (Str × V)), x = .ref q ∧ y = .ref p ∧ H q = some (.ins C dx fs) ∧ H p = some (.ins C dy gs) ∧ spM K cm 2 m [.ref q, .ref p] H (fun v H' => ∃ k, v = .bl k ∧ Q (.bl (k != n)) H') (fun _ _ _ => False)
theorem op_eqO {C g : Addr} {k : Nat} {fd : FuncData} {s0 s1 : Str} {m : List D → W D} {cm : Str → Option Addr} (hs : PySem.W.findIn X.K (.ref C) "__eq__" = some (some (.ref g))) (hf : PySem.W.isFn X.K (.ref g) = true) (F : FnM X.prog X.w X.K X.mg X.base cm k g fd [s0, s1] m) (hr : Room (k + 1) X.A) (hb : Binds X.K fd [s0, s1] []) :
    OpR X (compareOp .Eq) (rEqO X.K cm C m false) := by
  intro pins s σ H x y v u Q I rx ry ask
  obtain ⟨q, p, dx, dy, fs, gs, rfl, rfl, hx, hy, h⟩ := ask
  cases rx
  cases ry
  obtain ⟨mA, O, _⟩ := ins_get I.hok hx
  obtain ⟨mB, O', _⟩ := ins_get I.hok hy
  obtain ⟨od, O, _⟩ := O.look
  obtain ⟨od', O', _⟩ := O'.look
  obtain ⟨m', hF⟩ := I.fr
  refine PySem.W.cmp_K (op := .Eq) (tb := .ref C) (hr.mono (Nat.le_succ k)).units0 hF I.ok.mod.kin O O'.type (by simp [PySem.W.notFirst]) hs hf (thn (run_at (vs := [.ref q, .ref p]) F (hr.mono (Nat.le_succ k)) hb passNo I (.cons rfl (.cons rfl .nil)) h) fun v s' hv => ?_)
  obtain ⟨y, H', I', ry, k, rfl, qk⟩ := hv
  cases ry
  rw [xor_ff] at qk
  exact ⟨.bl k, H', I', rfl, qk⟩
theorem op_neO {C g : Addr} {k : Nat} {fd : FuncData} {s0 s1 : Str} {m : List D → W D} {cm : Str → Option Addr} (ic : IsC X.K C) (hs : PySem.W.findIn X.K (.ref C) "__eq__" = some (some (.ref g))) (hf : PySem.W.isFn X.K (.ref g) = true) (F : FnM X.prog X.w X.K X.mg X.base cm k g fd [s0, s1] m) (hr : Room (k + 1) X.A) (hb : Binds X.K fd [s0, s1] []) :
    OpR X (compareOp .NotEq) (rEqO X.K cm C m true) := by
  intro pins s σ H x y v u Q I rx ry ask
  obtain ⟨q, p, dx, dy, fs, gs, rfl, rfl, hx, hy, h⟩ := ask
  cases rx
  cases ry
  obtain ⟨mA, O, _⟩ := ins_get I.hok hx
  obtain ⟨mB, O', _⟩ := ins_get I.hok hy
  obtain ⟨od, O, _⟩ := O.look
  obtain ⟨od', O', _⟩ := O'.look
  obtain ⟨m', hF⟩ := I.fr
  refine ne_K (tb := .ref C) (by have := hr.un; omega) hF I.ok.mod.kin O O'.type (by simp [PySem.W.notFirst]) ic.k4 ic.k5 hs hf (thn (run_in1 (vs := [.ref q, .ref p]) F hr hb passNo I (.cons rfl (.cons rfl .nil)) h) fun v s' hv => ?_)
  obtain ⟨y, H', I', ry, k, rfl, qk⟩ := hv
  cases ry
  rw [xor_tt] at qk
  exact ⟨k, rfl, .bl (!k), H', I', rfl, qk⟩
theorem eqO_wp {c : Str} {C : Addr} {n : Bool} {m : List D → W D} (hc : z.cm c = some C) : ∀ x y d e H G Q, Vw z G H → Den X.K z G x d → Den X.K z G y e → (eqO n c m d e).wp (VQ X.K z G H Q) J.xQ → rEqO X.K z.cm C m n x y H Q := by
  intro x y d e H G Q vw dx dy h
  obtain ⟨q, qx, fs, gs, rfl, h2, h3, rfl, h4⟩ := insOf_wp hc dx h
  obtain ⟨p, px, fs', gs', rfl, k2, k3, rfl, k4⟩ := insOf_wp hc dy h4
  refine ⟨q, p, qx, px, fs, fs', rfl, rfl, vw.sub _ _ h2, vw.sub _ _ k2, (z.bg.bag, z.bg.lm), G, _, vw.low, .cons dx.low (.one dy.low), rfl, (m _).mono (fun r hr v' H' G' g' dv => ?_) (fun _ z => z.elim) k4⟩
  obtain ⟨k, rfl, rfl, h5⟩ := ofB_wp (H := H) dv.up hr
  exact ⟨k, rfl, h5 _ _ _ (g'.up vw) (.bl _)⟩
theorem od_eqO {c : Str} {C g : Addr} {k : Nat} {fd : FuncData} {s0 s1 : Str} {m : List D → W D} (hc : z.cm c = some C) (hs : PySem.W.findIn X.K (.ref C) "__eq__" = some (some (.ref g))) (hf : PySem.W.isFn X.K (.ref g) = true) (F : FnM X.prog X.w X.K X.mg X.base z.cm k g fd [s0, s1] m) (hr : Room (k + 1) X.A) (hb : Binds X.K fd [s0, s1] []) :
    OpD X J (compareOp .Eq) (eqO false c m) := ⟨_, op_eqO hs hf F hr hb, eqO_wp hc⟩
theorem od_neO {c : Str} {C g : Addr} {k : Nat} {fd : FuncData} {s0 s1 : Str} {m : List D → W D} (hc : z.cm c = some C) (ic : IsC X.K C) (hs : PySem.W.findIn X.K (.ref C) "__eq__" = some (some (.ref g))) (hf : PySem.W.isFn X.K (.ref g) = true) (F : FnM X.prog X.w X.K X.mg X.base z.cm k g fd [s0, s1] m) (hr : Room (k + 1) X.A) (hb : Binds X.K fd [s0, s1] []) :
    OpD X J (compareOp .NotEq) (eqO true c m) := ⟨_, op_neO ic hs hf F hr hb, eqO_wp hc⟩
/-- try, where the body raises nothing -/
theorem sv_try {c : Value} {body suite : List Stmt} {b₀ : Stmt} {np pos' : Pos} (hs : X.stack = X.env :: X.outer) (hf : X.env.frame = some X.env.locals) (hc : Names X x c)
    (hb : ∀ (pn : List (Addr × Obj)) (xe : Value → Shared → Prop), SVs (X := X.tr pn xe) (z := z) J.no body mf) : SV X J (.Try body [.ExceptHandler (some (.Name x np)) none (b₀ :: suite) pos'] [] [] pos) (fun env => W.noX (mf env)) := by
  refine ⟨_, ps_try_only (c := c) (tb := fun _ N σ H => ∀ pn xe, (hb pn xe).choose N σ H) (ts := fun _ _ _ _ _ _ => False) (Wout := fun _ _ _ _ => False) hs hf hc L2.takes0 (fun W pn xe _ _ => ⟨fun pins s σ H D I h => (hb pn xe).choose_spec.1.run pins s σ H D I (h pn xe)⟩) (fun a oe cls d pn _ _ => ⟨fun pins s σ H D I h => h.elim⟩), fun σ H G env N at_ h pn xe => ?_⟩
  exact (hb pn xe).choose_spec.2 σ H G env N at_ h
end
end Rg

set_option Elab.async false
set_option linter.all false
set_option maxRecDepth 100000
set_option maxHeartbeats 4500000
/-! the rules by data: texts cut at a sign, the place of an item, lists unpacked -/
namespace Rg
open PySem PySem.Spec PyProof.Rows L2
/-- cut at the first c -/
def cutC (c : Nat) : List Nat → Option (List Nat × List Nat)
  | [] => none
  | x :: r => if x = c then some ([], r) else (cutC c r).map fun q => (x :: q.1, q.2)
theorem cutC_some {c : Nat} : ∀ {l p q : List Nat}, cutC c l = some (p, q) → l = p ++ [c] ++ q ∧ c ∉ p
  | x :: r, p, q, h => by
    unfold cutC at h
    by_cases e : x = c
    · rw [if_pos e] at h
      cases h
      subst e
      exact ⟨rfl, fun z => by cases z⟩
    · rw [if_neg e] at h
      obtain ⟨⟨p', q'⟩, h1, h2⟩ := Option.map_eq_some_iff.mp h
      cases h2
      obtain ⟨h3, h4⟩ := cutC_some h1
      refine ⟨by rw [h3]; rfl, fun z => ?_⟩
      cases z with
      | head => exact e rfl
      | tail _ z => exact h4 z
theorem cutC_none {c : Nat} : ∀ {l : List Nat}, cutC c l = none → c ∉ l
  | [], _, z => by cases z
  | x :: r, h, z => by
    unfold cutC at h
    by_cases e : x = c
    · rw [if_pos e] at h
      cases h
    · rw [if_neg e] at h
      cases z with
      | head => exact e rfl
      | tail _ z => exact cutC_none (Option.map_eq_none_iff.mp h) z
theorem cutC_app {c : Nat} : ∀ {p q : List Nat}, c ∉ p → cutC c (p ++ c :: q) = some (p, q)
  | [], q, _ => by
    unfold cutC
    exact if_pos rfl
  | x :: r, q, h => by
    have e : x ≠ c := fun z => h (by rw [z]; exact List.mem_cons_self)
    rw [List.cons_append]
    show (if x = c then _ else _) = _
    rw [if_neg e, cutC_app fun z => h (List.mem_cons_of_mem _ z)]
    rfl
theorem cutC_not {c : Nat} : ∀ {l : List Nat}, c ∉ l → cutC c l = none
  | [], _ => rfl
  | x :: r, h => by
    have e : x ≠ c := fun z => h (by rw [z]; exact List.mem_cons_self)
    show (if x = c then _ else _) = _
    rw [if_neg e, cutC_not fun z => h (List.mem_cons_of_mem _ z)]
    rfl
/-- cut at each c -/
def splitC (c : Nat) : List Nat → List (List Nat)
  | [] => [[]]
  | x :: r => if x = c then [] :: splitC c r else match splitC c r with
    | p :: ps => (x :: p) :: ps
    | [] => [[x]]
theorem splitC_ne (c : Nat) : ∀ l, splitC c l ≠ []
  | [] => fun z => by cases z
  | x :: r => by
    unfold splitC
    split
    · exact fun z => by cases z
    · split <;> exact fun z => by cases z
theorem splitC_has {c : Nat} : ∀ {l p : List Nat}, p ∈ splitC c l → c ∉ p
  | [], p, h => by
    rw [List.mem_singleton.mp h]
    exact fun z => by cases z
  | x :: r, p, h => by
    unfold splitC at h
    by_cases e : x = c
    · rw [if_pos e] at h
      rcases List.mem_cons.mp h with rfl | q
      · exact fun z => by cases z
      · exact splitC_has q
    · rw [if_neg e] at h
      have ih := @splitC_has c r
      revert h ih
      cases splitC c r with
      | nil =>
        intro h _ z
        rw [List.mem_singleton.mp h] at z
        exact e (List.mem_singleton.mp z).symm
      | cons y ys =>
        intro h ih z
        rcases List.mem_cons.mp h with rfl | q
        · rcases List.mem_cons.mp z with e2 | z
          · exact e e2.symm
          · exact ih List.mem_cons_self z
        · exact ih (List.mem_cons_of_mem _ q) z
theorem joinL_cons {s x : List Nat} {ys : List (List Nat)} (h : ys ≠ []) : joinL s (x :: ys) = x ++ s ++ joinL s ys := by
  cases ys with
  | nil => exact (h rfl).elim
  | cons y r => rfl
theorem splitC_join (c : Nat) : ∀ l, joinL [c] (splitC c l) = l
  | [] => rfl
  | x :: r => by
    have ih := splitC_join c r
    have ne := splitC_ne c r
    unfold splitC
    by_cases e : x = c
    · rw [if_pos e, joinL_cons ne, ih, e]
      rfl
    · rw [if_neg e]
      revert ih ne
      cases splitC c r with
      | nil => exact fun _ ne => (ne rfl).elim
      | cons y ys =>
        intro ih _
        cases ys with
        | nil =>
          show x :: y = x :: r
          rw [← ih]
          rfl
        | cons w ws =>
          show (x :: y) ++ [c] ++ joinL [c] (w :: ws) = x :: r
          rw [← ih]
          rfl
theorem splitC_app {c : Nat} : ∀ {p : List Nat} (q : List Nat), c ∉ p → splitC c (p ++ c :: q) = p :: splitC c q
  | [], q, _ => by
    show (if c = c then _ else _) = _
    rw [if_pos rfl]
  | x :: r, q, h => by
    have e : x ≠ c := fun z => h (by rw [z]; exact List.mem_cons_self)
    show (if x = c then _ else match splitC c (r ++ c :: q) with
      | p :: ps => (x :: p) :: ps
      | [] => [[x]]) = _
    rw [if_neg e, splitC_app q fun z => h (List.mem_cons_of_mem _ z)]
theorem splitC_not {c : Nat} : ∀ {p : List Nat}, c ∉ p → splitC c p = [p]
  | [], _ => rfl
  | x :: r, h => by
    have e : x ≠ c := fun z => h (by rw [z]; exact List.mem_cons_self)
    show (if x = c then _ else match splitC c r with
      | p :: ps => (x :: p) :: ps
      | [] => [[x]]) = _
    rw [if_neg e, splitC_not fun z => h (List.mem_cons_of_mem _ z)]
theorem splitC_joinL {c : Nat} : ∀ {ls : List (List Nat)}, ls ≠ [] → (∀ l ∈ ls, c ∉ l) → splitC c (joinL [c] ls) = ls
  | [], h, _ => (h rfl).elim
  | [x], _, h => splitC_not (h x List.mem_cons_self)
  | x :: y :: r, _, h => by
    rw [joinL_cons (fun z => by cases z), List.append_assoc]
    show splitC c (x ++ c :: joinL [c] (y :: r)) = _
    rw [splitC_app _ (h x List.mem_cons_self), splitC_joinL (fun z => by cases z) fun l hl => h l (List.mem_cons_of_mem _ hl)]
theorem splitC_len (c : Nat) : ∀ l, (splitC c l).length ≤ l.length + 1
  | [] => Nat.le_refl _
  | x :: r => by
    have ih := splitC_len c r
    unfold splitC
    split
    · simpa using ih
    · revert ih
      cases splitC c r with
      | nil => intro _; simp
      | cons y ys => intro ih; simp at *; omega
theorem splitC_mem {c x : Nat} {l p : List Nat} (h : p ∈ splitC c l) (hx : x ∈ p) : x ∈ l := by
  rw [← splitC_join c l]
  revert h
  induction splitC c l with
  | nil => exact fun h => by cases h
  | cons y ys ih =>
    intro h
    cases ys with
    | nil =>
      rw [List.mem_singleton.mp h] at hx
      exact hx
    | cons w ws =>
      show x ∈ y ++ [c] ++ joinL [c] (w :: ws)
      rcases List.mem_cons.mp h with rfl | q
      · exact List.mem_append_left _ (List.mem_append_left _ hx)
      · exact List.mem_append_right _ (ih q)
theorem splitC_le {c : Nat} : ∀ {l p : List Nat}, p ∈ splitC c l → p.length ≤ l.length
  | [], p, h => by
    rw [List.mem_singleton.mp h]
    exact Nat.le_refl _
  | x :: r, p, h => by
    have ih := @splitC_le c r
    unfold splitC at h
    split at h
    · rcases List.mem_cons.mp h with rfl | q
      · exact Nat.zero_le _
      · exact Nat.le_succ_of_le (ih q)
    · revert h ih
      cases splitC c r with
      | nil =>
        intro _ h
        rw [List.mem_singleton.mp h]
        simp
      | cons y ys =>
        intro ih h
        rcases List.mem_cons.mp h with rfl | q
        · have := ih (p := y) List.mem_cons_self
          simpa using this
        · exact Nat.le_succ_of_le (ih (List.mem_cons_of_mem _ q))
section
variable {X : Cx} {z : Zk} {J : Jx X.K z} {a b c e o tg : Expr} {es : List Expr} {ma mb mc mo : Ev → W D} {ms mk : Ev → W (List D)} {mf : Ev → W Fl} {pos p p2 pos2 apos cpos : Pos} {x f m : Str}
def partL (l : List Nat) (c : Nat) : D := match cutC c l with
  | some (p, q) => .tup [.str p, .str [c], .str q]
  | none => .tup [.str l, .str [], .str []]
def partD (l : List Nat) : D → W D
  | .str [c] => W.pure (partL l c)
  | _ => W.fail
theorem ev_part (ho : EV X J o mo) (he : EV X J e ma) (hs : starEach [e] X.env = [(false, eval e X.env)] := by rfl) (hbase : attributeBase o "partition" X.env (eval o X.env) = eval o X.env := by rfl) (hline : (apos.endLine == pos.line) = true := by rfl) :
    EV X J (.Call (.Attribute o "partition" apos) [e] [] pos) (fun env => W.bind (W.bind (mo env) strOf) fun s => W.bind (ma env) (partD s)) := by
  obtain ⟨t, p, q⟩ := ho
  obtain ⟨t', p', q'⟩ := he
  refine ⟨_, pe_partition p p' hs hbase hline, fun σ H G env Q at_ h => q σ H G env _ at_ ((mo env).mono (fun d h1 v H1 G1 g1 d1 => ?_) (fun _ q => q) h)⟩
  cases d1 with
  | str l hl1 hl2 =>
    refine ⟨⟨_, rfl⟩, q' σ H1 G1 env _ (at_.grow g1) ((ma env).mono (fun e h2 u H2 G2 g2 d2 => ?_) (fun _ q => q) h1)⟩
    cases d2 with
    | str k hk1 hk2 =>
      match k, hk1, hk2, h2 with
      | [c], hk1, hk2, h2 =>
        refine ⟨sOf l, sOf [c], rfl, rfl, rfl, by rw [len_sOf]; exact Nat.le_trans hl1 (by decide), fun pa np => ?_⟩
        have e1 : TL.tl (sOf [c]) = c :: [] := rfl
        have h3 : VQ X.K z G H Q (partL l c) := h2
        have g3 := g1.trans g2
        unfold partL at h3
        cases hc : cutC c l with
        | none =>
          rw [TL.partition_none e1 (a := sOf l) (cutC_none hc)]
          rw [hc] at h3
          refine h3 _ _ _ (g3.trans (.new g3.vw np)) (.tup (.inl upd_same) ?_ (show 3 ≤ big by decide))
          exact .cons (.str l hl1 hl2) (.cons (.str [] (Nat.zero_le _) fun _ z => by cases z) (.one (.str [] (Nat.zero_le _) fun _ z => by cases z)))
        | some pq =>
          obtain ⟨x1, x2⟩ := pq
          obtain ⟨el, nl⟩ := cutC_some hc
          have es : sOf l = sOf x1 ++ sOf [c] ++ sOf x2 := by rw [sOf_app, sOf_app, ← el]
          rw [es, TL.partition_app e1 (a := sOf x1) (b := sOf x2) nl]
          rw [hc] at h3
          have le : x1.length + 1 + x2.length = l.length := by rw [el]; simp; omega
          refine h3 _ _ _ (g3.trans (.new g3.vw np)) (.tup (.inl upd_same) ?_ (show 3 ≤ big by decide))
          exact .cons (.str x1 (by omega) fun y hy => hl2 y (by rw [el]; simp [hy])) (.cons (.str [c] hk1 hk2) (.one (.str x2 (by omega) fun y hy => hl2 y (by rw [el]; simp [hy]))))
    | _ => exact h2.elim
  | _ => exact h1.elim
def splitD (l : List Nat) : D → W D
  | .str [c] => W.bind (W.need (c < 256 ∧ l.length < 10000)) fun _ => W.pure (.lst ((splitC c l).map D.str))
  | _ => W.fail
theorem dens_strs {K : PySem.W.Frag} {G : Hp} : ∀ {ls : List (List Nat)}, (∀ l ∈ ls, l.length ≤ big ∧ ∀ c ∈ l, c < 1114112) → Dens K z G ((ls.map sOf).map V.str) (ls.map D.str)
  | [], _ => .nil
  | l :: r, h => .cons (.str l (h l List.mem_cons_self).1 (h l List.mem_cons_self).2) (dens_strs fun x hx => h x (List.mem_cons_of_mem _ hx))
theorem split_sOf {c : Nat} (hc : c < 256) (l : List Nat) : Txt.split (sOf l) (sOf [c]) = (splitC c l).map sOf := by
  have e1 : TL.tl (sOf [c]) = c :: [] := rfl
  have e2 := TL.split_join (y := sOf [c]) (s := c) (S := []) e1 (by simp [sOf, hc]) (parts := (splitC c l).map sOf) (fun z => splitC_ne c l (List.map_eq_nil_iff.mp z)) (fun p hp => by
    obtain ⟨k, hk, rfl⟩ := List.mem_map.mp hp
    exact splitC_has hk)
  rw [txtJoin_sOf, splitC_join] at e2
  exact e2
theorem ev_split (ho : EV X J o mo) (he : EV X J e ma) (hs : starEach [e] X.env = [(false, eval e X.env)] := by rfl) (hbase : attributeBase o "split" X.env (eval o X.env) = eval o X.env := by rfl) (hline : (apos.endLine == pos.line) = true := by rfl) :
    EV X J (.Call (.Attribute o "split" apos) [e] [] pos) (fun env => W.bind (W.bind (mo env) strOf) fun s => W.bind (ma env) (splitD s)) := by
  obtain ⟨t, p, q⟩ := ho
  obtain ⟨t', p', q'⟩ := he
  refine ⟨_, pe_split p p' hs hbase hline, fun σ H G env Q at_ h => q σ H G env _ at_ ((mo env).mono (fun d h1 v H1 G1 g1 d1 => ?_) (fun _ q => q) h)⟩
  cases d1 with
  | str l hl1 hl2 =>
    refine ⟨⟨_, rfl⟩, q' σ H1 G1 env _ (at_.grow g1) ((ma env).mono (fun e h2 u H2 G2 g2 d2 => ?_) (fun _ q => q) h1)⟩
    cases d2 with
    | str k hk1 hk2 =>
      match k, hk1, hk2, h2 with
      | [c], hk1, hk2, h2 =>
        obtain ⟨⟨c1, l1⟩, h3⟩ := h2
        refine ⟨sOf l, sOf [c], rfl, rfl, rfl, by rw [len_sOf]; exact Nat.le_trans (show l.length + 2 ≤ 20000 by omega) (by decide), fun pa np => ?_⟩
        rw [split_sOf c1]
        have g3 := g1.trans g2
        refine h3 _ _ _ (g3.trans (.new g3.vw np)) (.lst upd_same ((dens_strs fun k hk => ⟨Nat.le_trans (splitC_le hk) hl1, fun y hy => hl2 y (splitC_mem hk hy)⟩)) ?_)
        rw [List.length_map]
        refine Nat.le_trans (splitC_len c l) ?_
        show _ ≤ 100000
        omega
    | _ => exact h2.elim
  | _ => exact h1.elim
/-- l.index(x) of flat data -/
def findD (x : D) : List D → Option Nat
  | [] => none
  | y :: r => if eqvD y x then some 0 else (findD x r).map (· + 1)
def indexD : D → D → W D
  | .lst ds, x => W.bind (W.need (flatD x = true ∧ ds.all flatD = true)) fun _ => ofO ((findD x ds).map fun j => .int (j : Nat))
  | _, _ => W.fail
theorem findD_some {x : D} : ∀ {ds : List D} {j : Nat}, findD x ds = some j → ∃ y, ds[j]? = some y ∧ eqvD y x = true ∧ ∀ (k : Nat) (y' : D), k < j → ds[k]? = some y' → eqvD y' x = false
  | y :: r, j, h => by
    unfold findD at h
    by_cases e : eqvD y x = true
    · rw [if_pos e] at h
      cases h
      exact ⟨y, rfl, e, fun k _ hk => by omega⟩
    · rw [if_neg e] at h
      obtain ⟨i, h1, rfl⟩ := Option.map_eq_some_iff.mp h
      obtain ⟨y', h2, h3, h4⟩ := findD_some h1
      refine ⟨y', h2, h3, fun k w hk hw => ?_⟩
      cases k with
      | zero =>
        cases hw
        simpa using e
      | succ k => exact h4 k w (by omega) hw
theorem dens_at {K : PySem.W.Frag} {G : Hp} : ∀ {vs : List V} {ds : List D} {j : Nat}, Dens K z G vs ds → (∀ d, ds[j]? = some d → ∃ v, vs[j]? = some v ∧ Den K z G v d) ∧ ∀ v, vs[j]? = some v → ∃ d, ds[j]? = some d ∧ Den K z G v d
  | _, _, _, .nil => ⟨fun _ h => (by cases h), fun _ h => (by cases h)⟩
  | _, _, 0, .cons h _ => ⟨fun d e => (by cases e; exact ⟨_, rfl, h⟩), fun v e => (by cases e; exact ⟨_, rfl, h⟩)⟩
  | _, _, j + 1, .cons _ r => dens_at (j := j) r
theorem dens_flat {K : PySem.W.Frag} {G : Hp} : ∀ {vs : List V} {ds : List D}, Dens K z G vs ds → ds.all flatD = true → vs.all flatV = true
  | _, _, .nil, _ => rfl
  | _, _, .cons h r, e => by
    rw [List.all_cons, Bool.and_eq_true] at e ⊢
    exact ⟨den_flat h e.1, dens_flat r e.2⟩
theorem ev_index (ho : EV X J o mo) (he : EV X J e ma)
    (hbase : attributeBase o "index" X.env (eval o X.env) = eval o X.env := by rfl)
    (hfew : ((backTo cpos (starEach [e] X.env)).all (fun x => !x.1) && (backToKw cpos (keywordEach [] X.env)).all (fun x => x.1.isSome) && decide (([e] : List Expr).length + ([] : List Keyword).length + (if ([] : List Keyword).isEmpty then 0 else 1) < 30)) = true := by rfl)
    (hline : (apos.endLine == cpos.line) = true := by rfl) (hst : starEach [e] X.env = (false, eval e X.env) :: starEach [] X.env := by rfl) (hplain : (backTo cpos (starEach [] X.env)).any (·.1) = false := by rfl) :
    EV X J (.Call (.Attribute o "index" apos) [e] [] cpos) (fun env => W.bind (W.bind (mo env) lstOf) fun ds => W.bind (ma env) fun x => indexD (.lst ds) x) := by
  obtain ⟨t, p, q⟩ := ho
  obtain ⟨t', p', q'⟩ := he
  refine ⟨_, pe_bm PySem.F.plainAttrs_list PySem.F.slot_list_index PySem.F.type_list_index mt_index p (pa_cons p' pa_nil hst) hbase hfew hline hst hplain, fun σ H G env Q at_ h => q σ H G env _ at_ ((mo env).mono (fun d h1 v H1 G1 g1 d1 => ?_) (fun _ q => q) h)⟩
  cases d1 with
  | @lst al xs ds qa r l =>
    refine ⟨.inl ⟨rfl, xs, SqL.of (g1.vw.sub _ _ qa)⟩, q' σ H1 G1 env _ (at_.grow g1) ((ma env).mono (fun e h2 u H2 G2 g2 d2 => ?_) (fun _ q => q) h1)⟩
    obtain ⟨⟨f1, f2⟩, h3⟩ := h2
    obtain ⟨y, h4, h5⟩ := ofO_wp h3
    obtain ⟨j, h6, rfl⟩ := Option.map_eq_some_iff.mp h4
    obtain ⟨w, k1, k2, k3⟩ := findD_some h6
    have r2 := r.same g2.gg
    obtain ⟨v', m1, m2⟩ := (dens_at (j := j) r2).1 w k1
    have fl := List.all_eq_true.mp f2
    refine ⟨al, xs, u, j, v', rfl, rfl, SqL.of (g2.vw.sub _ _ (g2.gg _ _ qa)), den_flat d2 f1, dens_flat r2 f2, m1, ?_, fun k w' hk hw => ?_, ?_⟩
    · rw [eqV_D m2 d2 (fl w (List.mem_of_getElem? k1)) f1]
      exact k2
    · obtain ⟨d', n1, n2⟩ := (dens_at (j := k) r2).2 w' hw
      rw [eqV_D n2 d2 (fl d' (List.mem_of_getElem? n1)) f1]
      exact k3 k d' hk n1
    · exact h5 _ _ _ (g1.trans g2) (.int _)
  | _ => exact h1.elim
/-- a, b, .. = a list -/
def gLstW (n : Nat) (g : List D → Ev → W Ev) (d : D) (env : Ev) : W Ev := W.bind (lstOf d) fun ds => W.bind (W.need (ds.length = n)) fun _ => g ds env
theorem gv_lst {k n : Nat} {js : List Nat} {g : List D → Ev → W Ev} (hc : X.calm = true) (h : GVs X J es js g) (hn : (assignEach es X.env).length = n := by rfl) (hst : (assignEach es X.env).findIdx? (·.1) = none := by rfl) :
    GV X J (.Tuple es k pos) js (gLstW n g) := by
  obtain ⟨g1, p1, q1⟩ := h
  refine ⟨_, pg_lst hc p1 hn hst, fun v d σ H G env R at_ dv h => ?_⟩
  cases dv with
  | lst q r l => exact ⟨_, _, rfl, SqL.of (at_.gr.vw.sub _ _ q), by rw [r.len]; exact h.1, q1 _ _ σ H G env R at_ r h.2⟩
  | _ => exact h.elim
end
end Rg

set_option Elab.async false
set_option linter.all false
set_option maxRecDepth 100000
set_option maxHeartbeats 4500000
/-! the rules by data: enumerate of a tuple, displays with stars -/
namespace Rg
open PySem PySem.Spec PyProof.Rows L2
theorem meets_enum1 {v : Value} {o : Obj} {F : Heap → Prop} (B : Begins v o F) : Meets (Builtin.«enumerate.__new__» ⟨[.type "enumerate", v], []⟩) (fun _ R s => F s.heap ∧
    R (.ok (.ret (.ref (s.heap.push o).objs.size))) { s with heap := (s.heap.push o).push { cls := .type "enumerate", data := .fields #[.none, .bool false, .ref s.heap.objs.size, rawInt 0, .none, .none] } }) :=
  .of_wp fun prog w A R st0 h => by
    obtain ⟨hp, g, d, tk, os⟩ := st0
    obtain ⟨hF, h⟩ := h
    have hsub := sub_enumerate
    have it1 : ∀ {A' : Around} {E : Value → Shared → Prop} {Q : Value → Shared → Prop}, Q (.ref hp.objs.size) ⟨hp.push o, g, d, tk, os⟩ → wpAny (model prog w) A' (pyIter v) Q E ⟨hp, g, d, tk, os⟩ := fun q => B.iter prog w _ _ ⟨hp, g, d, tk, os⟩ _ hF q
    wp_walk using it1
    refine wpAny_stack_any (fun st => wpAny_pure ?_)
    split
    · rename_i cl _ _ _ _ _
      cases (cl == Value.type "enumerate")
      all_goals
        wp_walk using it1
        exact ⟨_, rfl, h⟩
    · wp_walk using it1
      exact ⟨_, rfl, h⟩
theorem enum1_begins {prog : Program} {w : World} {A : Around} {E : Value → Shared → Prop} {s : Shared} {v : Value} {o : Obj} {F : Heap → Prop} {Q : Value → Shared → Prop} (B : Begins v o F) (hF : F s.heap)
    (h : ∀ h', IsEnum h' (s.heap.objs.size + 1) s.heap.objs.size 0 .none → h'.get? s.heap.objs.size = some o → (∀ b o, s.heap.get? b = some o → h'.get? b = some o) → Q (.ref (s.heap.objs.size + 1)) { s with heap := h' }) :
    wpAny (model prog w) A (call (.type "enumerate") [v]) Q E s := by
  refine callType_new PySem.F.called_enumerate (by decide) (PySem.F.typeCall_enumerate_1 _) (PySem.F.newCall_enumerate_1 _) (fun obj => PySem.F.args_object_init_2 obj _) PySem.F.entry_enumerate_new (meets_enum1 B) ⟨hF, ?_⟩
  have sz : (s.heap.push o).objs.size = s.heap.objs.size + 1 := Heap.size_push ..
  have he : IsEnum ((s.heap.push o).push { cls := .type "enumerate", data := .fields #[.none, .bool false, .ref s.heap.objs.size, rawInt 0, .none, .none] }) (s.heap.objs.size + 1) s.heap.objs.size 0 .none := by
    have e := Heap.get?_push_size (s.heap.push o) (o := { cls := .type "enumerate", data := .fields #[.none, .bool false, .ref s.heap.objs.size, rawInt 0, .none, .none] }) rfl
    rw [sz] at e
    exact e
  show _ ∧ _
  rw [sz]
  exact ⟨⟨_, he, rfl⟩, h _ he (Heap.get?_push_of_some _ (Heap.get?_push_size _ B.free)) fun b o x => Heap.get?_push_of_some _ (Heap.get?_push_of_some _ x)⟩
/-- the tuple at a, each item in a new pair -/
def IteT (K : PySem.W.Frag) (a : Addr) (n : Nat) : It :=
  ⟨fun i H => ∃ (xs : List V) (x : V), SqT K H a xs ∧ xs.length = n ∧ xs[i]? = some x,
   fun i H v H' => ∃ T x, v = .ref T ∧ H T = none ∧ H' = upd H T (.tup [.int (i : Nat), x]) ∧ ∀ xs, SqT K H a xs → xs[i]? = some x,
   fun i H => ∃ xs : List V, SqT K H a xs ∧ xs.length = n ∧ n ≤ i⟩
theorem turn_enumT {P : Program} {w : World} {K : PySem.W.Frag} {elts : List Expr} {kk : Nat} {tpos : Pos} (a e it : Addr) (n : Nat) :
    Turn P w K (.Tuple elts kk tpos) (IteT K a n) [e, it] e (fun i h => i ≤ n ∧ (∃ old, IsEnum h e it ((i : Nat) : Int) old) ∧ h.IsTupleIter it a i ∧ e ≠ it) := by
  have old : ∀ {i : Nat} {h : Heap}, (i ≤ n ∧ (∃ old, IsEnum h e it ((i : Nat) : Int) old) ∧ h.IsTupleIter it a i ∧ e ≠ it) → ∀ b ∈ [e, it], ∃ o, h.get? b = some o ∧ ∀ v, o.data ≠ .cell v := by
    intro i h st b hb
    obtain ⟨_, ⟨old, he⟩, ⟨o, ho, hc, hd⟩, _⟩ := st
    rcases List.mem_cons.mp hb with e1 | e1
    · rw [e1]
      exact ⟨_, he, fun v q => nomatch q⟩
    · rw [List.mem_singleton.mp e1]
      exact ⟨o, ho, fun v q => by rw [hd] at q; cases q⟩
  have apart : ∀ {i : Nat} {h : Heap} {its : Array Value}, (i ≤ n ∧ (∃ old, IsEnum h e it ((i : Nat) : Int) old) ∧ h.IsTupleIter it a i ∧ e ≠ it) → h.IsTuple a its → a ≠ it ∧ e ∉ [it, a] := by
    intro i h its st ht
    obtain ⟨_, ⟨old, he⟩, ⟨o, ho, hc, hd⟩, ne⟩ := st
    obtain ⟨o2, ho2, hc2, _⟩ := ht
    have n1 : a ≠ it := fun z => by
      rw [z, ho] at ho2
      cases ho2
      rw [hc] at hc2
      exact absurd hc2 (by decide)
    refine ⟨n1, fun z => ?_⟩
    rcases List.mem_cons.mp z with q | z
    · exact ne q
    · rw [← List.mem_singleton.mp z, show h.get? e = _ from he] at ho2
      cases ho2
      exact absurd hc2 (show ¬ (Value.type "enumerate" = Value.type "tuple") by decide)
  refine ⟨List.mem_cons_self, fun i h st b hb => old st b hb, fun i h h' st k => ?_, ?_, ?_, ?_⟩
  · obtain ⟨hi, ⟨od, he⟩, ht, ne⟩ := st
    exact ⟨hi, ⟨od, k e (by simp) _ he⟩, ht.at fun o q => k it (by simp) o q, ne⟩
  · intro X hP hw hK hc i pins s σ H E I hf st hg
    subst hP hw hK
    obtain ⟨xs, x, hq, hl, hx⟩ := hg
    obtain ⟨its, rv, tp, hz⟩ := I.tuple hq
    obtain ⟨u, hu, rel⟩ := rv.get hx
    obtain ⟨n1, n2⟩ := apart st tp
    have len : its.toArray.size = n := by rw [List.size_toArray, ← rv.length, hl]
    have hh : X.A.in1.handled = none := I.ok.hd hc
    have W := GoesN.enumFrom (elts := elts) (x1 := kk) (pos := tpos) 0 (Draws.tuple (prog := X.prog) (w := X.w) (A := X.A.in1) hh it a n1 its.toArray) e st.2.2.2 n2 List.mem_cons_self
    have hi : i < its.toArray.size := by
      rw [len, ← hl]
      exact (List.getElem?_eq_some_iff.mp hx).1
    obtain ⟨od, he⟩ := st.2.1
    have ei : (0 : Int) + (i : Int) = ((i : Nat) : Int) := by omega
    refine W.goes i s _ E hi ⟨⟨od, by rw [ei]; exact he⟩, st.2.2.1, tp⟩ fun v h' tk hY st' keep htk => ?_
    obtain ⟨T, t, y, rfl, hT, hy, hTup⟩ := hY
    have ey : y = u := by
      have h1 : its.toArray[i]? = some y := hy
      rw [List.getElem?_toArray, hu] at h1
      exact Eq.symm (Option.some.inj h1)
    rw [ey, ei] at hTup
    have new : ObjOk X.prog X.w (upd H T (.tup [.int (i : Nat), x])) h' T (.tup [.int (i : Nat), x]) := ⟨(show 2 ≤ sizeLine by decide), [.int i t, u], .cons ⟨_, rfl⟩ (.cons rel .nil), hTup⟩
    have I1 := I.turnedNew (t' := tk) (ch := [e, it]) keep hf hT new
    refine ⟨.ref T, _, I1, rfl, ⟨T, x, rfl, I.hok.fresh hT, rfl, fun ys hy => by rw [I.tuple_inj hy hq]; exact hx⟩, ⟨by rw [← len]; exact hi, ?_, st'.2.1, st.2.2.2⟩, fun b hb => ?_⟩
    · obtain ⟨od', he'⟩ := st'.1
      exact ⟨od', by rw [show ((i + 1 : Nat) : Int) = (0 : Int) + ((i + 1 : Nat) : Int) by omega]; exact he'⟩
    · obtain ⟨o, ho, _⟩ := old st b hb
      rw [upd_ne (Nat.ne_of_lt (Nat.lt_of_lt_of_le (Heap.lt_size ho) hT))]
      exact (hf b hb).1
  · intro X hP hw hK hc i pins s σ H E I hf st hg
    subst hP hw hK
    obtain ⟨xs, hq, hl, hx⟩ := hg
    obtain ⟨its, rv, tp, hz⟩ := I.tuple hq
    obtain ⟨n1, n2⟩ := apart st tp
    have len : its.toArray.size = n := by rw [List.size_toArray, ← rv.length, hl]
    have hh : X.A.in1.handled = none := I.ok.hd hc
    have W := GoesN.enumFrom (elts := elts) (x1 := kk) (pos := tpos) 0 (Draws.tuple (prog := X.prog) (w := X.w) (A := X.A.in1) hh it a n1 its.toArray) e st.2.2.2 n2 List.mem_cons_self
    have ei : i = its.toArray.size := by rw [len]; exact Nat.le_antisymm st.1 hx
    obtain ⟨od, he⟩ := st.2.1
    have st2 := st.2.2.1
    rw [ei] at he st2
    exact W.stops s _ E ⟨⟨od, by rw [show (0 : Int) + ((its.toArray.size : Nat) : Int) = ((its.toArray.size : Nat) : Int) by omega]; exact he⟩, st2, tp⟩ fun h' tk keep htk => I.turnedL (t' := tk) (ch := [e, it]) keep hf
  · intro A i s Q E st h
    obtain ⟨_, ⟨od, he⟩, _⟩ := st
    exact wpAny_pyIter_enum he h
def iEnumE (K : PySem.W.Frag) (ta : TA) : TI := fun σ H R => ta σ H fun vs H1 => (∃ a xs, vs = [.ref a] ∧ SqL K H1 a xs ∧ R (Ite K a) H1) ∨ ∃ a xs, vs = [.ref a] ∧ SqT K H1 a xs ∧ R (IteT K a xs.length) H1
theorem pi_enumE {X : Cx} {e : Expr} {ta : TA} {p pos tpos : Pos} {elts : List Expr} {kk : Nat} (hg : Gl X "enumerate") (hm : X.mg "enumerate" = none) (ha : PA X [e] ta) (hs : starEach [e] X.env = [(false, eval e X.env)] := by rfl) :
    PI X (.Tuple elts kk tpos) (.Call (.Name "enumerate" p) [e] [] pos) (iEnumE X.K ta) := by
  refine ⟨fun pins s σ H R I h => Call_ (ld_blt I hg hm boot_enumerate (PyProof.Rows.callWith_type1 (thn (ha.run pos pins s σ H _ I h) ?_) hs rfl))⟩
  intro us s1 h1
  obtain ⟨vs, H1, I1, r1, ask⟩ := h1
  have new : ∀ b, b ∈ [s1.heap.objs.size + 1, s1.heap.objs.size] → s1.heap.objs.size ≤ b := fun b hb => by
    rcases List.mem_cons.mp hb with z1 | z2
    · rw [z1]
      exact Nat.le_add_right _ _
    · rw [List.mem_singleton.mp z2]
      exact Nat.le_refl _
  rcases ask with ⟨a, xs, rfl, hq, q⟩ | ⟨a, xs, rfl, hq, q⟩
  · cases r1 with
    | cons r rr =>
      cases rr
      cases r
      obtain ⟨its, rv, pl, hz⟩ := I1.list hq
      refine call_enumerate_list pl.isList fun h' he hit _ hk => wpAny_pyIter_enum he ?_
      have I2 : Inv X pins σ H1 { s1 with heap := h' } := Inv.kept (t' := s1.toks) I1 hk
      exact ⟨_, _, _, Ite X.K a, H1, rfl, I2, turn_enum a (s1.heap.objs.size + 1) s1.heap.objs.size, ⟨⟨_, he⟩, hit, Nat.succ_ne_self _⟩, fun b hb => I1.fpOk (new b hb) (I1.hok.fresh (new b hb)), q⟩
  · cases r1 with
    | cons r rr =>
      cases rr
      cases r
      obtain ⟨its, rv, tp, hz⟩ := I1.tuple hq
      refine enum1_begins (begins_tuple a its.toArray) tp fun h' he hit hk => wpAny_pyIter_enum he ?_
      have I2 : Inv X pins σ H1 { s1 with heap := h' } := Inv.kept (t' := s1.toks) I1 hk
      exact ⟨_, _, _, IteT X.K a xs.length, H1, rfl, I2, turn_enumT a (s1.heap.objs.size + 1) s1.heap.objs.size xs.length, ⟨Nat.zero_le _, ⟨_, he⟩, ⟨_, hit, rfl, rfl⟩, Nat.succ_ne_self _⟩, fun b hb => I1.fpOk (new b hb) (I1.hok.fresh (new b hb)), q⟩
section
variable {X : Cx} {z : Zk} {J : Jx X.K z} {a b c e o tg : Expr} {es : List Expr} {ma mb mc mo : Ev → W D} {ms mk : Ev → W (List D)} {mf : Ev → W Fl} {pos p p2 pos2 apos cpos : Pos} {x f m : Str}
theorem wd_enumT {K : PySem.W.Frag} {G : Hp} {p : Addr} {xs : List V} {ds : List D} (h : SqU K G p xs) (d : Dens K z G xs ds) (lb : ds.length ≤ big) : WalkD K z (IteT K p xs.length) (enumD 0 ds) G := by
  have l := d.len
  refine ⟨by rw [enumD_len]; exact lb, fun i H G' s vw hi => ?_, fun H G' s vw => ?_, fun i H G' x H' s vw y hi => ?_⟩
  · rw [enumD_len] at hi
    exact ⟨xs, xs[i]'(by omega), (h.same s).to vw.sub, rfl, List.getElem?_eq_getElem _⟩
  · exact ⟨xs, (h.same s).to vw.sub, rfl, by rw [enumD_len]; omega⟩
  · obtain ⟨T, u, rfl, nT, rfl, hy⟩ := y
    obtain ⟨e, h1, h2⟩ := d.at (hy xs ((h.same s).to vw.sub))
    have h3 := enumD_get (k := 0) h1
    rw [Nat.zero_add] at h3
    exact ⟨_, _, .new vw nT, h3, .tup (.inl upd_same) (.cons (.int _) (.cons ((h2.same s).same (same_new (vw.sub.free nT))) .nil)) (show 2 ≤ big by decide)⟩
/-- the items of a list or a tuple -/
def itemsOf : D → W (List D)
  | .lst ds => W.pure ds
  | .tup ds => W.pure ds
  | _ => W.fail
theorem iv_enumE {p tpos : Pos} {kk : Nat} (hg : Gl X "enumerate") (hm : X.mg "enumerate" = none) (ha : AV X J [a] ms) (hs : starEach [a] X.env = [(false, eval a X.env)] := by rfl) :
    IV X J (.Tuple es kk tpos) (.Call (.Name "enumerate" p) [a] [] pos) (fun env => W.bind (W.bind (ms env) (one1 itemsOf)) fun ds => W.pure (enumD 0 ds)) := by
  obtain ⟨t, p, q⟩ := ha
  refine ⟨_, pi_enumE hg hm p hs, fun σ H G env R at_ h => ?_⟩
  refine q σ H G env _ at_ ((ms env).mono (fun d h1 v H1 G1 g1 d1 => ?_) (fun _ q => q) h)
  obtain ⟨v, d, rfl, rfl, a1, h1⟩ := one1_wp d1 h1
  cases a1 with
  | lst q r l => exact .inl ⟨_, _, rfl, SqL.of (g1.vw.sub _ _ q), h1 _ _ _ g1 (wd_enum q r l)⟩
  | tup q r l => exact .inr ⟨_, _, rfl, q.to g1.vw.sub, h1 _ _ _ g1 (wd_enumT q r l)⟩
  | _ => exact h1.elim
/-- *a in a display or a call -/
theorem av_star (ha : EV X J a ma) (hs : AV X J es ms) (hst : starEach (.Starred a p :: es) X.env = (true, eval a X.env) :: starEach es X.env := by rfl) : AV X J (.Starred a p :: es) (fun env => W.bind (W.bind (ma env) itemsOf) fun xs => W.bind (ms env) fun ds => W.pure (xs ++ ds)) := by
  obtain ⟨ta, pa, qa⟩ := ha
  obtain ⟨ts, ps, qs⟩ := hs
  refine ⟨_, StX.pa_star pa ps hst, fun σ H G env Q at_ h => qa σ H G env _ at_ ((ma env).mono (fun d h1 v H1 G1 g1 d1 => ?_) (fun _ q => q) h)⟩
  cases d1 with
  | lst q r l => exact ⟨_, _, rfl, .inr (SqL.of (g1.vw.sub _ _ q)), qs σ H1 G1 env _ (at_.grow g1) ((ms env).mono (fun ds h2 vs H2 G2 g2 d2 => h2 _ _ _ (g1.trans g2) ((r.same g2.gg).app d2)) (fun _ q => q) h1)⟩
  | tup q r l => exact ⟨_, _, rfl, .inl (q.to g1.vw.sub), qs σ H1 G1 env _ (at_.grow g1) ((ms env).mono (fun ds h2 vs H2 G2 g2 d2 => h2 _ _ _ (g1.trans g2) ((r.same g2.gg).app d2)) (fun _ q => q) h1)⟩
  | _ => exact h1.elim
end
end Rg

set_option Elab.async false
set_option linter.all false
set_option maxRecDepth 100000
set_option maxHeartbeats 4500000
/-! rules of my own: the __init__ of an own error that begins with super().__init__(..) -/
namespace Rg
open PySem PySem.Spec PyProof.Rows L2 PySem.W
structure ExScope (N ps : List Str) (sc : Scope) : Prop where
  kind : sc.kind = .function
  co : sc.isCoroutine = false
  gen : sc.isGenerator = false
  nd : N.Nodup
  pre : N.take ps.length = ps
  pars : ∀ p ∈ ps, sc.names.lookup p = some .local
  cellfree : ∀ q ∈ sc.names, q.2 ≠ .cell
  onlyc : ∀ y ∈ sc.names, y.2 = .free → y.1 = "__class__"
  sup : sc.names.lookup ("super" : Str) = some .globalImplicit
  cls : sc.names.lookup ("__class__" : Str) = some .free
/-- the context of such a body -/
def exCx (P : Program) (w : World) (K : PySem.W.Frag) (mg : Str → Option Value) (base : Heap) (N : List Str) (qual : Str) (scope : Scope) (f : Addr) (cd : Value) (cc : Addr) (A : Around) (outer : List Env) (s : Shared) (H : Hp) : Cx where
  prog := P
  w := w
  K := K
  mg := mg
  base := base
  A := A.deeper (ksEnv qual scope s.heap.objs.size f cd cc)
  N := N
  s_0 := s
  H_0 := H
  env := ksEnv qual scope s.heap.objs.size f cd cc
  outer := outer
  stack := ksEnv qual scope s.heap.objs.size f cd cc :: outer
  ex := []
  calm := true
  fn := fun _ => false
  pn := []
  xe := fun _ _ => False
theorem lookup_one {x : Str} {cc c : Addr} (h : ([("__class__", cc)] : List (Str × Addr)).lookup x = some c) : x = "__class__" ∧ c = cc := by
  rw [List.lookup_cons] at h
  split at h
  · rename_i e
    exact ⟨beq_iff_eq.mp e, (Option.some.inj h).symm⟩
  · cases h
theorem lookup_of_mem {β : Type} {x : Str} {u : β} : ∀ {l : List (Str × β)}, (l.map (·.1)).Nodup → (x, u) ∈ l → l.lookup x = some u
  | [], _, h => by cases h
  | (y, v) :: r, nd, h => by
    rw [List.map_cons, List.nodup_cons] at nd
    rw [List.lookup_cons]
    obtain e | e := List.mem_cons.mp h
    · cases e
      rw [beq_self_eq_true]
    · have ne : x ≠ y := fun z => nd.1 (by rw [← z]; exact List.mem_map.mpr ⟨_, e, rfl⟩)
      rw [show (x == y) = false from by simpa using ne]
      exact lookup_of_mem nd.2 e
theorem ex_start {P : Program} {w : World} {K : PySem.W.Frag} {mg : Str → Option Value} {base : Heap} {N ps : List Str} {qual : Str} {scope : Scope} {f cc : Addr} {cd : Value} {A : Around} {outer : List Env} {s : Shared} {H : Hp} {us : List Value} {vs : List V} {h0 : Heap} {ov : Option Value} {ccl : Value} {ccd : Option Addr} {ccs : Array (Option Value)}
    (S : ExScope N ps scope) (hd : A.handled = none) (e0 : Env0 P w K mg base A outer s H) (hl : vs.length = ps.length) (r : Vals vs us)
    (hcell : K.lookup cc = some ⟨ccl, ccd, .cell ov, ccs⟩)
    (hns : h0.Ns s.heap.objs.size (fun x => (ps.zip us).reverse.lookup x)) (keep : ∀ b o, s.heap.get? b = some o → h0.get? b = some o) (n : Nat) :
    Inv (exCx P w K mg base N qual scope f cd cc A outer s H) [] (L2.start N vs) H { s with heap := h0, toks := n } := by
  have kb : base.get? cc = some ⟨ccl, ccd, .cell ov, ccs⟩ := e0.mod.kin _ _ hcell
  have kc := e0.bs _ _ kb
  have hpl : ps.length ≤ N.length := by
    have := congrArg List.length S.pre
    rw [List.length_take] at this
    omega
  have noA : ∀ b : Addr, b ∉ (exCx P w K mg base N qual scope f cd cc A outer s H).ex := fun b z => absurd (show b ∈ ([] : List Addr) from z) (by simp)
  refine ⟨⟨e0.mod, S.kind, rfl, rfl, Nat.le_refl _, ?_, ?_, fun y c z => absurd z Bool.false_ne_true, fun _ => hd, Around.frames_deeper e0.frames, .inr ⟨rfl, rfl⟩, fun b z => absurd z (noA b), e0.bs, e0.bsz, fun b _ _ => noA b, fun b z => absurd z (noA b), e0.funs, e0.frf⟩,
    rfl, e0.bare, Un.kept keep, ⟨_, hns, ?_⟩, ?_, e0.hok.fresh (Nat.le_refl _), ?_, fun p hp => absurd (show p ∈ ([] : List (Addr × Obj)) from hp) (by simp), e0.hok.kept keep, ?_⟩
  · intro x y c h1 h2
    exact (lookup_one h1).1.trans (lookup_one h2).1.symm
  · intro x hx
    have hx : scope.names.lookup x = some .cell ∨ scope.names.lookup x = some .free := hx
    rcases hx with hx | hx
    · exact absurd rfl (S.cellfree _ (PySem.mem_of_lookup hx))
    · refine ⟨cc, ?_⟩
      rw [show x = "__class__" from S.onlyc _ (PySem.mem_of_lookup hx) rfl]
      rfl
  · intro i x v h1 h2 h3
    have hi : i < vs.length := by
      by_cases hi : i < vs.length
      · exact hi
      · unfold L2.start at h2
        rw [List.getElem?_append_right (by simpa using hi), List.getElem?_replicate] at h2
        split at h2 <;> cases h2
    have here : (vs.map some)[i]? = some (some v) := by
      rw [← h2]
      exact (List.getElem?_append_left (by simpa using hi)).symm
    obtain ⟨y, e1, e2⟩ := Option.map_eq_some_iff.mp (List.getElem?_map .. ▸ here)
    cases e2
    obtain ⟨u, hu, ru⟩ := r.get e1
    have hp : ps[i]? = some x := by
      have cut : (N.take ps.length)[i]? = some x := (List.getElem?_take_of_lt (by omega)).trans h1
      rwa [S.pre] at cut
    have ndP : ps.Nodup := S.pre ▸ S.nd.sublist (List.take_sublist ps.length N)
    refine ⟨u, ru, .inl ⟨S.pars x (List.mem_of_getElem? hp), ?_⟩⟩
    have hul : ps.length = us.length := by
      rw [← hl]
      exact r.length
    refine lookup_of_mem ?_ (List.mem_reverse.mpr (List.mem_of_getElem? (i := i) ?_))
    · rw [List.map_reverse, List.map_fst_zip (Nat.le_of_eq hul)]
      exact List.pairwise_reverse.mpr (List.Pairwise.imp (fun h => Ne.symm h) ndP)
    · rw [List.getElem?_zip_eq_some]
      exact ⟨hp, hu⟩
  · intro x c h
    obtain ⟨_, rfl⟩ := lookup_one h
    exact ⟨ov, ⟨_, keep _ _ kc.1, rfl⟩⟩
  · intro x c h
    obtain ⟨_, rfl⟩ := lookup_one h
    exact kc.2
  · unfold L2.start
    show _ = N.length
    simp only [List.length_append, List.length_map, List.length_replicate]
    omega
/-- what the written part says of an own error over ValueError and of its __init__ at f -/
structure ErrC (P : Program) (K : PySem.W.Frag) (C f cda cc : Addr) (qual : Str) (params : Arguments) (body : List Stmt) (scope : Scope) (fd : FuncData) : Prop where
  T : OexC K C
  fn : ∃ (oc : Value) (od : Option Addr) (nm : Str) (kV doc pm : Value) (an : Option Addr) (ct : Value) (osl : Array (Option Value)), fd = ksFn nm qual params body scope .none kV doc pm an (.ref cda) ct cc ∧ K.lookup f = some ⟨oc, od, .func fd, osl⟩
  cd : PySem.W.codeIn K (.ref cda) qual = true
  file : ∃ (ccl : Value) (cdd : Option Addr) (vs : Array Value) (ccs : Array (Option Value)) (file : Str) (tf : Tok), K.lookup cda = some ⟨ccl, cdd, .fields vs, ccs⟩ ∧ vs[2]? = some (.str file tf) ∧ ((P.main.file : Str) == file) = true
  cell : ∃ (cl : Value) (cld : Option Addr) (csl : Array (Option Value)), K.lookup cc = some ⟨cl, cld, .cell (some (.ref C)), csl⟩
  cls : ∃ cdD : ClassData, clsIn K C = some cdD
  sub : mroIn K C (.ref C) = some true
  sup : ks_superIn K C C "__init__" = some (some (.builtin "ValueError.__init__"))
  any : nsIn K cStatics "thirdparty.any" = some none
  subV : subIn K (.ref C) (.type "ValueError") = some true
  top : (P.main.scope.names.lookup ("super" : Str)).isSome = false
theorem call_mw {prog : Program} {w : World} {A : Around} {E : Value → Shared → Prop} {h : Heap} {g : Array GenState} {d : Drawn} {t : Nat} {os : OsState}
    {nm q : Str} {C N : Addr} {bs bm : List Value} {hdct : Bool} {sn : List Str} {sub : List Value} {ab : Bool} {col : Option Bool} {dd : Option Addr} {k0 k1 k2 k3 k5 : Option Value} {u e t0 : Addr} {rest : List Value} {Q : Value → Shared → Prop}
    (hC : h.get? C = some (excClassObj nm q C N bs bm hdct sn sub ab col dd k0 k1 k2 k3 k5 "ValueError.__new__")) (he : h.get? e = some (HandSPX.excO C t0)) (hu : h.get? u = some (kxs_mw "ValueError.__init__" e)) (hrest : rest.length ≤ sizeLine)
    (done : ∀ (hn : Heap) (tn : Addr), (∀ b o, b ≠ e → h.get? b = some o → hn.get? b = some o) → hn.get? e = some (HandSPX.excO C tn) → Q .none ⟨hn, g, d, t, os⟩) : wpAny (model prog w) A (call (.ref u) rest) Q E ⟨h, g, d, t, os⟩ := by
  apply wpAny_call
  apply codeAny_of_tree
  show wpAny (model prog w) A.in1 (callAny (.ref u) ⟨rest, []⟩) _ _ ⟨h, g, d, t, os⟩
  unfold callAny
  apply wpAny_bind
  apply wpAny_load hu
  have wraps : (Value.type "method-wrapper" == Value.type "method" || Value.type "method-wrapper" == Value.type "builtin_function_or_method" || Value.type "method-wrapper" == Value.type "method-wrapper") = true := by decide
  simp only [kxs_mw, wraps, if_true]
  apply KFB.if_so (by decide)
  refine wpAny_bind (check_bound_init F.excBase_ValueError.toExcCallFacts hC he rfl ?_)
  refine wpAny_bind (wpAny_pure (wpAny_pure ⟨Code.quiet_builtin _ (by decide +kernel), codeAny_builtin F.excBase_ValueError.initEntry ?_⟩))
  rw [Around.under_plainId F.excBase_ValueError.init.plain _]
  wp_walk
  exact done _ h.objs.size (fun b o nb ob => (Heap.get?_update_other _ _ (Ne.symm nb)).trans (Heap.get?_push_of_some _ ob)) ((Heap.get?_update_self _ (Heap.get?_push_of_some _ he) rfl).trans rfl)
section
variable {P : Program} {w : World} {K : PySem.W.Frag} {mg : Str → Option Value} {base : Heap}
theorem err_fn {C f cda cc : Addr} {qual : Str} {params : Arguments} {scope : Scope} {fd : FuncData} {e : Expr} {rest : List Stmt} {p0 p1 p2 p3 p4 : Pos} {ar : Arg} {N ps : List Str} {sp : Sp} {k : Nat}
    (T : ErrC P K C f cda cc qual params (.Expr (.Call (.Attribute (.Call (.Name "super" p0) [] [] p1) "__init__" p2) [e] [] p3) p4 :: rest) scope fd) (S : ExScope N ps scope) (har : (params.posonlyargs ++ params.args).head? = some ar) (hps : ps[0]? = some ar.arg)
    (m_super : mg "super" = none) {pl : Env → Sem Bool}
    (hev : ∀ env : Env, eval (.Call (.Attribute (.Call (.Name "super" p0) [] [] p1) "__init__" p2) [e] [] p3) env = (do
      let ov ← attributeBase (.Call (.Name "super" p0) [] [] p1) "__init__" env (eval (.Call (.Name "super" p0) [] [] p1) env)
      standAt p2.atName
      let (f, first) ← holding [ov] (getMethod ov "__init__" (pl env))
      callWith p3 f first (backTo p3 (starEach [e] env)) []))
    (hse : ∀ env : Env, starEach [e] env = [(false, eval e env)])
    (hsw : ∀ env : Env, swapsWith (.Call (.Attribute (.Call (.Name "super" p0) [] [] p1) "__init__" p2) [e] [] p3) none p4.line env = pure false)
    (hin : ∀ L : Addr, interactive (ksEnv qual scope L f (.ref cda) cc) = false)
    (len : ∀ ws H Q E, sp ws H Q E → ws.length = ps.length)
    (hbody : ∀ (A : Around) (outer : List Env) (s : Shared) (H : Hp) (vs : List V) (Q : VK) (E : XK), Room k (A.deeper (ksEnv qual scope s.heap.objs.size f (.ref cda) cc)) → sp vs H Q E →
      ∃ (te : TE) (t : TS) (a : Addr), vs[0]? = some (.ref a) ∧ H a = some (exo a C none) ∧ PE (exCx P w K mg base N qual scope f (.ref cda) cc A outer s H) e te ∧ PSs (exCx P w K mg base N qual scope f (.ref cda) cc A outer s H) rest t ∧
        te (L2.start N vs) H fun v H1 => H1 a = some (exo a C none) ∧ t { nx := fun _ H' => Q .non H', rt := Q } (L2.start N vs) H1) : FnOk P w K mg base CX0 (k + 1) f fd ps sp := by
  obtain ⟨oc, od, nm, kV, doc, pm, an, ct, osl, rfl, lk⟩ := T.fn
  refine ⟨len, ?_⟩
  intro A outer s H args us vs Q E hr e0 hb r hsp
  have hl := len _ _ _ _ hsp
  have old : ∀ b o, base.get? b = some o → s.heap.get? b = some o := fun b o z => (e0.bs b o z).1
  have KX : K.In s.heap := e0.mod.kin.keeps old
  have lim := e0.mod.nolimit.keeps old
  obtain ⟨cl, cld, csl, hcell⟩ := T.cell
  refine ks_codeAny_call_defAt hr.depth (KX _ _ lk) rfl lim (PySem.W.codeRec_of KX T.cd) rfl hb S.cellfree (fun x hx => S.pars _ (List.of_mem_zip hx).1) ?_ S.co S.gen S.kind
  intro h0 hns keep
  have I := ex_start (qual := qual) (f := f) (cd := .ref cda) S hr.hd e0 hl r hcell hns keep (s.toks + (ps.zip us).length)
  obtain ⟨te, t, a, hva, ea, hPE, hPSs, hq⟩ := hbody A outer s H vs Q E (hr.deeper _) hsp
  have KX1 : K.In h0 := KX.keeps keep
  obtain ⟨ccl, cdd, vsc, ccs, file, tf, hcode, hvs, hfile⟩ := T.file
  obtain ⟨cdD, hcls⟩ := T.cls
  obtain ⟨mb, b1, b2⟩ := e0.mod.blt
  have bk : ∀ b o, base.get? b = some o → h0.get? b = some o := fun b o z => keep b o (e0.bs b o z).1
  obtain ⟨oD, hD1, hD2⟩ : ∃ oD, h0.get? C = some oD ∧ oD.data = .cls cdD := by
    unfold clsIn at hcls
    split at hcls
    · rename_i c d cd' sl ho
      cases hcls
      exact ⟨_, KX1 _ _ ho, rfl⟩
    · cases hcls
  obtain ⟨t1, hx⟩ := exo_at I.hok ea
  obtain ⟨ua, hua, rua⟩ := r.get hva
  obtain rfl : ua = Value.ref a := rua
  have hul : ps.length = us.length := by
    rw [← hl]
    exact r.length
  have hv : (ps.zip us).reverse.lookup ar.arg = some (.ref a) := by
    refine lookup_of_mem ?_ (List.mem_reverse.mpr (List.mem_of_getElem? (i := 0) ?_))
    · rw [List.map_reverse, List.map_fst_zip (Nat.le_of_eq hul)]
      refine List.pairwise_reverse.mpr (List.Pairwise.imp (fun h => Ne.symm h) ?_)
      exact S.pre ▸ S.nd.sublist (List.take_sublist ps.length N)
    · rw [List.getElem?_zip_eq_some]
      exact ⟨hps, hua⟩
  refine ks_wpAt_execs_cons (ks_wpAt_Expr_any (hi := hin _) (hs := hsw _) (ks_wpAt_MethodCall (he := hev _) (ks_wpAt_super_base (env := ksEnv qual scope s.heap.objs.size f (.ref cda) cc) S.sup S.cls rfl rfl (KX1 _ _ lk) rfl har rfl (KX1 _ _ hcode) rfl hvs hfile T.top ?_)))
  refine ks_loadName_global S.kind S.sup (Calls.loadGlobal_builtin (env := ksEnv qual scope s.heap.objs.size f (.ref cda) cc) (e0.mod.glob.keeps bk) m_super (b1.keeps bk) ((b2 _ (by decide)).trans (show bootBuiltins "super" = some (.type "super") by decide +kernel)) ⟨rfl, ?_⟩)
  refine wpAny_loadName_free S.kind S.cls rfl ⟨_, KX1 _ _ hcell, rfl⟩ ?_
  refine wpAny_loadName_local S.kind (S.pars _ (List.mem_of_getElem? hps)) hns hv ?_
  refine ks_wpAny_isType_cls hD1 hD2 (And.intro rfl ?_)
  refine ks_wpAny_call_super hD1 hD2 hx rfl (fun c z => nomatch z) (looks_mroIn KX1 T.sub) (fun h2 hso k2 => ?_)
  have KX2 : K.In h2 := KX1.keeps k2
  have hsup := T.sup
  unfold ks_superIn at hsup
  rw [hcls] at hsup
  have hx2 := k2 _ _ hx
  have IA : InstAt h2 a _ C none := ⟨hx2, rfl, rfl, trivial⟩
  refine kxs_getMethod kxs_ValueError hso (looks_opaque KX2 T.any) (l₀ := cdD.mro) (fun A Q E s k q => wpAny_bind ((looks_clsIn KX2 hcls) A _ E s k (wpAny_pure q))) rfl KX2 hsup (IA.type.andThen (looks_subIn KX2 T.subV)) (ks_ne KX2 IA hcls) rfl ?_
  show wpAny _ _ (callWith p3 (.ref h2.objs.size) [] (backTo p3 (starEach [e] (ksEnv qual scope s.heap.objs.size f (.ref cda) cc))) []) _ _ _
  rw [hse]
  refine kxs_callWith (i := "ValueError.__init__") (x := a) rfl (Calls.evalArgs_plain ?_)
  have K2 : ∀ b o, h0.get? b = some o → (h2.push (kxs_mw "ValueError.__init__" a)).get? b = some o := fun b o z => Heap.get?_push_of_some _ (k2 b o z)
  have J := I.kept (t' := s.toks + (ps.zip us).length + 1) K2
  have hsz : h0.objs.size ≤ h2.objs.size := Nat.le_of_lt (Heap.lt_size hso)
  have hu : (h2.push (kxs_mw "ValueError.__init__" a)).get? h2.objs.size = some (kxs_mw "ValueError.__init__" a) := Heap.get?_push_size _ rfl
  have J2 : Inv (exCx P w K mg base N qual scope f (.ref cda) cc A outer s H) [(h2.objs.size, kxs_mw "ValueError.__init__" a)] (L2.start N vs) H { s with heap := h2.push (kxs_mw "ValueError.__init__" a), toks := s.toks + (ps.zip us).length + 1 } := by
    refine { J with pin := fun p hp => ?_ }
    have ep : p = (h2.objs.size, kxs_mw "ValueError.__init__" a) := by simpa [exCx] using hp
    rw [ep]
    exact ⟨hu, I.hok.fresh hsz, Nat.ne_of_gt (Nat.lt_of_lt_of_le I.lt hsz), I.nofs hsz, fun v z => nomatch z⟩
  refine Calls.spliced_cons (wpAny_mono (hPE.run _ _ _ _ _ J2 hq) ?_ fun _ _ z => False.elim z)
  intro v s3 h3
  obtain ⟨x, H1, I3, r3, ea3, q3⟩ := h3
  have hu3 : s3.heap.get? h2.objs.size = some (kxs_mw "ValueError.__init__" a) := (I3.pin (h2.objs.size, kxs_mw "ValueError.__init__" a) (by simp)).1
  refine Calls.spliced_nil ⟨hu3, ?_⟩
  show wpAny _ _ (call (.ref h2.objs.size) [v]) _ _ s3
  obtain ⟨cnm, cq, cN, cbs, cbm, csn, csub, cab, ccol, cdd2, c0, c1, c2, c3, c5, hCo, hbm⟩ := T.T.cls
  obtain ⟨t3, hx3⟩ := exo_at I3.hok ea3
  obtain ⟨hp3, g3, d3, tk3, os3⟩ := s3
  refine call_mw (I3.kIn _ _ hCo) hx3 hu3 (show 1 ≤ sizeLine by decide) ?_
  intro h4 t4 k4 hx4
  have J4 := I3.write (t' := tk3) (x := a) (e := a) (o := exo a C none) (by rw [ea3]; exact True.intro) (.inl rfl) k4 ⟨_, hx4⟩ (exo_ok hx4)
  have eu : upd H1 a (exo a C none) = H1 := by
    funext b
    by_cases hb : b = a
    · rw [hb, upd_same, ea3]
    · rw [upd_ne hb]
  rw [eu] at J4
  refine wpAt_of_wpAny (wpAny_mono (hPSs.run _ _ _ _ _ J4 q3) ?_ fun _ _ z => False.elim z)
  intro fl s5 h5
  have fin : ∀ {σ' : L2.St} {H' : Hp} {v : V} {u : Value}, Inv (exCx P w K mg base N qual scope f (.ref cda) cc A outer s H) [(h2.objs.size, kxs_mw "ValueError.__init__" a)] σ' H' s5 → RelV v u → Q v H' → CE outer P w H s Q u s5 :=
    fun {σe He ve ue} J rel q => ⟨ve, He, J.os, J.bare, J.base, J.hok, rel, q⟩
  cases fl with
  | ret u =>
    obtain ⟨v, σ', H', J, rv, q⟩ := h5
    exact fin J rv q
  | next =>
    obtain ⟨σ', H', J, q⟩ := h5
    exact fin (u := Value.none) (v := V.non) J rfl q
  | brk =>
    obtain ⟨_, _, _, q⟩ := h5
    exact False.elim q
  | cont =>
    obtain ⟨_, _, _, q⟩ := h5
    exact False.elim q
end
end Rg

set_option Elab.async false
set_option linter.all false
set_option maxRecDepth 100000
set_option maxHeartbeats 4500000
/-! rules of my own: try .. except (A, B, C) as e; defs called where an error is handled -/
namespace Rg
open PySem PySem.Spec PyProof.Rows L2
theorem fly_push {B : Heap} {l : List Env} {a : Addr} {Z : Obj → Prop} {h : Heap} (o : Obj) (f : HandSPX.FlyingZ B l a Z h) : HandSPX.FlyingZ B l a Z (h.push o) := by
  obtain ⟨k1, k2, k3, oe, vs, T, oT, tz, e1, e2, e3, e4, e5, e6, e7, e8, e9⟩ := f
  have kp : ∀ b u, h.get? b = some u → (h.push o).get? b = some u := fun b u e => Heap.get?_push_of_some _ e
  exact ⟨fun b u e => kp _ _ (k1 b u e), k2, k3.of_keeps (fun b u e _ => ⟨u, kp _ _ e, rfl⟩), oe, vs, T, oT, tz, kp _ _ e1, e2, e3, e4, e5, e6, kp _ _ e7, e8, e9⟩
theorem up_push {h : Heap} (o : Obj) : h.UpToSlots (h.push o) := Heap.UpToSlots.of_keeps fun b u e => Heap.get?_push_of_some _ e
section
variable {Y : Cx} {pins : List (Addr × Obj)} {σ : L2.St} {H : Hp} {s : Shared} {Q : Value → Shared → Prop} {E : Value → Shared → Prop}
/-- the name of a class is read -/
theorem names_rd {x : Str} {c : Value} {p : Pos} (J : Inv Y pins σ H s) (hc : Names Y x c) (q : Q c s) : wpAny (model Y.prog Y.w) Y.A (eval (.Name x p) Y.env) Q E s := by
  rcases hc with ⟨g, db, m | ⟨m, v, nn⟩⟩
  · exact ld_glob J g m q db
  · exact ld_blt J g m v q nn db
theorem names3_rd {x1 x2 x3 : Str} {c1 c2 c3 : Value} {p1 p2 p3 p4 : Pos} {k0 : Nat} (J : Inv Y pins σ H s) (h1 : Names Y x1 c1) (h2 : Names Y x2 c2) (h3 : Names Y x3 c3)
    (q : Q (.ref s.heap.objs.size) { s with heap := s.heap.push { cls := .type "tuple", data := .seq [c1, c2, c3].toArray } }) :
    wpAny (model Y.prog Y.w) Y.A (eval (.Tuple [.Name x1 p1, .Name x2 p2, .Name x3 p3] k0 p4) Y.env) Q E s := by
  refine wpAny_Tuple ?_
  show wpAny _ _ (spliced ((false, eval (.Name x1 p1) Y.env) :: (false, eval (.Name x2 p2) Y.env) :: (false, eval (.Name x3 p3) Y.env) :: [])) _ _ s
  refine Calls.spliced_cons (names_rd J h1 (Calls.spliced_cons (names_rd J h2 (Calls.spliced_cons (names_rd J h3 (Calls.spliced_nil ⟨?_, q⟩))))))
  size_fits
end
/-- what 'except (x1, x2, x3) as n' wishes of an error of the body -/
def wAs3 (K : PySem.W.Frag) (cs : List Value) (i : Nat) (ts : Addr → Value → Option Addr → TS) (Wout : WX) (D : Ends) : WX := fun cls d σ H =>
  ∃ b, PySem.W.exmAny K cls cs = some b ∧
    (b = true → ∀ a, H a = none → ts a cls d { nx := fun σ' H' => D.nx (σ'.set i none) H', rt := D.rt, bk := fun σ' H' => D.bk (σ'.set i none) H', ct := fun σ' H' => D.ct (σ'.set i none) H' } (σ.set i (some (.ref a))) H) ∧
    (b = false → Wout cls d σ H)
section
variable {X : Cx} {x1 x2 x3 n : Str} {c1 c2 c3 : Value} {i : Nat} {body suite : List Stmt} {b₀ : Stmt} {p1 p2 p3 p4 pos pos' : Pos} {k0 : Nat} {tb : WX → TS} {ts : Addr → Value → Option Addr → TS} {Wout : WX}
theorem ps_try_as3 (hstk : X.stack = X.env :: X.outer) (hfrm : X.env.frame = some X.env.locals) (nd : X.N.Nodup) (hix : X.N[i]? = some n) (hkn : X.env.kindOf n = some .local)
    (hc1 : Names X x1 c1) (hc2 : Names X x2 c2) (hc3 : Names X x3 c3) (tk : Takes X Wout)
    (hbody : ∀ (W : WX) (pn : List (Addr × Obj)) (xe : Value → Shared → Prop), Takes (X.tr pn xe) W → PassesOwn (model X.prog X.w) X.A X.env xe → PSs (X.tr pn xe) body (tb W))
    (hsuite : ∀ (a : Addr) (oe : Obj) (cls : Value) (d : Option Addr) (pn : List (Addr × Obj)), Zc cls d oe → (∃ vs, oe.data = .fields vs) → PSs (X.suite a ((a, oe) :: pn)) (b₀ :: suite) (ts a cls d)) :
    PS X (.Try body [.ExceptHandler (some (.Tuple [.Name x1 p1, .Name x2 p2, .Name x3 p3] k0 p4)) (some n) (b₀ :: suite) pos'] [] [] pos) (fun D σ H => tb (wAs3 X.K [c1, c2, c3] i ts Wout D) D σ H) := by
  refine ⟨fun pins s σ H D I h => ?_⟩
  have okX := I.ok
  have frX : X.A.frames = some (X.env :: X.outer) := okX.frames.trans (congrArg some hstk)
  refine wpAny_Try_except (wpAny_mono ((hbody (wAs3 X.K [c1, c2, c3] i ts Wout D) (X.pn ++ pins) (fun e sa => wpAny (model X.prog X.w) X.A (noteFrame e X.env) (fun _ sb => wpAny (model X.prog X.w) X.A (setFlight e none) (fun _ sc =>
    wpAny (model X.prog X.w) X.A (handleBy e X.env [.ExceptHandler (some (.Tuple [.Name x1 p1, .Name x2 p2, .Name x3 p3] k0 p4)) (some n) (b₀ :: suite) pos']) (SP X pins D) X.xe sc) X.xe sb) X.xe sa) (fun u sr air => ?_) PassesOwn.looking).run [] s σ H D (I.toTry _) h) (fun f se hsp => ?_) (fun e se he => he))
  · obtain ⟨a, B, sI, pinsI, σr, Hr, cls, d, rfl, JI, nb, up, sky, na, os, ag, b, hany, hyes, hno⟩ := air
    have J : Inv X pins σr Hr sI := JI.ofTry okX
    rw [show (X.tr (X.pn ++ pins) _).stack = X.env :: X.outer from hstk] at sky
    change wpAny _ X.A (noteFrame (.ref a) X.env) _ X.xe sr
    refine Sky.land Zc.steady frX hfrm sky fun h3 fl3 up3 => ?_
    have landed : ∀ hh, HandSPX.FlyingZ B (X.env :: X.outer) a (Zc cls d) hh → sr.heap.UpToSlots hh → Inv X pins σr Hr { sr with heap := hh } := fun hh fl u => J.landed nb fl.1 (up.trans u) os ag
    have apart : ∀ hh, HandSPX.FlyingZ B (X.env :: X.outer) a (Zc cls d) hh → ∃ (oe : Obj) (vs : Array Value), hh.get? a = some oe ∧ Zc cls d oe ∧ oe.data = .fields vs ∧ a ∉ frs (X.env :: X.outer) := fun hh fl => by
      obtain ⟨oe, vs, g1, g2, g3⟩ := fl.there
      refine ⟨oe, vs, g1, g2, g3, fun hm => ?_⟩
      obtain ⟨_, o', g4, g5⟩ := fl.2.2.1.mem hm
      rw [g1] at g4
      cases g4
      exact g5 _ g3
    obtain ⟨oe3, vs3, he3, hz3, hd3, hfr3⟩ := apart h3 fl3
    have nL : a ≠ X.env.locals := fun z => hfr3 (List.mem_filterMap.mpr ⟨X.env, List.mem_cons_self, hfrm.trans (congrArg some z.symm)⟩)
    have nF : a ∉ X.fs := fun inF => hfr3 (List.mem_filterMap.mpr ((List.mem_filterMap.mp inF).imp fun _ r => ⟨List.mem_cons_of_mem _ r.1, r.2⟩))
    have S3 := (landed h3 fl3 up3).suite he3 hd3 na nL nF
    refine wpAny_handleBy_cons (codeAny_handlers_test ?_) (fun pass => nomatch pass)
    refine names3_rd (Y := X.suite a ((a, oe3) :: (X.pn ++ pins))) S3 hc1 hc2 hc3 ?_
    have fl5 := fly_push { cls := .type "tuple", data := .seq [c1, c2, c3].toArray } fl3
    have up5 : sr.heap.UpToSlots (h3.push { cls := .type "tuple", data := .seq [c1, c2, c3].toArray }) := up3.trans (up_push _)
    have J5 := landed _ fl5 up5
    have LT : PySem.W.Looks (model X.prog X.w) (h3.push { cls := .type "tuple", data := .seq [c1, c2, c3].toArray }) (typeOf (.ref a)) cls :=
      fun A Q E s k q => wpAny_typeOf_ref (k _ _ (Heap.get?_push_of_some _ he3)) (by rw [hz3.1]; exact q)
    refine (PySem.W.exm_tup3 (M := model X.prog X.w) J5.kIn LT (Heap.get?_push_size _ rfl) hany).here ?_
    cases b with
    | true =>
      refine codeAny_handlers_suite_as (HandSPX.lands_againZ fl5 fun h6 fl6 up6 => ?_)
      obtain ⟨oe6, vs6, he6, hz6, hd6, _⟩ := apart h6 fl6
      have J6 := landed h6 fl6 (up5.trans up6)
      refine store_ok (X := X.suite a ((a, oe6) :: (X.pn ++ pins))) (v := .ref a) (J6.suite he6 hd6 na nL nF) nd hix (.inl hkn) rfl (fun s7 S7 => ?_) (.inr hkn)
      refine wpAny_mono ((hsuite a oe6 cls d (X.pn ++ pins) hz6 ⟨_, hd6⟩).run [] s7 _ Hr _ S7 (hyes rfl a na)) (fun f s8 hsp => ?_) (fun _ _ z => False.elim z)
      have gone : ∀ {σ8 : L2.St} {H8 : Hp} {R : Shared → Prop}, Inv (X.suite a ((a, oe6) :: (X.pn ++ pins))) [] σ8 H8 s8 → (∀ s9, Inv X pins (σ8.set i none) H8 s9 → R s9) →
          wpAny (model X.prog X.w) X.A (do bindName X.env n .none; unbindBehindTheSuite X.env n pos') (fun _ s9 => R s9) X.xe s8 := fun {σ8 H8 R} S8 hq => gone_ok (S8.unsuite okX) nd hix hkn hq
      cases f with
      | ret u =>
        obtain ⟨v8, σ8, H8, S8, r8, q8⟩ := hsp
        exact gone S8 fun s9 J9 => ⟨_, _, _, J9, r8, q8⟩
      | next =>
        obtain ⟨σ8, H8, S8, q8⟩ := hsp
        exact gone S8 fun s9 J9 => ⟨_, _, J9, q8⟩
      | brk =>
        obtain ⟨σ8, H8, S8, q8⟩ := hsp
        exact gone S8 fun s9 J9 => ⟨_, _, J9, q8⟩
      | cont =>
        obtain ⟨σ8, H8, S8, q8⟩ := hsp
        exact gone S8 fun s9 J9 => ⟨_, _, J9, q8⟩
    | false =>
      change wpAny (model X.prog X.w) X.A (handleBy (.ref a) X.env []) (SP X pins D) X.xe _
      refine wpAny_handleBy_nil ?_
      obtain ⟨_, _, _, oe, vs, T, oT, tz, g1, g2, g3, g4, _⟩ := id fl5
      unfold PySem.passOn
      refine wpAny_bind (wpAny_field g1 g3 g4 ?_)
      have noted : ¬ ((Value.ref T == Value.none) = true) := by simp
      rw [if_neg noted]
      have up_ : wpAny (model X.prog X.w) X.A (setFlight (.ref a) X.env.frame) (fun _ s9 => wpAny (model X.prog X.w) X.A (throw (.ref a) : Sem Flow) (SP X pins D) X.xe s9) X.xe
          { sr with heap := h3.push { cls := .type "tuple", data := .seq [c1, c2, c3].toArray } } := by
        rw [hfrm]
        refine HandSPX.setFlight_upZ fl5 fun h9 hh9 up9 => wpAny_throw (tk _ _ ⟨a, B, sI, pins, σr, Hr, cls, d, rfl, J, nb, (up.trans up5).trans up9, .inr (.inr ?_), na, os, ag, hno rfl⟩)
        rw [hstk]
        exact hh9
      first
        | exact wpAny_bind (wpAny_pure (wpAny_bind up_))
        | exact wpAny_bind up_
  · cases f with
    | ret u =>
      obtain ⟨v, σe, He, Je, r, q⟩ := hsp
      exact ⟨v, σe, He, Je.ofTry okX, r, q⟩
    | next =>
      obtain ⟨σe, He, Je, q⟩ := hsp
      exact wpAny_execs_nil ⟨σe, He, Je.ofTry okX, q⟩
    | brk =>
      obtain ⟨σe, He, Je, q⟩ := hsp
      exact ⟨σe, He, Je.ofTry okX, q⟩
    | cont =>
      obtain ⟨σe, He, Je, q⟩ := hsp
      exact ⟨σe, He, Je.ofTry okX, q⟩
end
end Rg

set_option Elab.async false
set_option linter.all false
set_option maxRecDepth 100000
set_option maxHeartbeats 4500000
namespace Rg
open PySem PySem.Spec PyProof.Rows L2
/-- an error that is held fast: its class, its dict -/
def ErrAt (p : Addr × Obj) (cls : Value) (d : Option Addr) : Prop := Zc cls d p.2 ∧ ∃ vs, p.2.data = .fields vs
/-- the context has it -/
def HasE (X : Cx) (a : Addr) (cls : Value) (d : Option Addr) : Prop := ∃ p : Addr × Obj, p ∈ X.pn ∧ p.1 = a ∧ ErrAt p cls d
/-- what a class of errors must have for its fields to be read -/
def ErrK (K : PySem.W.Frag) (C : Addr) : Prop := XfC K C ∧ ∀ n ∈ (["tag", "given", "index", "name", "most", "limit", "part", "table", "room", "origin", "many", "word", "line"] : List Str), PySem.W.findIn K (.ref C) n = some none
/-- the error at a (class cls, dict d) with the fields fs -/
def ErrF (K : PySem.W.Frag) (H : Hp) (cls : Value) (d : Option Addr) (fs : List (Str × V)) : Prop := ∃ (C dd : Addr), cls = .ref C ∧ ErrK K C ∧ d = some dd ∧ H dd = some (.xd fs)
def tXq (K : PySem.W.Frag) (a : Addr) (cls : Value) (d : Option Addr) (n : Str) (te : TE) : TE := fun σ H Q => te σ H fun x H1 => x = .ref a ∧ ∃ fs v, ErrF K H1 cls d fs ∧ n ∈ (["tag", "given", "index", "name", "most", "limit", "part", "table", "room", "origin", "many", "word", "line"] : List Str) ∧ fs.lookup n = some v ∧ Q v H1
theorem pe_xq {X : Cx} {a : Addr} {cls : Value} {d : Option Addr} {e : Expr} {te : TE} {pos : Pos} {n : Str} (hp : HasE X a cls d) (he : PE X e te) (hb : attributeBase e n X.env (eval e X.env) = eval e X.env := by rfl) :
    PE X (.Attribute e n pos) (tXq X.K a cls d n te) := by
  refine ⟨fun pins s σ H Q I h => ?_⟩
  refine attr_of hb (thn (he.run pins s σ H _ I h) fun u s1 hh => ?_)
  obtain ⟨p, hm, rfl, hz, vs, hd⟩ := hp
  obtain ⟨x, H1, I1, rx, rfl, fs, v, ⟨C, dd, rfl, ⟨T, hn⟩, rfl, ea⟩, hin, l, q⟩ := hh
  obtain rfl : u = Value.ref p.1 := rx
  have ha := (I1.pin p (List.mem_append_left _ hm)).1
  obtain ⟨names, hns, rel⟩ := show ∃ names, s1.heap.Ns1 dd names ∧ ∀ f, RelO (fs.lookup f) (names f) from I1.hok dd _ ea
  have reln := rel n
  rw [l] at reln
  obtain ⟨od, ho, hl⟩ := lookIn_ns hns
  obtain ⟨u, hu, ru⟩ := RelO.some_of reln
  have J : PySem.W.InstAt s1.heap p.1 p.2 C (some od) := ⟨ha, hz.1, by unfold PySem.W.notCls; rw [hd] <;> rfl, by rw [hz.2]; exact ho⟩
  exact HandSPX.exc_get I1.kIn J T.ga T.gg T.exC (PySem.W.findObj_own T.hdC (hn n hin) rfl (by rw [hl, hu])) (handed_of ru) ⟨v, H1, I1.tok _, ru, q⟩
/-- what a def promises that is called where the error at a is handled -/
structure FnQ (P : Program) (w : World) (K : PySem.W.Frag) (mg : Str → Option Value) (base : Heap) (k : Nat) (f : Addr) (fd : FuncData) (ps : List Str) (sp : Addr → Value → Option Addr → Sp) : Prop where
  len : ∀ a cls d vs H Q E, sp a cls d vs H Q E → vs.length = ps.length
  run : ∀ (A : Around) (outer : List Env) (s : Shared) (H : Hp) (args : Args) (us : List Value) (vs : List V) (Q : VK) (E : XK) (p : Addr × Obj) (cls : Value) (d : Option Addr), L2H.RoomH k A → L2H.PinOk outer H s p → ErrAt p cls d →
    Env0 P w K mg base A outer s H → BindsTo s fd args (ps.zip us) → Vals vs us → sp p.1 cls d vs H Q E → codeAny (model P w) A (.call (.ref f) args) (CR C8.CX0 outer P w H s Q E) s
section
variable {P : Program} {w : World} {K : PySem.W.Frag} {mg : Str → Option Value} {base : Heap}
theorem Fun_okQ {x qual : Str} {st : Stmt} {f : Addr} {fd : FuncData} {N ps : List Str} {k : Nat} {sp : Addr → Value → Option Addr → Sp} (F : Fun K x qual st f fd) (S : FnScope N ps (defScope st)) (len : ∀ a cls d vs H Q E, sp a cls d vs H Q E → vs.length = ps.length)
    (hbody : ∀ (cdv : Value) (A : Around) (outer : List Env) (s : Shared) (H : Hp) (vs : List V) (Q : VK) (E : XK) (p : Addr × Obj) (cls : Value) (d : Option Addr), L2H.RoomH k (A.deeper (envOfC qual (defScope st) s.heap.objs.size f cdv)) →
      HasE (L2H.cxH C8.CX0 P w K mg base N qual (defScope st) f cdv A outer s H E p).nox p.1 cls d → sp p.1 cls d vs H Q E →
      ∃ t, PSs (L2H.cxH C8.CX0 P w K mg base N qual (defScope st) f cdv A outer s H E p).nox (defBody st) t ∧ t { nx := fun _ H' => Q .non H', rt := Q } (L2.start N vs) H) : FnQ P w K mg base (k + 1) f fd ps sp := by
  obtain ⟨_, _, _, _, _, _, cdv, _, _, rfl, lk, hcd⟩ := F.ex
  refine ⟨len, fun A outer s H args us vs Q E p cls d hr hpin hE e0 hb r hsp => ?_⟩
  have old : ∀ b o, base.get? b = some o → s.heap.get? b = some o := fun b o z => (e0.bs b o z).1
  have KX := e0.mod.kin.keeps old
  refine codeAny_call_function hr.depth (KX _ _ lk) rfl S.co S.gen rfl (PySem.W.codeRec_of KX hcd) (hb _ _ _ _ (wpAny_newFunctionEnv_cells S.kind (fun ⟨m, v⟩ hy => ?_) fun env he s1 x => ?_))
  · rcases S.par m (List.of_mem_zip hy).1 with q | q
    · exact .inl q
    · exact .inr (And.intro q (PySem.W.cellsFrom_some _ _ _ (.inl q)))
  subst he
  refine ⟨(e0.mod.nolimit.keeps old).keeps x.toInCall.keep, codeAny_func ?_⟩
  obtain ⟨t, ht, hq⟩ := hbody cdv A outer s H vs Q E p cls d (hr.deeper _) ⟨p, List.mem_cons_self, rfl, hE⟩ hsp
  have I := L2H.inv_startH (CX := C8.CX0) (E := E) S hpin e0 (len _ _ _ _ _ _ _ hsp) r x
  refine wpAny_mono (ht.nox.run [] s1 (L2.start N vs) H _ I hq) (fun fl s' hs => ?_) fun e s' hs => hs
  cases fl with
  | ret u =>
    obtain ⟨out, _, He, J, rel, q⟩ := hs
    exact ⟨out, He, J.os, J.bare, J.base, J.hok, rel, q⟩
  | next =>
    obtain ⟨σ', H', J, q⟩ := hs
    exact ⟨V.non, H', J.os, J.bare, J.base, J.hok, rfl, q⟩
  | brk =>
    obtain ⟨_, _, _, q⟩ := hs
    exact q.elim
  | cont =>
    obtain ⟨_, _, _, q⟩ := hs
    exact q.elim
end
theorem pe_callQ {X : Cx} {k : Nat} {f : Addr} {fd : FuncData} {ps : List Str} {sp : Addr → Value → Option Addr → Sp} {x : Str} {q pos : Pos} {e : Expr} {es : List Expr} {t : TA} {a : Addr} {cls : Value} {d : Option Addr}
    (F : FnQ X.prog X.w X.K X.mg X.base k f fd ps sp) (hr : L2H.RoomH k X.A) (hp : HasE X a cls d) (hg : Gl X x) (hm : X.mg x = some (.ref f)) (hk : PySem.W.keepIn X.K (.ref f) = true) (hb : Binds X.K fd ps [])
    (ha : PA X (e :: es) t) (hdb : (x == ("__debug__" : Str)) = false := by decide)
    (first : starEach (e :: es) X.env = (false, eval e X.env) :: starEach es X.env := by rfl) (bare : (backTo pos (starEach es X.env)).any (fun a => a.1) = false := by rfl) :
    PE X (.Call (.Name x q) (e :: es) [] pos) (tCallS (sp a cls d) (fun _ => C8.E0) t) := by
  refine ⟨fun pins s σ H Q I h => ?_⟩
  obtain ⟨p, hmem, rfl, hE⟩ := hp
  refine wpAny_Call_Name_kw (ld_glob I hg hm (PySem.W.callWith_K (h₀ := X.base) I.ok.mod.kin hk (thn (ha.run pos pins s σ H _ I h) fun us s1 ⟨vs, H1, I1, r, q⟩ => ⟨I1.kIn, ?_⟩) first bare) hdb)
  have hl : us.length = ps.length := by rw [← r.length]; exact F.len _ _ _ _ _ _ _ q
  have b := hb s1 us I1.kIn (by rw [List.append_nil]; exact hl)
  rw [List.append_nil] at b
  obtain ⟨g1, g2, g3, g4, g5⟩ := I1.pin p (List.mem_append_left _ hmem)
  have hpin : L2H.PinOk X.stack H1 s1 p := ⟨g1, g2, fun z => (List.mem_cons.mp (I1.stkSub p.1 z)).elim g3 g4, g5⟩
  refine wpAny_call (codeAny_mono (F.run X.A X.stack s1 H1 ⟨us, []⟩ us vs Q C8.E0 p cls d hr hpin hE I1.env0 b r q) fun r s' hq => ?_)
  cases r with
  | error _ => exact False.elim hq
  | ok fl =>
    cases fl with
    | ret u => exact I1.after hq
    | next => exact False.elim hq
    | brk => exact False.elim hq
    | cont => exact False.elim hq
end Rg

set_option Elab.async false
set_option linter.all false
set_option maxRecDepth 100000
set_option maxHeartbeats 4500000
/-! {x!r} of a list of texts, whatever is under way: some text -/
namespace Rg
open PySem PySem.Spec PyProof.Rows L2 Sem
theorem repr_head_any {M : Model} {A : Around} {E : Value → Shared → Prop} {s : Shared} {Q : Fin → Shared → Prop} {a : Addr} {o : Obj} {x : Value} {l : List Value} {n : Nat} {b : Nat}
    (hget : s.heap.get? a = some o) (hd : o.data = .seq (x :: l).toArray n) (h1 : wpAny M A (do rule "list.__repr__.in-itself"; retStr "[...]") Q E s)
    (h2 : wpAny M A (do again (.builtin "list.__repr__.loop" ⟨[.ref a, rawInt 0, ← newList [], rawInt b], []⟩)) Q E s) : wpAny M A (Builtin.listReprAt b ⟨[.ref a], []⟩) Q E s := by
  intro Γ p hΓ
  have g1 := h1 Γ p hΓ
  have g2 := h2 Γ p hΓ
  unfold Builtin.listReprAt
  simp [slotArgs, Builtin.List.listItems, seqItems?, wp_load_of (h := hget), hd, PySem.stack]
  change wp M Γ (if (Γ.below.any _) = true then _ else _) _ _ p s
  split
  · exact g1
  · exact g2
section
variable {prog : Program} {w : World} {A : Around} {E : Value → Shared → Prop} {s : Shared} {a : Addr} {oa : Obj} {x : Value} {l : List Value} {na : Nat} {ts : List Str}
theorem repr_call_any {Q : Value → Shared → Prop} (hTy : s.TypeIs (.ref a) "list")
    (ha : s.heap.get? a = some oa) (hda : oa.data = .seq (x :: l).toArray na)
    (hlen : ts.length = (x :: l).toArray.size) (hT : ∀ (j : Nat) (z : Value), (x :: l).toArray[j]? = some z → ∃ t, ts[j]? = some t ∧ ReprIs prog w z t)
    (hQ : ∀ (m : Str) (h' : Heap) (u tk : Tok), (m = "[...]" ∨ m = listText ts) → (∀ b o, s.heap.get? b = some o → h'.get? b = some o) → Q (.str m u) { s with heap := h', toks := tk })
    (hsz : (listText ts).length ≤ sizeLine) : wpAny (model prog w) A (call (.builtin "list.__repr__") [.ref a]) Q E s := by
  refine wpAny_call (codeAny_call_builtin F.slot_list_repr.plain F.entry_list_repr (F.slot_list_repr.check _ _ _ _ _ _ _ _ hTy (F.args_list_repr_1 _) ?_))
  refine repr_head_any (A := A.in1) ha hda ?_ ?_
  · refine wpAny_bind (wpAny_rule (wpAny_bind (wpAny_mkStr (wpAny_pure ?_) (by decide +kernel))))
    exact hQ "[...]" s.heap _ _ (.inl rfl) fun b o e => e
  · refine wpAny_bind (m := newList []) (wpAny_newObj_type (wpAny_pure ⟨F.quiet_list_repr_loop _, ?_⟩))
    refine codeAny_list_repr_start (P := s.heap.objs.size) (Nat.ne_of_lt (Heap.lt_size ha)) hlen hT (Heap.get?_push_of_some _ ha) hda (Heap.get?_push_size _ rfl) (fun h' u tk hk => ?_) (by omega)
    exact hQ _ h' u tk (.inr rfl) fun b o e => hk b o (Nat.ne_of_lt (Heap.lt_size e)) (Heap.get?_push_of_some _ e)
theorem repr_list_any {Q : Value → Shared → Prop} (hTy : s.TypeIs (.ref a) "list") (hu : A.units < cLine)
    (ha : s.heap.get? a = some oa) (hda : oa.data = .seq (x :: l).toArray na)
    (hlen : ts.length = (x :: l).toArray.size) (hT : ∀ (j : Nat) (z : Value), (x :: l).toArray[j]? = some z → ∃ t, ts[j]? = some t ∧ ReprIs prog w z t)
    (hQ : ∀ (m : Str) (h' : Heap) (u tk : Tok), (m = "[...]" ∨ m = listText ts) → (∀ b o, s.heap.get? b = some o → h'.get? b = some o) → Q (.str m u) { s with heap := h', toks := tk })
    (hsz : (listText ts).length ≤ sizeLine) : wpAny (model prog w) A (pyReprObj (.ref a)) Q E s := by
  unfold pyReprObj
  refine wpAny_bind (wpAny_cRoomFor hu (wpAny_bind (wpAny_specialOf (name := Str.ofString "__repr__") hTy F.slot_list_repr.lookup ?_)))
  refine wpAny_bind (m := callSpecialIfBound? (.ref a) (Str.ofString "__repr__")) (wpAny_callSpecialIfBound?_slot (name := Str.ofString "__repr__") hTy F.slot_list_repr (repr_call_any hTy ha hda hlen hT (fun m h' u tk hm hk => ?_) hsz))
  exact wpAny_bind (wpAny_isInstance (T := "str") (b := true) rfl isSubtype_str_str (wpAny_pure (hQ m h' u tk hm hk)))
end
/-- texts whose signs are signs -/
def TxOk (n : Nat) (y : Str) : Prop := y.length ≤ n ∧ ∀ c ∈ y.cps.toList, c < 16 ^ 8
/-- what may be told by !r -/
def Rep (K : PySem.W.Frag) (H : Hp) (x : V) : Prop := x = .non ∨ (∃ b, x = .bl b) ∨ (∃ i : Int, x = .int i ∧ i.natAbs.log2 < 1920) ∨ (∃ y : Str, x = .str y ∧ TxOk 1000 y) ∨
  (∃ (p : Addr) (y : Str) (ys : List Str), x = .ref p ∧ SqL K H p ((y :: ys).map V.str) ∧ (y :: ys).length ≤ 20 ∧ ∀ z ∈ y :: ys, TxOk 100 z) ∨ ∃ (p : Addr) (i : Int), x = .ref p ∧ SqL K H p [V.int i] ∧ i.natAbs.log2 < 1920
theorem repr_len {n : Nat} {y : Str} (h : TxOk n y) : (reprText y).length ≤ 10 * n + 2 := by
  have h1 := StrLaws.reprText_len y h.2
  have h2 := h.1
  omega
theorem piled_le : ∀ (ys : List Str), (∀ z ∈ ys, TxOk 100 z) → piled (ys.map reprText) ≤ ys.length * 1004
  | [], _ => Nat.zero_le _
  | y :: ys, h => by
    have h1 := repr_len (h y List.mem_cons_self)
    have h2 := piled_le ys fun z hz => h z (List.mem_cons_of_mem _ hz)
    rw [List.map_cons, piled_cons, List.length_cons]
    omega
theorem listText_le {y : Str} {ys : List Str} (hl : (y :: ys).length ≤ 20) (h : ∀ z ∈ y :: ys, TxOk 100 z) : (listText ((y :: ys).map reprText)).length ≤ 30000 := by
  have h1 := piled_le (y :: ys) h
  have e : (listText ((y :: ys).map reprText)).length ≤ piled ((y :: ys).map reprText) + 2 := by
    unfold listText
    rw [List.map_cons]
    show (textFrom 1 (("[" : Str) ++ (if 0 > 0 then ", " else "" : String) ++ reprText y) (ys.map reprText) ++ ("]" : Str)).length ≤ _
    rw [Str.length_append, textFrom_length_pos _ _ _ (by decide), Str.length_append, Str.length_append, piled_cons]
    have a1 : ("[" : Str).length = 1 := by decide +kernel
    have a2 : ("]" : Str).length = 1 := by decide +kernel
    have a3 : (Str.ofString (if 0 > 0 then ", " else "" : String)).length = 0 := by decide +kernel
    rw [a1, a2, a3]
    omega
  have h2 : (y :: ys).length * 1004 ≤ 20 * 1004 := Nat.mul_le_mul_right _ hl
  omega
theorem listOne_le {t : Str} (h : t.length ≤ 2000) : (listText [t]).length ≤ 30000 := by
  unfold listText
  show (textFrom 1 (("[" : Str) ++ (if 0 > 0 then ", " else "" : String) ++ t) [] ++ ("]" : Str)).length ≤ _
  rw [Str.length_append, textFrom_length_pos _ _ _ (by decide), Str.length_append, Str.length_append]
  have a1 : ("[" : Str).length = 1 := by decide +kernel
  have a2 : ("]" : Str).length = 1 := by decide +kernel
  have a3 : (Str.ofString (if 0 > 0 then ", " else "" : String)).length = 0 := by decide +kernel
  have a4 : piled ([] : List Str) = 0 := rfl
  rw [a1, a2, a3, a4]
  omega
/-- {x!r}: some text -/
def tFmtA (K : PySem.W.Frag) (te : TE) : TE := fun σ H Q => te σ H fun x H1 => Rep K H1 x ∧ ∀ m : Str, m.length ≤ 40000 → Q (.str m) H1
theorem pe_fmtA {X : Cx} {e : Expr} {te : TE} {pos : Pos} (hu : X.A.units < cLine) (he : PE X e te) : PE X (.FormattedValue e 114 none pos) (tFmtA X.K te) := by
  constructor
  intro pins s σ H Q I h
  refine wpAny_FormattedValue_repr (thn (he.run pins s σ H _ I h) ?_)
  rintro v s1 ⟨x, H1, I1, r1, hx, q⟩
  have big : (40000 : Nat) ≤ sizeLine := by decide +kernel
  have out : ∀ (m : Str) (s2 : Shared) (u : Tok), m.length ≤ 40000 → Inv X pins σ H1 s2 → wpAny (model X.prog X.w) X.A (formatField (.str m u) Str.empty) (EP X pins σ Q) X.xe s2 := fun m s2 u hm I2 =>
    wpAny_formatField_str ⟨.str m, H1, I2, ⟨_, rfl⟩, q m hm⟩ ⟨.str m, H1, I2.tok _, ⟨_, rfl⟩, q m hm⟩ (Nat.le_trans hm big)
  rcases hx with rfl | ⟨b, rfl⟩ | ⟨i, rfl, hi⟩ | ⟨y, rfl, hy⟩ | ⟨p, y, ys, rfl, hS, hl, hys⟩ | ⟨p, i, rfl, hS, hi⟩
  · obtain rfl : v = Value.none := r1
    exact pyReprObj_none (out _ _ _ (by decide +kernel) (I1.tok _))
  · obtain rfl : v = Value.bool b := r1
    exact pyReprObj_bool (out _ _ _ (by cases b <;> decide +kernel) (I1.tok _))
  · obtain ⟨t, rfl⟩ := r1
    have e := int_text_length_le (k := 1920) (by decide) hi
    exact pyReprObj_int hi (out _ _ _ (by rw [PySem.ofString_length]; omega) (I1.tok _))
  · obtain ⟨t, rfl⟩ := r1
    have hz := repr_len hy
    exact pyReprObj_str (out _ _ _ (by omega) (I1.tok _)) (by omega)
  · obtain rfl : v = Value.ref p := r1
    obtain ⟨its, rv, ⟨⟨cls, dd, data, sls⟩, n, ho, hc, hdn, hdt⟩, hlen⟩ := I1.list hS
    simp only at hc hdt
    subst hc hdt
    have hvl := rv.length
    cases its with
    | nil => cases hvl
    | cons u0 us =>
    have hb := listText_le hl hys
    refine repr_list_any (ts := (y :: ys).map reprText) ⟨_, ho, rfl⟩ hu ho rfl ?_ ?_ (fun m h' u tk hm hk => ?_) (by omega)
    · rw [List.size_toArray, ← hvl, List.length_map, List.length_map]
    · intro i z hz
      rw [List.getElem?_toArray] at hz
      have hi : i < (y :: ys).length := by
        have h1 := (List.getElem?_eq_some_iff.mp hz).1
        rw [← hvl, List.length_map] at h1
        exact h1
      have e1 : ((y :: ys).map V.str)[i]? = some (V.str (y :: ys)[i]) := by rw [List.getElem?_map, List.getElem?_eq_getElem hi]; rfl
      obtain ⟨u2, e2, r2⟩ := rv.get e1
      rw [hz] at e2
      cases e2
      obtain ⟨t2, rfl⟩ := r2
      have hz2 := repr_len (hys _ (List.getElem_mem hi))
      exact ⟨_, by rw [List.getElem?_map, List.getElem?_eq_getElem hi]; rfl, ReprIs.str _ _ (by omega)⟩
    · refine out m _ u ?_ (I1.kept (t' := tk) fun b o e => hk b o e)
      rcases hm with rfl | rfl
      · decide +kernel
      · omega
  · obtain rfl : v = Value.ref p := r1
    obtain ⟨its, rv, ⟨⟨cls, dd, data, sls⟩, n, ho, hc, hdn, hdt⟩, hlen⟩ := I1.list hS
    simp only at hc hdt
    subst hc hdt
    have hvl := rv.length
    match its, hvl, rv with
    | [u0], _, rv =>
    have tl : (toString i : Str).length ≤ 2000 := by
      have e := int_text_length_le (k := 1920) (by decide) hi
      rw [PySem.ofString_length]
      omega
    have hb := listOne_le tl
    refine repr_list_any (ts := [toString i]) ⟨_, ho, rfl⟩ hu ho rfl rfl ?_ (fun m h' u tk hm hk => ?_) (by omega)
    · intro j z hz
      rw [List.getElem?_toArray] at hz
      have hj : j = 0 := by
        have h1 := (List.getElem?_eq_some_iff.mp hz).1
        have h2 : [u0].length = 1 := rfl
        omega
      subst hj
      cases hz
      obtain ⟨u2, e2, r2⟩ := rv.get (i := 0) rfl
      cases e2
      obtain ⟨t2, rfl⟩ := r2
      exact ⟨_, rfl, ReprIs.int _ hi⟩
    · refine out m _ u ?_ (I1.kept (t' := tk) fun b o e => hk b o e)
      rcases hm with rfl | rfl
      · decide +kernel
      · omega
end Rg

set_option Elab.async false
set_option linter.all false
set_option maxRecDepth 100000
set_option maxHeartbeats 4500000
/-! the rules by data: own errors made and raised -/
namespace Rg
open PySem PySem.Spec PyProof.Rows L2
/-- what may be told in an error's words -/
def repOk : D → Prop
  | .non => True
  | .bl _ => True
  | .int i => i.natAbs < 1000000000
  | .str l => l.length ≤ 1000
  | .lst [.int i] => i.natAbs < 1000000000
  | .lst [.str l] => l.length ≤ 100
  | _ => False
theorem rep_of {K : PySem.W.Frag} {z : Zk} {G H : Hp} (sub : Same G H) {v : V} {d : D} (h : Den K z G v d) (r : repOk d) : Rep K H v := by
  cases h with
  | @lst a xs ds q1 q2 q3 =>
    match ds, xs, q2, r with
    | [.int i], [_], .cons (.int _) .nil, r => exact .inr (.inr (.inr (.inr (.inr ⟨_, i, rfl, SqL.of (sub _ _ q1), small_log r⟩))))
    | [], _, _, r => exact r.elim
    | .non :: _, _, _, r => exact r.elim
    | .bl _ :: _, _, _, r => exact r.elim
    | [.str l], [_], .cons (.str _ h1 h2) .nil, r =>
      refine .inr (.inr (.inr (.inr (.inl ⟨_, sOf l, [], rfl, SqL.of (sub _ _ q1), (show 1 ≤ 20 by decide), fun y hy => ?_⟩))))
      rw [List.mem_singleton.mp hy]
      refine ⟨by rw [len_sOf]; exact r, fun c hc => Nat.lt_of_lt_of_le (h2 c hc) (show (1114112 : Nat) ≤ 16 ^ 8 by decide)⟩
    | .lst _ :: _, _, _, r => exact r.elim
    | .tup _ :: _, _, _, r => exact r.elim
    | .ins _ _ :: _, _, _, r => exact r.elim
    | .bag :: _, _, _, r => exact r.elim
    | .ty _ :: _, _, _, r => exact r.elim
    | .cls _ :: _, _, _, r => exact r.elim
    | .lam _ :: _, _, _, r => exact r.elim
    | .own _ :: _, _, _, r => exact r.elim
    | .int _ :: _ :: _, _, _, r => exact r.elim
    | .str _ :: _ :: _, _, _, r => exact r.elim
  | non => exact .inl rfl
  | bl b => exact .inr (.inl ⟨b, rfl⟩)
  | int i => exact .inr (.inr (.inl ⟨i, rfl, small_log r⟩))
  | str l h1 h2 =>
    refine .inr (.inr (.inr (.inl ⟨_, rfl, ?_, fun c hc => ?_⟩)))
    · rw [len_sOf]
      exact r
    · have h3 := h2 c hc
      have h4 : (1114112 : Nat) ≤ 16 ^ 8 := by decide
      exact Nat.lt_of_lt_of_le h3 h4
  | _ => exact r.elim
/-- the words of an error: some text, whatever is told in them -/
def Words (X : Cx) (e : Expr) (ok : D → Prop) : Prop := ∃ te, PE X e te ∧ ∀ (z : Zk) (a : Addr) (v : V) (d : D) (G H : Hp) (Q : VK), Same G H → Den X.K z G v d → ok d → (∀ m, Q (.str m) H) → te [some (.ref a), some v] H Q
theorem words_repr {X : Cx} {c : Str} {k : Nat} {y : Str} {p1 p2 p3 p4 : Pos} (hu : X.A.units < cLine) (hN : X.N[1]? = some y) (hv : Vis X.env.scope y) (hc : c.length ≤ 1000 := by decide +kernel) (hd : (y == ("__debug__" : Str)) = false := by decide) (hcd : (y == ("__classdict__" : Str)) = false := by decide) :
    Words X (.JoinedStr [.Constant (.str c) k p1, .FormattedValue (.Name y p2) 114 none p3] p4) repOk := by
  refine ⟨_, pe_joined (.cons pe_str (.cons (pe_fmtA hu (pe_var hN hv hd hcd)) .nil)), fun z a v d G H Q sub h1 h2 h3 => ?_⟩
  have big : (50000 : Nat) ≤ sizeLine := by decide +kernel
  refine ⟨c, rfl, ?_, v, rfl, rep_of sub h1 h2, fun m hm => ⟨m, rfl, ?_, h3 _⟩⟩
  · rw [Str.length_append]
    have : (Str.empty).length = 0 := rfl
    omega
  · rw [Str.length_append, Str.length_append]
    have : (Str.empty).length = 0 := rfl
    omega
/-- a number in an error's words -/
def numOk : D → Prop
  | .int i => i.natAbs < 1000000000
  | _ => False
theorem words_num {X : Cx} {c : Str} {k : Nat} {y : Str} {p1 p2 p3 p4 : Pos} (hN : X.N[1]? = some y) (hv : Vis X.env.scope y) (hc : c.length ≤ 1000 := by decide +kernel) (hd : (y == ("__debug__" : Str)) = false := by decide) (hcd : (y == ("__classdict__" : Str)) = false := by decide) :
    Words X (.JoinedStr [.Constant (.str c) k p1, .FormattedValue (.Name y p2) (-1) none p3] p4) numOk := by
  refine ⟨_, pe_joined (.cons pe_str (.cons (pe_fmt (pe_var hN hv hd hcd)) .nil)), fun z a v d G H Q sub h1 h2 h3 => ?_⟩
  have big : (50000 : Nat) ≤ sizeLine := by decide +kernel
  have e0 : (Str.empty).length = 0 := rfl
  cases h1 with
  | int i =>
    have dl : (toString i : Str).length ≤ 20 := by
      have := (digs_ok (i := i) h2).1
      have e : (digs i).length = (toString i : Str).length := by
        unfold digs
        rw [Array.length_toList]
        rfl
      omega
    refine ⟨c, rfl, ?_, .int i, rfl, .inr ⟨i, rfl, small_log h2, _, rfl, ?_, h3 _⟩⟩
    · rw [Str.length_append]
      omega
    · rw [Str.length_append, Str.length_append]
      omega
  | _ => exact h2.elim
/-- an error is made: its words' field, its tag -/
def spE (K : PySem.W.Frag) (cm : Str → Option Addr) (C : Addr) (tag fld : Str) (ok : D → Prop) (m : D → W D) : Sp := fun vs H Q _ => ∃ (bg : Bl) (G Hb : Hp) (a : Addr) (v : V) (d : D), vs = [.ref a, v] ∧ H = upd Hb a (exo a C none) ∧ Hb a = none ∧ Vw ⟨cm, ⟨bg.1, [], bg.2⟩⟩ G Hb ∧ Den K ⟨cm, ⟨bg.1, [], bg.2⟩⟩ G v d ∧ ok d ∧
  (m d).wp (fun d' => ∀ H2 dx v' G', H2 a = some (exo a C (some dx)) → H2 dx = some (exd dx [(fld, v'), ("tag", .str tag)]) → Hb dx = none → Grow ⟨cm, ⟨bg.1, [], bg.2⟩⟩ G Hb G' (upd (del H2 a) dx (.xd [(fld, v'), ("tag", .str tag)])) → Den K ⟨cm, ⟨bg.1, [], bg.2⟩⟩ G' v' d' → Q .non H2) (fun _ => False)
section
variable {P : Program} {w : World} {K : PySem.W.Frag} {mg : Str → Option Value} {base : Heap} {cm : Str → Option Addr}
theorem err_data {C f cda cc : Addr} {qual y tag fld : Str} {params : Arguments} {scope : Scope} {fd : FuncData} {e e2 : Expr} {p0 p1 p2 p3 p4 q1 q2 q3 q4 q5 q6 q7 : Pos} {kk : Nat} {ar : Arg} {k : Nat} {ok : D → Prop} {me2 : Ev → W D}
    (T : ErrC P K C f cda cc qual params [.Expr (.Call (.Attribute (.Call (.Name "super" p0) [] [] p1) "__init__" p2) [e] [] p3) p4, .Assign [.Attribute (.Name "self" q1) "tag" q2] (.Constant (.str tag) kk q3) q4, .Assign [.Attribute (.Name "self" q5) fld q6] e2 q7] scope fd)
    (S : ExScope ["self", y] ["self", y] scope) (har : (params.posonlyargs ++ params.args).head? = some ar) (hps : ("self" : Str) = ar.arg) (m_super : mg "super" = none) {pl : Env → Sem Bool}
    (hev : ∀ env : Env, eval (.Call (.Attribute (.Call (.Name "super" p0) [] [] p1) "__init__" p2) [e] [] p3) env = (do
      let ov ← attributeBase (.Call (.Name "super" p0) [] [] p1) "__init__" env (eval (.Call (.Name "super" p0) [] [] p1) env)
      standAt p2.atName
      let (f, first) ← holding [ov] (getMethod ov "__init__" (pl env))
      callWith p3 f first (backTo p3 (starEach [e] env)) []))
    (hse : ∀ env : Env, starEach [e] env = [(false, eval e env)])
    (hsw : ∀ env : Env, swapsWith (.Call (.Attribute (.Call (.Name "super" p0) [] [] p1) "__init__" p2) [e] [] p3) none p4.line env = pure false)
    (hin : ∀ L : Addr, interactive (PySem.W.ksEnv qual scope L f (.ref cda) cc) = false)
    (w1 : ∀ env : Env, swapsWith (.Constant (.str tag) kk q3) (some (.Attribute (.Name "self" q1) "tag" q2)) q4.line env = pure false)
    (w2 : ∀ L : Addr, swapsWith e2 (some (.Attribute (.Name "self" q5) fld q6)) q7.line (PySem.W.ksEnv qual scope L f (.ref cda) cc) = pure false)
    (nt : PySem.W.findIn K (.ref C) "tag" = some none) (nf : PySem.W.findIn K (.ref C) fld = some none)
    (hmsg : ∀ (A : Around) (outer : List Env) (s : Shared) (H : Hp), Room k (A.deeper (PySem.W.ksEnv qual scope s.heap.objs.size f (.ref cda) cc)) → Words (exCx P w K mg base ["self", y] qual scope f (.ref cda) cc A outer s H) e ok)
    (hval : ∀ (A : Around) (outer : List Env) (s : Shared) (H : Hp) (bg : Bl) (G0 H0 : Hp), Room k (A.deeper (PySem.W.ksEnv qual scope s.heap.objs.size f (.ref cda) cc)) → EV (exCx P w K mg base ["self", y] qual scope f (.ref cda) cc A outer s H) (z := ⟨cm, ⟨bg.1, [], bg.2⟩⟩) (Jx.calm G0 H0) e2 me2) :
    FnOk P w K mg base CX0 (k + 1) f fd ["self", y] (spE K cm C tag fld ok fun d => me2 [none, some d]) := by
  refine err_fn T S har (by rw [← hps]; rfl) m_super hev hse hsw hin (fun vs H Q E h => ?_) (fun A outer s H vs Q E hr h => ?_)
  · obtain ⟨bg, G, Hb, a, v, d, rfl, _⟩ := h
    rfl
  obtain ⟨bg, G, Hb, a, v, d, rfl, rfl, na, vw, dv, ok1, h⟩ := h
  obtain ⟨te, pte, qte⟩ := hmsg A outer s (upd Hb a (exo a C none)) hr
  obtain ⟨t2, pt2, qt2⟩ := hval A outer s (upd Hb a (exo a C none)) bg G Hb hr
  have vis : Vis scope "self" := .inl (S.pars _ List.mem_cons_self)
  have ga : G a = none := vw.sub.free na
  refine ⟨te, _, a, rfl, upd_same, pte, pss_cons (ps_ost (pe_var (i := 0) rfl vis) pe_str (w1 _)) (pss_one (ps_ost (pe_var (i := 0) rfl vis) pt2 (w2 _))), ?_⟩
  refine qte _ a v d G _ _ (vw.sub.trans (same_new na)) dv ok1 fun m => ⟨upd_same, ?_⟩
  refine ⟨.ref a, rfl, a, C, rfl, T.T, nt, .inl ⟨upd_same, fun dx ndx nda => ?_⟩⟩
  have nd : Hb dx = none := by
    rw [upd_ne nda] at ndx
    exact ndx
  have gd : G dx = none := vw.sub.free nd
  have sm : Same Hb (upd (upd (upd Hb a (exo a C none)) dx (exd dx [("tag", .str tag)])) a (exo a C (some dx))) := fun b o hb => by
    rw [upd_ne (ne_of_none hb na), upd_ne (ne_of_none hb nd), upd_ne (ne_of_none hb na)]
    exact hb
  have g1 := Grow.same vw sm
  refine qt2 [some (.ref a), some v] _ G [none, some d] _ ⟨g1, vw, ⟨rfl, fun i e hi _ => ?_⟩, ⟨fun i es hi => ?_, fun i j es fs p _ hi => ?_⟩⟩ ((me2 _).mono (fun d' h1 v' H3 G3 g3 dv' => ?_) (fun _ q => q) h)
  · match i, hi with
    | 1, hi =>
      cases hi
      exact ⟨v, rfl, dv⟩
  · match i, hi with
    | 1, hi =>
      cases hi
      cases dv.nomut
  · match i, hi with
    | 1, hi =>
      cases hi
      cases dv.nomut
  have e2a : upd (upd (upd Hb a (exo a C none)) dx (exd dx [("tag", .str tag)])) a (exo a C (some dx)) dx = some (exd dx [("tag", .str tag)]) := by
    rw [upd_ne nda, upd_same]
  have ea := g3.fr a _ (vw.out na) upd_same
  have ed := g3.fr dx _ (vw.out nd) e2a
  have g3a : G3 a = none := g3.ap a _ upd_same (.inl rfl) ga
  have g3d : G3 dx = none := g3.ap dx _ e2a (.inl rfl) gd
  refine ⟨.ref a, rfl, a, C, rfl, T.T, nf, .inr ⟨dx, _, ea, ed, (show 1 ≤ 900 by decide), ?_⟩⟩
  have g4 := g1.trans g3
  have fin : ∀ b o, b ≠ a → b ≠ dx → H3 b = some o → upd (del (upd H3 dx (exd dx [(fld, v'), ("tag", .str tag)])) a) dx (.xd [(fld, v'), ("tag", .str tag)]) b = some o := fun b o h1 h2 hb => by
    rw [upd_ne h2, del_ne h1, upd_ne h2]
    exact hb
  refine h1 _ dx v' G3 (by rw [upd_ne nda.symm]; exact ea) upd_same nd ⟨fun b o n hb => fin b o (ne_of_none hb na) (ne_of_none hb nd) (g4.fr b o n hb), g4.gg, g4.ap, ⟨fun b o hb => fin b o (ne_of_none hb g3a) (ne_of_none hb g3d) (g3.vw.sub b o hb), fun B L q => ?_, ⟨fun _ z => (nomatch z), fun _ z => (nomatch z)⟩⟩⟩ dv'
  obtain ⟨⟨ns, i, dd, ss, b1, b2, b3⟩, k1, k2⟩ := g3.vw.bag B L q
  obtain ⟨n1, n2⟩ := vw.ne na q
  obtain ⟨n3, n4⟩ := vw.ne nd q
  exact ⟨⟨ns, i, dd, ss, fin B _ n1.symm n3.symm b1, fin L _ n2.symm n4.symm b2, b3⟩, k1, k2⟩
end
section
variable {X : Cx} {z : Zk} {J : Jx X.K z} {a b c e o tg : Expr} {es : List Expr} {ma mb mc mo : Ev → W D} {ms mk : Ev → W (List D)} {mf : Ev → W Fl} {pos p p2 pos2 apos cpos : Pos} {x f m : Str}
/-- raise C(x) -/
def raiseD (c tag fld : Str) (ok : D → Prop) (m : D → W D) (d : D) : W Fl := W.bind (W.need (ok d)) fun _ => W.bind (W.noX (m d)) fun d' => W.raise ⟨c, [(fld, d'), ("tag", .str (tag.cps.toList))]⟩
theorem sv_raise {C fI : Addr} {k : Nat} {fd : FuncData} {y tag fld : Str} {ok : D → Prop} {m : D → W D} (hc : X.calm = true) (hcm : z.cm x = some C) (T : OexC X.K C) (iC : PySem.W.findIn X.K (.ref C) "__init__" = some (some (.ref fI))) (tI : PySem.W.typeIn X.K (.ref fI) = some (.type "function"))
    (F1 : FnOk X.prog X.w X.K X.mg X.base CX0 k fI fd ["self", y] (spE X.K z.cm C tag fld ok m)) (hr : Room (k + 1) X.A) (hb : Binds X.K fd ["self", y] []) (hg : Gl X x) (hm : X.mg x = some (.ref C)) (ha : EV X J a ma) (tl : ∀ c ∈ tag.cps.toList, c < 1114112) (tz : tag.cps.toList.length ≤ 1000)
    (tk : Takes X fun cls d _ H => J.E cls d H)
    (hdb : (x == ("__debug__" : Str)) = false := by decide) (he : starEach [a] X.env = (false, eval a X.env) :: starEach [] X.env := by rfl) (hpl : (backTo cpos (starEach [] X.env)).any (·.1) = false := by rfl) :
    SV X J (.Raise (some (.Call (.Name x p) [a] [] cpos)) none pos) (fun env => W.bind (ma env) (raiseD x tag fld ok m)) := by
  obtain ⟨t, pa, qa⟩ := ha
  refine ⟨_, ps_raise (W := fun cls d _ H => J.E cls d H) hc tk (pmk_oex T iC tI F1 hr hb .nil pass0 hg hm (pa_cons pa pa_nil he) hdb he hpl), fun σ H G env N at_ h => qa σ H G env _ at_ ((ma env).mono (fun d h1 v H1 G1 g1 d1 => ?_) (fun _ q => q) h)⟩
  obtain ⟨ok1, h2⟩ := h1
  refine ⟨(show 1 ≤ 1000 by decide), fun a na => ⟨(z.bg.bag, z.bg.lm), G1, H1, a, v, d, rfl, rfl, na, g1.vw.low, d1.low, ok1, (m d).mono (fun d' h3 H2 dx v' G' ea ed nd gr dv' => ⟨rfl, dx, _, ea, ed, nd, ?_⟩) (fun _ z => z.elim) h2⟩⟩
  refine J.hE _ _ _ _ G' h3 (at_.gr.trans (g1.trans (gr.up g1.vw))) ⟨C, dx, _, hcm, rfl, rfl, upd_same, .cons dv'.up (.cons ?_ .nil)⟩
  exact .str _ (Nat.le_trans tz (by decide)) tl
end
end Rg

set_option Elab.async false
set_option linter.all false
set_option maxRecDepth 100000
set_option maxHeartbeats 4500000
/-! a lambda handed to a def: all but the maker's own table stays -/
namespace Rg
open PySem PySem.Spec PyProof.Rows LamX L2
/-- all but what stands at P -/
def ButP (P : Addr) (H H' : Hp) : Prop := ∀ b o, b ≠ P → H b = some o → H' b = some o
section
variable {X : Cx} {H : Hp} {s : Shared} {pins : List (Addr × Obj)} {σ : L2.St}
theorem lam_mk {T : List (Addr × Str)} {c P : Addr} {params : Arguments} {body : Expr} {scope : Scope} {pos : Pos} {E : Value → Shared → Prop} {Q : Value → Shared → Prop} (I : Inv X pins σ H s) (TB : TabB X.base X.mg c P) (hcode : X.env.code = .ref c)
    (inT : (P, X.env.qual ++ "<lambda>") ∈ T) (one : ∀ p ∈ T, p.1 = P → p.2 = X.env.qual ++ "<lambda>") (tabs : Tabs T H) (nodef : defaultsOf params X.env = ([], [])) (caught : ∀ y ∈ scope.names, y.2 = .free → ∃ c, X.env.cells.lookup y.1 = some c)
    (fin : ∀ (f c' : Addr) (pm ctv : Value) (H1 : Hp) (s' : Shared), Inv X pins σ H1 s' → ButP P H H1 → Tabs T H1 → s'.heap.get? f = some (PySem.W.kla_obj "<lambda>" (X.env.qual ++ "<lambda>") params body scope (cloFrom X.env.cells scope.names []) pm c' ctv) → H1 f = none → f ∉ frs X.stack → H1 c' = some (CodeO c' (X.env.qual ++ "<lambda>")) → Q (.ref f) s') : wpAny (model X.prog X.w) X.A (eval (.Lambda params body scope pos) X.env) Q E s := by
  obtain ⟨rows, atP, good, told⟩ := tabs _ inT
  have bmP := TB.bm.keeps I.bk
  have objP : s.heap.get? P = some { cls := .none, data := .fields rows } := I.hok P _ atP
  have far : ∀ f, s.heap.objs.size ≤ f → f ∉ frs X.stack := fun f hf z => (List.mem_cons.mp (I.stkSub _ z)).elim (fun e => Nat.lt_irrefl _ (Nat.lt_of_lt_of_le (e ▸ I.lt) hf)) (fun e => I.nofs hf e)
  refine PySem.W.kla_eval nodef ?_
  cases here : codeAmong pos rows.toList with
  | some cv =>
    obtain ⟨c', rfl, kept⟩ := told pos cv here
    refine PySem.W.kla_makeFunctionHit (mg := X.mg) (c := c) (P := P) (ps := rows) (closure_ok caught) I.ok.glob (I.mod.glob.keeps I.bk) hcode (TB.code.keeps I.bk) objP good here bmP fun ctv h' tk grown larger => ?_
    refine fin h'.objs.size c' _ ctv H _ (I.kept fun b o e => Heap.get?_push_of_some _ (grown b o e)) (fun _ _ _ e => e) tabs (Heap.get?_push_size _ rfl) (I.hok.fresh larger) (far _ larger) kept
  | none =>
    refine PySem.W.kla_makeFunction (mg := X.mg) (c := c) (P := P) (ps := rows) (closure_ok caught) I.ok.glob (I.mod.glob.keeps I.bk) hcode (TB.code.keeps I.bk) objP good here TB.gP bmP fun c' ctv h' tk grown newc below rec tab => ?_
    obtain ⟨c2, oc, vs, t, same, atc, dat, nm⟩ := rec
    cases same
    have more : s.heap.objs.size ≤ h'.objs.size := Nat.le_trans newc (Nat.le_of_lt below)
    have freeC : H c' = none := I.hok.fresh newc
    have nPc : P ≠ c' := ne_of_none atP freeC
    have J := inv_table (t' := tk) (more := #[rawInt pos.line, rawInt pos.col, .ref c']) (h' := h'.push (PySem.W.kla_obj "<lambda>" (X.env.qual ++ "<lambda>") params body scope (cloFrom X.env.cells scope.names []) ((X.mg "__name__").getD .none) c' ctv)) I atP
      (fun b o hb e => Heap.get?_push_of_some _ (grown b o hb e)) (Heap.get?_push_of_some _ tab) newc ⟨oc, vs, t, Heap.get?_push_of_some _ atc, dat, nm⟩
    have but : ButP P H (upd (upd H P (.tbl (rows ++ #[rawInt pos.line, rawInt pos.col, .ref c']))) c' (CodeO c' (X.env.qual ++ "<lambda>"))) := fun b o nb e => by
      rw [upd_ne (ne_of_none e freeC), upd_ne nb]
      exact e
    have asList : (rows ++ #[rawInt pos.line, rawInt pos.col, .ref c']).toList = rows.toList ++ [rawInt pos.line, rawInt pos.col, .ref c'] := by simp
    have notbl : ∀ {c0 : Addr} {q0 : Str}, H c0 = some (CodeO c0 q0) → c0 ≠ P := fun {c0 q0} e z => by
      rw [z, atP] at e
      exact nomatch (Option.some.inj e)
    refine fin h'.objs.size c' _ ctv _ _ J but (fun p hp => ?_) (Heap.get?_push_size _ rfl) ?_ (far _ more) upd_same
    · by_cases eP : p.1 = P
      · rw [one p hp eP, eP]
        refine ⟨_, by rw [upd_ne nPc, upd_same], by rw [asList]; exact PySem.TriplesOk_snoc _ _ _ _ good, fun p' cv hcv => ?_⟩
        rw [asList] at hcv
        rcases among_app _ good hcv with z | z
        · obtain ⟨c0, e1, e2⟩ := told p' cv z
          exact ⟨c0, e1, but _ _ (notbl e2) e2⟩
        · exact ⟨c', z, upd_same⟩
      · obtain ⟨ps', a1, a2, a3⟩ := tabs p hp
        refine ⟨ps', but _ _ eP a1, a2, fun p' cv hcv => ?_⟩
        obtain ⟨cd, e1, e2⟩ := a3 p' cv hcv
        exact ⟨cd, e1, but _ _ (notbl e2) e2⟩
    · rw [upd_ne (Nat.ne_of_gt below), upd_ne (Nat.ne_of_gt (Nat.lt_of_lt_of_le (Heap.lt_size objP) more))]
      exact I.hok.fresh more
end
/-- x(lambda: body), read -/
def tLamP (T : List (Addr × Str)) (P : Addr) (TT : (XK → Hp → VK → Prop) → Hp → VK → Prop) (t : XK → TE) : TE := fun σ H Q => Tabs T H ∧ ∀ H1, ButP P H H1 → Tabs T H1 → TT (fun E H' Q' => t E σ H' Q') H1 Q
section
variable {X : Cx}
theorem pe_lamP {T : List (Addr × Str)} {TT : (XK → Hp → VK → Prop) → Hp → VK → Prop} {x a : Str} {g c P : Addr} {k : Nat} {st : Stmt} {fd : FuncData} {Ng : List Str}
    {params : Arguments} {body : Expr} {scope : Scope} {t : XK → TE} {p lpos pos : Pos} (hg : Gl X x) (hm : X.mg x = some (.ref g)) (F : Fun X.K x x st g fd) (hb : L2.Binds X.K fd [a] []) (Sg : FnScope Ng [a] (defScope st)) (hNg : Ng[0]? = some a) (hva : Vis (defScope st) a)
    (hG : ∀ cdv, GivesTo X Ng x (defScope st) g cdv (defBody st) a (X.env.qual ++ "<lambda>") TT)
    (TB : TabB X.base X.mg c P) (hcode : X.env.code = .ref c) (inT : (P, X.env.qual ++ "<lambda>") ∈ T) (one : ∀ p ∈ T, p.1 = P → p.2 = X.env.qual ++ "<lambda>") (hr : Room (k + 2) X.A) (L : LamS X.env.scope scope) (nodef : defaultsOf params X.env = ([], [])) (hbind : ∀ (q : Str) (cl : List (Str × Addr)) (pm cv ctv : Value), bindArgs (PySem.W.kla_fn "<lambda>" q params body scope cl pm cv ctv) ⟨[], []⟩ = pure []) (hbody : ∀ (A : Around) (outer : List Env) (s : Shared) (H : Hp) (E : XK) (f c' : Addr), Room k (A.deeper (lamEnv X scope s.heap.objs.size f c')) → PE (lamCx X A outer s H E scope f c') body (t E)) (hdb : (x == ("__debug__" : Str)) = false := by decide) (hd : (a == ("__debug__" : Str)) = false := by decide) (hcd : (a == ("__classdict__" : Str)) = false := by decide) :
    PE X (.Call (.Name x p) [.Lambda params body scope lpos] [] pos) (tLamP T P TT t) := by
  have hk := F.kp
  obtain ⟨oc, od, osl, kV, doc, pm, cdv, an, ct, rfl, lk, hcg⟩ := F.ex
  refine ⟨fun pins s σ H Q I ask => wpAny_Call_Name_kw (ld_glob I hg hm (PySem.W.callWith_K (h₀ := X.base) I.ok.mod.kin hk ?_ (by rfl) (by rfl)) hdb)⟩
  show wpAny _ X.A (spliced ((false, eval (.Lambda params body scope lpos) X.env) :: backTo pos (starEach [] X.env))) _ _ s
  refine Calls.spliced_cons (lam_mk I TB hcode inT one ask.1 nodef (L.has I.ok) fun f c' pm' ctv H1 s' I1 but T1 atf nof far kept => Calls.spliced_nil ⟨I1.kIn, ?_⟩)
  have run : codeAny (model X.prog X.w) X.A (.call (.ref g) ⟨[.ref f], []⟩) (CR C8.CX0 X.stack X.prog X.w H1 s' Q C8.E0) s' := by
    refine run_ofS (N := Ng) (ps := [a]) (us := [.ref f]) (vs := [.ref f]) lk hcg Sg hr I1.env0 (hb s' [.ref f] I1.kIn rfl) (.cons rfl .nil) rfl fun room => ?_
    obtain ⟨t', pt', qt'⟩ := hG cdv f c' s' H1 Q (fun E H' Q' => t E σ H' Q') (fun W pn xe E p1 p2 tk hW => pe_act (i := 0) I1 L atf nof far (hbind _ _ _ _ _) tk hW room (fun A outer s H r2 => hbody A outer s H E f c' r2) hNg hva hd hcd) kept (ask.2 H1 but T1)
    exact ⟨t', pt'.nox, qt'⟩
  refine wpAny_call (codeAny_mono run fun r s2 hq => ?_)
  match r, hq with
  | .ok (.ret u), hq => exact I1.after hq
end
end Rg

set_option Elab.async false
set_option linter.all false
set_option maxRecDepth 100000
set_option maxHeartbeats 4500000
/-! the rules by data: x(lambda: ..) -/
namespace Rg
open PySem PySem.Spec PyProof.Rows LamX L2
/-- no list of one's own is being changed -/
def noOwn (env : Ev) : Prop := ∀ (i : Nat) (ds : List D), env[i]? ≠ some (some (.own ds))
theorem Grow.tab {z : Zk} {G H H1 : Hp} {P : Addr} {q : Str} (htb : z.bg.tb = [(P, q)]) (v : Vw z G H) (but : ButP P H H1) (t1 : Tabs z.bg.tb H1) : Grow z G H G H1 := by
  have inT : (P, q) ∈ z.bg.tb := by rw [htb]; exact List.mem_cons_self
  have gP := v.tab.2 _ inT
  obtain ⟨ps, hP, _⟩ := v.tab.1 _ inT
  have lst : ∀ {b : Addr} {xs : List V}, H b = some (.lst xs) → H1 b = some (.lst xs) := fun {b xs} e => but b _ (fun z => by rw [z, hP] at e; exact nomatch (Option.some.inj e)) e
  refine ⟨fun a o n h => but a o (n.2 _ inT) h, Same.refl _, fun _ _ _ _ g => g, ⟨fun a o h => but a o (fun z => by rw [z, gP] at h; cases h) (v.sub a o h), fun B L e => ?_, ⟨t1, v.tab.2⟩⟩⟩
  obtain ⟨⟨ns, i, d, s, h1, h2, h3⟩, k1, k2⟩ := v.bag B L e
  exact ⟨⟨ns, i, d, s, lst h1, lst h2, h3⟩, k1, k2⟩
/-- what a def makes of a lambda that does what m tells -/
def Conv (K : PySem.W.Frag) (z : Zk) (TT : (XK → Hp → VK → Prop) → Hp → VK → Prop) (conv : W D → W D) : Prop :=
  ∀ (tl : XK → Hp → VK → Prop) (m : W D) (G H : Hp) (Q : VK), Vw z G H →
    (∀ (E : XK) (xQ : ExD → Prop) (Q' : VK), (∀ x cls dx H' G', xQ x → Grow z G H G' H' → XDen K z G' H' cls dx x → E cls dx H') → m.wp (VQ K z G H Q') xQ → tl E H Q') →
    (conv m).wp (VQ K z G H Q) (fun _ => False) → TT tl H Q
section
variable {X : Cx} {z : Zk} {J : Jx X.K z} {mb : Ev → W D}
theorem ev_lam {TT : (XK → Hp → VK → Prop) → Hp → VK → Prop} {conv : W D → W D} {x a : Str} {g c P : Addr} {k : Nat} {st : Stmt} {fd : FuncData} {Ng : List Str} {params : Arguments} {body : Expr} {scope : Scope} {p lpos pos : Pos}
    (hc : Conv X.K z TT conv) (hg : Gl X x) (hm : X.mg x = some (.ref g)) (F : Fun X.K x x st g fd) (hb : L2.Binds X.K fd [a] []) (Sg : FnScope Ng [a] (defScope st)) (hNg : Ng[0]? = some a) (hva : Vis (defScope st) a)
    (hG : ∀ cdv, GivesTo X Ng x (defScope st) g cdv (defBody st) a (X.env.qual ++ "<lambda>") TT)
    (TB : TabB X.base X.mg c P) (hcode : X.env.code = .ref c) (htb : z.bg.tb = [(P, X.env.qual ++ "<lambda>")]) (hr : Room (k + 2) X.A) (L : LamS X.env.scope scope) (nodef : defaultsOf params X.env = ([], [])) (hbind : ∀ (q : Str) (cl : List (Str × Addr)) (pm cv ctv : Value), bindArgs (PySem.W.kla_fn "<lambda>" q params body scope cl pm cv ctv) ⟨[], []⟩ = pure [])
    (hbody : ∀ (A : Around) (outer : List Env) (s : Shared) (H : Hp) (f c' : Addr) (J' : Jx X.K z), Room k (A.deeper (lamEnv X scope s.heap.objs.size f c')) → Passes (L2.CX X.prog X.w) (lamCx X A outer s H J'.E scope f c') J'.E → EV (lamCx X A outer s H J'.E scope f c') (z := z) J' body mb)
    (hpass : ∀ (A : Around) (outer : List Env) (s : Shared) (H : Hp) (E : XK) (f c' : Addr), Passes (L2.CX X.prog X.w) (lamCx X A outer s H E scope f c') E) (hdb : (x == ("__debug__" : Str)) = false := by decide) (hd : (a == ("__debug__" : Str)) = false := by decide) (hcd : (a == ("__classdict__" : Str)) = false := by decide) :
    EV X J (.Call (.Name x p) [.Lambda params body scope lpos] [] pos) (fun env => W.bind (W.need (noOwn env)) fun _ => W.noX (conv (mb env))) := by
  have inT : (P, X.env.qual ++ "<lambda>") ∈ z.bg.tb := by rw [htb]; exact List.mem_cons_self
  have one : ∀ p ∈ z.bg.tb, p.1 = P → p.2 = X.env.qual ++ "<lambda>" := fun p hp _ => by
    rw [htb] at hp
    rw [List.mem_singleton.mp hp]
  refine ⟨_, pe_lamP (T := z.bg.tb) (TT := TT) (t := fun E σ H Q => ∃ J' : Jx X.K z, J'.E = E ∧ ∀ (A : Around) (outer : List Env) (s : Shared) (H0 : Hp) (f c' : Addr) (room : Room k (A.deeper (lamEnv X scope s.heap.objs.size f c'))), (hbody A outer s H0 f c' J' room (hpass A outer s H0 J'.E f c')).choose σ H Q)
    hg hm F hb Sg hNg hva hG TB hcode inT one hr L nodef hbind (fun A outer s H0 E f c' room => ⟨fun pins s' σ H' Q I h => ?_⟩) hdb hd hcd, fun σ H G env Q at_ h => ?_⟩
  · obtain ⟨J', rfl, h⟩ := h
    exact (hbody A outer s H0 f c' J' room (hpass A outer s H0 J'.E f c')).choose_spec.1.run pins s' σ H' Q I (h A outer s H0 f c' room)
  · obtain ⟨no, h⟩ := h
    refine ⟨at_.gr.vw.tab.1, fun H1 but t1 => ?_⟩
    have g1 := Grow.tab htb at_.gr.vw but t1
    have at1 : At X.K z G H1 σ H1 G env := ⟨.refl g1.vw, g1.vw, at_.en, ⟨fun i ds e => (no i ds e).elim, fun i j ds es p _ e => (no i ds e).elim⟩⟩
    refine hc _ (mb env) G H1 Q g1.vw (fun E xQ Q' hE hm' => ⟨⟨G, H1, E, xQ, hE⟩, rfl, fun A outer s H0 f c' room => ?_⟩) ((conv (mb env)).mono (VQ.grow g1) (fun _ q => q) h)
    exact (hbody A outer s H0 f c' ⟨G, H1, E, xQ, hE⟩ room (hpass A outer s H0 E f c')).choose_spec.2 σ H1 G env Q' at1 hm'
end
end Rg

set_option Elab.async false
set_option linter.all false
set_option maxRecDepth 100000
set_option maxHeartbeats 4500000
/-! the rules by data: o.m(k = e); how errors' __init__ bind; the law's own code object -/
namespace Rg
open PySem PySem.Spec PyProof.Rows LamX L2
def pairK {α : Type} : List α → List α → List α
  | [u], [w] => [u, w]
  | _, _ => []
theorem pairK_len {α : Type} {us ws : List α} (h : (pairK us ws).length = 2) : ∃ u w, us = [u] ∧ ws = [w] := by
  unfold pairK at h
  split at h
  · exact ⟨_, _, rfl, rfl⟩
  · cases h
theorem kb_pair {K : PySem.W.Frag} {x qual y : Str} {st : Stmt} {f : Addr} {fd : FuncData} (F : Fun K x qual st f fd)
    (h : ∀ (kV doc pm : Value) (an : Option Addr) (cdv ct u w : Value), bindArgs (PySem.W.fnOf x qual (defArgs st) (defBody st) (defScope st) .none kV doc pm an cdv ct) ⟨[u], [(y, w)]⟩ = pure [(("self" : Str), u), (y, w)]) : KBinds K fd ["self", y] [y] pairK pairK := by
  obtain ⟨_, _, kV, doc, pm, an, cdv, ct, _, rfl, _, _⟩ := F.ex
  refine ⟨fun s us ws _ hl => ?_, fun {vs us zs ws} r q => ?_⟩
  · obtain ⟨u, w, rfl, rfl⟩ := pairK_len hl
    exact .of_eq (h kV doc pm an cdv ct u w)
  · match vs, us, r, zs, ws, q with
    | [], [], .nil, _, _, _ => exact .nil
    | [_], [_], .cons r1 .nil, [], [], .nil => exact .nil
    | [_], [_], .cons r1 .nil, [_], [_], .cons q1 .nil => exact .cons r1 (.cons q1 .nil)
    | [_], [_], .cons r1 .nil, _ :: _ :: _, _ :: _ :: _, .cons q1 (.cons q2 q3) => exact .nil
    | _ :: _ :: _, _ :: _ :: _, .cons r1 (.cons r2 r3), _, _, _ => exact .nil
section
variable {X : Cx} {z : Zk} {J : Jx X.K z} {a b c e o tg : Expr} {es : List Expr} {ma mb mc mo : Ev → W D} {ms mk : Ev → W (List D)} {pos p apos : Pos} {x f m : Str}
def tMethK (C : Addr) (m : Str) (sp : Sp) (E : XK) (ta : TE) (tk : TA) : TE := fun σ H Q => ta σ H fun x H1 => ∃ a dx fs, x = .ref a ∧ H1 a = some (.ins C dx fs) ∧ fs.lookup m = none ∧ tk σ H1 fun zs H2 => sp (pairK [.ref a] zs) H2 Q E
theorem pe_methK {CX : CXT} {pl : Sem Bool} {C g : Addr} {k : Nat} {fd : FuncData} {ps ks : List Str} {sp : Sp} {E : XK} {ta : TE} {tk : TA} {kws : List Keyword} (he : PE X o ta) (cl : Cls X.K C) (hm : Meth X.K C m g) (F : FnOk X.prog X.w X.K X.mg X.base CX k g fd ps sp) (hr : Room k X.A) (hb : KBinds X.K fd ps ks pairK pairK) (hx : Passes CX X E) (hkw : PK X kws tk)
    (hall : (backToKw pos (keywordEach kws X.env)).all (·.1.isSome) = true := by rfl) (hks : (backToKw pos (keywordEach kws X.env)).filterMap (·.1) = ks := by rfl)
    (bare : ((backTo pos (starEach [] X.env)).any (fun a => a.1) || (backToKw pos (keywordEach kws X.env)).any (fun a => a.1.isNone)) = false := by rfl)
    (ht : eval (.Call (.Attribute o m apos) [] kws pos) X.env = (do
      let ov ← eval o X.env
      standAt apos.atName
      let (f, first) ← holding [ov] (getMethod ov m pl)
      callWith pos f first (backTo pos (starEach [] X.env)) (backToKw pos (keywordEach kws X.env))) := by rfl) :
    PE X (.Call (.Attribute o m apos) [] kws pos) (tMethK C m sp E ta tk) := by
  refine ⟨fun pins s σ H Q I h => PySem.W.methodCall_KW (pl := pl) (thn (he.run pins s σ H _ I h) ?_) ht⟩
  rintro u s1 ⟨x, H1, I1, rx, a, dx, fs, rfl, ea, l, q⟩
  obtain rfl : u = Value.ref a := rx
  refine getmeth_ok I1 ea cl hm l (PySem.W.callWith_KW0 (first := [.ref a]) (h₀ := X.base) I.ok.mod.kin hm.kp hall (thn (hkw.run pos pins s1 σ H1 _ I1 q) ?_) bare)
  rintro ws s2 ⟨zs, H2, I2, rz, q2⟩
  refine ⟨I2.kIn, ?_⟩
  rw [hks]
  exact run_fnk (us := [.ref a]) (vs := [.ref a]) F hr hb hx I2 (.cons rfl .nil) rz q2
theorem ev_methK {pl : Sem Bool} {c : Str} {C g : Addr} {k : Nat} {fd : FuncData} {ps ks : List Str} {mm : List D → W D} {kws : List Keyword} (hc : z.cm c = some C) (cl : Cls X.K C) (hm : Meth X.K C m g) (F : FnM X.prog X.w X.K X.mg X.base z.cm k g fd ps mm) (hr : Room k X.A) (hb : KBinds X.K fd ps ks pairK pairK) (hx : Passes (L2.CX X.prog X.w) X J.E)
    (ho : EV X J o mo) (ha : KV' X J kws mk)
    (hall : (backToKw pos (keywordEach kws X.env)).all (·.1.isSome) = true := by rfl) (hks : (backToKw pos (keywordEach kws X.env)).filterMap (·.1) = ks := by rfl)
    (bare : ((backTo pos (starEach [] X.env)).any (fun a => a.1) || (backToKw pos (keywordEach kws X.env)).any (fun a => a.1.isNone)) = false := by rfl)
    (ht : eval (.Call (.Attribute o m apos) [] kws pos) X.env = (do
      let ov ← eval o X.env
      standAt apos.atName
      let (f, first) ← holding [ov] (getMethod ov m pl)
      callWith pos f first (backTo pos (starEach [] X.env)) (backToKw pos (keywordEach kws X.env))) := by rfl) {n : Nat} (hn : ps.length = n := by rfl) :
    EV X J (.Call (.Attribute o m apos) [] kws pos) (fun env => W.bind (mo env) fun d => W.bind (insOf c d) fun gs => W.bind (W.need (gs.lookup m = none)) fun _ => W.bind (mk env) fun ds => callM n mm (pairK [d] ds)) := by
  subst hn
  obtain ⟨t, p, q⟩ := ho
  obtain ⟨ts, pa, qs⟩ := ha
  refine ⟨_, pe_methK p cl hm F hr hb hx pa hall hks bare ht, fun σ H G env Q at_ h => q σ H G env _ at_ ((mo env).mono (fun d h1 v H1 G1 g1 d1 => ?_) (fun _ q => q) h)⟩
  obtain ⟨p, dx, fs, gs, rfl, h2, h3, rfl, h4, h5⟩ := insOf_wp hc d1 h1
  refine ⟨p, dx, fs, rfl, g1.vw.sub _ _ h2, h3.none h4, qs σ H1 G1 env _ (at_.grow g1) ((mk env).mono (fun ds h6 vs H2 G2 g2 d2 => ?_) (fun _ q => q) h5)⟩
  have pd : Dens X.K z G2 (pairK [.ref p] vs) (pairK [.ins c gs] ds) := by
    cases d2 with
    | nil => exact .nil
    | cons e1 r =>
      cases r with
      | nil => exact .cons (d1.same g2.gg) (.one e1)
      | cons _ _ => exact .nil
  exact ask at_ (g1.trans g2) pd h6.1 h6.2
end
section
variable {X : Cx} {z : Zk} {J : Jx X.K z} {a : Expr} {ma : Ev → W D} {pos : Pos}
def negD : D → W D
  | .int i => W.pure (.int (-i))
  | _ => W.fail
theorem ev_neg (ha : EV X J a ma) : EV X J (.UnaryOp .USub a pos) (fun env => W.bind (ma env) negD) := by
  obtain ⟨t, p, q⟩ := ha
  refine ⟨_, pe_un un_neg p, fun σ H G env Q at_ h => q σ H G env _ at_ ((ma env).mono (fun d h1 v H1 G1 g1 d1 => ?_) (fun _ q => q) h)⟩
  cases d1 with
  | int i => exact ⟨i, rfl, h1 _ _ _ g1 (.int _)⟩
  | _ => exact h1.elim
end
/-- how the arguments of an error's __init__ bind -/
theorem ErrC.binds {P : Program} {K : PySem.W.Frag} {C f cda cc : Addr} {qual y : Str} {params : Arguments} {body : List Stmt} {scope : Scope} {fd : FuncData} (T : ErrC P K C f cda cc qual params body scope fd)
    (h : ∀ (nm : Str) (kV doc pm : Value) (an : Option Addr) (ct u w : Value), bindArgs (PySem.W.ksFn nm qual params body scope .none kV doc pm an (.ref cda) ct cc) ⟨[u, w], []⟩ = pure [(("self" : Str), u), (y, w)]) : Binds K fd ["self", y] [] := by
  obtain ⟨_, _, nm, kV, doc, pm, an, ct, _, rfl, _⟩ := T.fn
  refine .all fun us hl => ?_
  match us, hl with
  | [u, w], _ => exact h nm kV doc pm an ct u w
end Rg

set_option Elab.async false
set_option linter.all false
set_option maxRecDepth 100000
set_option maxHeartbeats 4500000
/-! what stands beside the view is taken into it for a while: cells that lambdas read -/
namespace Rg
open PySem PySem.Spec PyProof.Rows LamX L2
/-- the object at c, word for word -/
def objO (c : Addr) (o : Obj) : HO := .ext fun h => h.get? c = some o
theorem objO_ok {P : Program} {w : World} {H : Hp} {h : Heap} {c : Addr} {o : Obj} (e : h.get? c = some o) : ObjOk P w H h c (objO c o) := ⟨e, ⟨o, e⟩, fun _ _ e1 k => k o e1⟩
theorem objO_at {P : Program} {w : World} {H : Hp} {h : Heap} {c : Addr} {o : Obj} (x : ObjOk P w H h c (objO c o)) : h.get? c = some o := x.1
abbrev Cs := List (Addr × Obj)
/-- these are shown, too -/
def shows (C : Cs) (H : Hp) : Hp := fun b => match C.lookup b with
  | some o => some (objO b o)
  | none => H b
/-- these are no longer shown -/
def hides (C : Cs) (H : Hp) : Hp := fun b => match C.lookup b with
  | some _ => none
  | none => H b
section
variable {P : Program} {w : World} {C : Cs} {H H' : Hp} {h h' : Heap} {b : Addr} {o : Obj}
theorem shows_in (e : C.lookup b = some o) : shows C H b = some (objO b o) := by
  unfold shows
  rw [e]
theorem shows_not (e : C.lookup b = none) : shows C H b = H b := by
  unfold shows
  rw [e]
theorem hides_in (e : C.lookup b = some o) : hides C H b = none := by
  unfold hides
  rw [e]
theorem hides_not (e : C.lookup b = none) : hides C H b = H b := by
  unfold hides
  rw [e]
/-- they stand, and are not shown -/
def Beside (C : Cs) (H : Hp) (h : Heap) : Prop := ∀ b o, C.lookup b = some o → h.get? b = some o ∧ H b = none
/-- they are not shown -/
def Off (C : Cs) (H : Hp) : Prop := ∀ b o, C.lookup b = some o → H b = none
theorem Beside.off (c : Beside C H h) : Off C H := fun b o e => (c b o e).2
/-- they are shown -/
def Within (C : Cs) (H : Hp) : Prop := ∀ b o, C.lookup b = some o → H b = some (objO b o)
theorem Beside.same (c : Beside C H h) : Same H (shows C H) := fun a u e => by
  cases q : C.lookup a with
  | none => rw [shows_not q]; exact e
  | some o =>
    rw [(c a o q).2] at e
    cases e
theorem shows_ok (x : HOk P w H h) (c : Beside C H h) : HOk P w (shows C H) h := fun a u e => by
  cases q : C.lookup a with
  | none =>
    rw [shows_not q] at e
    exact (x a u e).stay (fun _ _ _ z => z) (fun d z => c.same _ _ z) fun d xs z => c.same _ _ z
  | some o =>
    rw [shows_in q] at e
    cases e
    exact objO_ok (c a o q).1
theorem hides_some {u : HO} (e : hides C H b = some u) : C.lookup b = none ∧ H b = some u := by
  cases q : C.lookup b with
  | none => exact ⟨rfl, by rw [hides_not q] at e; exact e⟩
  | some o =>
    rw [hides_in q] at e
    cases e
theorem Within.other {u : HO} (c : Within C H) (e : H b = some u) (ne : ∀ o, u ≠ objO b o) : C.lookup b = none := by
  cases q : C.lookup b with
  | none => rfl
  | some o =>
    rw [c b o q] at e
    exact (ne o (Option.some.inj e).symm).elim
theorem hides_ok (x : HOk P w H h) (c : Within C H) : HOk P w (hides C H) h := fun a u e => by
  obtain ⟨_, e⟩ := hides_some e
  refine (x a u e).stay (fun _ _ _ z => z) (fun d z => ?_) fun d xs z => ?_
  · rw [hides_not (c.other z fun _ q => nomatch q)]
    exact z
  · rw [hides_not (c.other z fun _ q => nomatch q)]
    exact z
theorem shows_hides (c : Within C H) : shows C (hides C H) = H := by
  funext a
  cases q : C.lookup a with
  | none => rw [shows_not q, hides_not q]
  | some o => rw [shows_in q, c a o q]
theorem hides_shows (c : Beside C H h) : hides C (shows C H) = H := by
  funext a
  cases q : C.lookup a with
  | none => rw [hides_not q, shows_not q]
  | some o => rw [hides_in q, (c a o q).2]
theorem shows_within : Within C (shows C H) := fun b o e => shows_in e
/-- what a call did that saw more: as the caller sees it -/
theorem un_hide {fs ex : List Addr} (c : Beside C H h) (u : Un fs ex (shows C H) H' h h') (c' : Within C H') (x : HOk P w H' h') : Un fs ex H (hides C H') h h' where
  keep := fun b ob q n hb he => by
    cases e : C.lookup b with
    | none => exact u.keep b ob q (by rw [shows_not e]; exact n) hb he
    | some o =>
      have := (c b o e).1
      rw [q] at this
      cases this
      exact objO_at (x b _ (c' b _ e))
  slot := fun b ob q n hb he => by
    cases e : C.lookup b with
    | none => exact u.slot b ob q (by rw [shows_not e]; exact n) hb he
    | some o =>
      have := (c b o e).1
      rw [q] at this
      cases this
      exact ⟨ob.slots, objO_at (x b _ (c' b _ e))⟩
  free := fun b ob q n he => by
    cases e : C.lookup b with
    | none => rw [hides_not e]; exact u.free b ob q (by rw [shows_not e]; exact n) he
    | some o => exact hides_in e
  there := u.there
  tups := fun b xs q => by
    have q2 := u.tups b xs (c.same _ _ q)
    rw [hides_not (c'.other q2 fun _ z => nomatch z)]
    exact q2
  frzs := fun b ob v q => by
    have q2 := u.frzs b ob v (c.same _ _ q)
    rw [hides_not (c'.other q2 fun _ z => nomatch z)]
    exact q2
  tbls := fun b ps q => by
    obtain ⟨more, q2⟩ := u.tbls b ps (c.same _ _ q)
    exact ⟨more, by rw [hides_not (c'.other q2 fun _ z => nomatch z)]; exact q2⟩
/-- what a call did that saw less: as the caller sees it -/
theorem un_show {fs : List Addr} (c : Within C H) (x : HOk P w H h) (nf : ∀ b o, C.lookup b = some o → b ∉ fs) (u : Un fs [] (hides C H) H' h h') : Beside C H' h' ∧ Un fs [] H (shows C H') h h' := by
  have key : ∀ b o, C.lookup b = some o → h'.get? b = some o ∧ H' b = none := fun b o e => by
    have q := objO_at (x b _ (c b o e))
    exact ⟨u.keep b o q (hides_in e) (nf b o e) (by simp), u.free b o q (hides_in e) (by simp)⟩
  refine ⟨key, fun b ob q n hb he => ?_, fun b ob q n hb he => ?_, fun b ob q n he => ?_, u.there, fun b xs q => ?_, fun b ob v q => ?_, fun b ps q => ?_⟩
  · cases e : C.lookup b with
    | none => exact u.keep b ob q (by rw [hides_not e]; exact n) hb he
    | some o => rw [c b o e] at n; cases n
  · cases e : C.lookup b with
    | none => exact u.slot b ob q (by rw [hides_not e]; exact n) hb he
    | some o => rw [c b o e] at n; cases n
  · cases e : C.lookup b with
    | none => rw [shows_not e]; exact u.free b ob q (by rw [hides_not e]; exact n) he
    | some o => rw [c b o e] at n; cases n
  · have e := c.other q fun _ z => nomatch z
    rw [shows_not e]
    exact u.tups b xs (by rw [hides_not e]; exact q)
  · have e := c.other q fun _ z => nomatch z
    rw [shows_not e]
    exact u.frzs b ob v (by rw [hides_not e]; exact q)
  · have e := c.other q fun _ z => nomatch z
    rw [shows_not e]
    exact u.tbls b ps (by rw [hides_not e]; exact q)
end
/-- a call's end, from one who saw more -/
theorem ce_hide {outer : List Env} {P : Program} {w : World} {C : Cs} {H : Hp} {s s' : Shared} {Q : VK} {u : Value} (c : Beside C H s.heap) (h : CE outer P w (shows C H) s (fun v H' => Within C H' ∧ Q v (hides C H')) u s') : CE outer P w H s Q u s' := by
  obtain ⟨v, H', os, bare, un, hok, r, c', q⟩ := h
  exact ⟨v, hides C H', os, bare, un_hide c un c' hok, hides_ok hok c', r, q⟩
/-- a call's end, from one who saw less -/
theorem ce_show {outer : List Env} {P : Program} {w : World} {C : Cs} {H : Hp} {s s' : Shared} {Q : VK} {u : Value} (c : Within C H) (x : HOk P w H s.heap) (nf : ∀ b o, C.lookup b = some o → b ∉ frs outer) (h : CE outer P w (hides C H) s (fun v H' => Off C H' → Q v (shows C H')) u s') : CE outer P w H s Q u s' := by
  obtain ⟨val, H', os, bare, un, hok, r, q⟩ := h
  obtain ⟨k, un'⟩ := un_show c x nf un
  exact ⟨val, shows C H', os, bare, un', shows_ok hok k, r, q k.off⟩
/-- what a def needs to start, when more is shown, or less -/
theorem env0_shows {P : Program} {w : World} {K : PySem.W.Frag} {mg : Str → Option Value} {base : Heap} {A : Around} {outer : List Env} {C : Cs} {H : Hp} {s : Shared} (e : Env0 P w K mg base A outer s H) (c : Beside C H s.heap) (nb : ∀ b o, C.lookup b = some o → base.get? b = none ∧ b ∉ frs outer) : Env0 P w K mg base A outer s (shows C H) := by
  refine ⟨e.frames, e.mod, fun b o q => ?_, e.bsz, e.funs, fun b q => ?_, shows_ok e.hok c, e.bare⟩
  · cases l : C.lookup b with
    | none => rw [shows_not l]; exact e.bs b o q
    | some o' => rw [(nb b o' l).1] at q; cases q
  · cases l : C.lookup b with
    | none => rw [shows_not l]; exact e.frf b q
    | some o' => exact ((nb b o' l).2 q).elim
theorem env0_hides {P : Program} {w : World} {K : PySem.W.Frag} {mg : Str → Option Value} {base : Heap} {A : Around} {outer : List Env} {C : Cs} {H : Hp} {s : Shared} (e : Env0 P w K mg base A outer s H) (c : Within C H) : Env0 P w K mg base A outer s (hides C H) := by
  refine ⟨e.frames, e.mod, fun b o q => ?_, e.bsz, e.funs, fun b q => ?_, hides_ok e.hok c, e.bare⟩
  · have z := e.bs b o q
    refine ⟨z.1, ?_⟩
    cases l : C.lookup b with
    | none => rw [hides_not l]; exact z.2
    | some o' => exact hides_in l
  · cases l : C.lookup b with
    | none => rw [hides_not l]; exact e.frf b q
    | some o' => exact hides_in l
section
variable {P : Program} {w : World} {C : Cs} {H H' : Hp} {h B h' : Heap}
theorem ub_show {fs : List Addr} (c : Within C H) (x : HOk P w H h) (nf : ∀ b o, C.lookup b = some o → b ∉ fs) (u : UB fs (hides C H) H' h B h') : Beside C H' B ∧ UB fs H (shows C H') h B h' := by
  have key : ∀ b o, C.lookup b = some o → B.get? b = some o ∧ H' b = none := fun b o e => by
    have q := objO_at (x b _ (c b o e))
    exact ⟨u.keep b o q (hides_in e) (nf b o e), u.free b o q (hides_in e)⟩
  refine ⟨key, fun b ob q n hb => ?_, u.slot, fun b ob q n => ?_, u.there, fun b xs q => ?_, fun b ob v q => ?_, fun b ps q => ?_⟩
  · cases e : C.lookup b with
    | none => exact u.keep b ob q (by rw [hides_not e]; exact n) hb
    | some o => rw [c b o e] at n; cases n
  · cases e : C.lookup b with
    | none => rw [shows_not e]; exact u.free b ob q (by rw [hides_not e]; exact n)
    | some o => rw [c b o e] at n; cases n
  · have e := c.other q fun _ z => nomatch z
    rw [shows_not e]
    exact u.tups b xs (by rw [hides_not e]; exact q)
  · have e := c.other q fun _ z => nomatch z
    rw [shows_not e]
    exact u.frzs b ob v (by rw [hides_not e]; exact q)
  · have e := c.other q fun _ z => nomatch z
    rw [shows_not e]
    exact u.tbls b ps (by rw [hides_not e]; exact q)
theorem cx_show {outer : List Env} {s s' : Shared} {E : XK} {u : Value} (c : Within C H) (x : HOk P w H s.heap) (nf : ∀ b o, C.lookup b = some o → b ∉ frs outer) (h : L2.CX P w outer (hides C H) s (fun cls d H' => Off C H' → E cls d (shows C H')) u s') : L2.CX P w outer H s E u s' := by
  obtain ⟨a, B, H', cls, d, e, fl, hok, ub, na, os, bare, q⟩ := h
  obtain ⟨k, ub'⟩ := ub_show c x nf ub
  refine ⟨a, B, shows C H', cls, d, e, fl, shows_ok hok k, ub', ?_, os, bare, q k.off⟩
  cases l : C.lookup a with
  | none => rw [shows_not l]; exact na
  | some o =>
    have := (k a o l).1
    rw [fl.2.1] at this
    cases this
/-- a call of one who sees less, as the caller sees it -/
theorem cr_show {outer : List Env} {s s' : Shared} {Q : VK} {E : XK} {r : Result} (c : Within C H) (x : HOk P w H s.heap) (nf : ∀ b o, C.lookup b = some o → b ∉ frs outer) (h : CR (L2.CX P w) outer P w (hides C H) s (fun v H' => Off C H' → Q v (shows C H')) (fun cls d H' => Off C H' → E cls d (shows C H')) r s') : CR (L2.CX P w) outer P w H s Q E r s' := by
  match r, h with
  | .ok (.ret u), h => exact ce_show c x nf h
  | .error e, h => exact cx_show c x nf h
end
end Rg

set_option Elab.async false
set_option linter.all false
set_option maxRecDepth 100000
set_option maxHeartbeats 4500000
/-! a lambda called from any frame: what it reads stands in cells -/
namespace Rg
open PySem PySem.Spec PyProof.Rows LamX L2
/-- the names of a lambda: captured ones and globals; one of its own is none of N -/
structure LamN (N : List Str) (sc scope : Scope) : Prop where
  kind : scope.kind = .function
  co : (scope.isCoroutine) = false
  gen : (scope.isGenerator) = false
  own : ∀ y ∈ scope.names, (y.2 = .local → y.1 ∉ N) ∧ y.2 ≠ .cell
  free : ∀ y ∈ scope.names, y.2 = NameKind.free → sc.names.lookup y.1 = some .cell ∨ sc.names.lookup y.1 = some .free
def lamNB (N : List Str) (sc scope : Scope) : Bool :=
  decide (scope.kind = .function) && (!scope.isCoroutine && (!scope.isGenerator && scope.names.all fun y => (!decide (y.2 = .local) || !N.contains y.1) && (!decide (y.2 = .cell) && (!decide (y.2 = .free) || (decide (sc.names.lookup y.1 = some .cell) || decide (sc.names.lookup y.1 = some .free))))))
theorem lamN_by {N : List Str} {sc scope : Scope} (h : lamNB N sc scope = true) : LamN N sc scope := by
  unfold lamNB at h
  simp only [List.all_eq_true, Bool.and_eq_true, Bool.or_eq_true, Bool.not_eq_true', decide_eq_true_eq, decide_eq_false_iff_not] at h
  obtain ⟨k1, k2, k3, each⟩ := h
  refine ⟨k1, k2, k3, fun y hy => ⟨fun e m => ?_, (each y hy).2.1⟩, fun y hy e => ?_⟩
  · rcases (each y hy).1 with z | z
    · exact z e
    · rw [List.contains_iff_mem.mpr m] at z
      cases z
  · rcases (each y hy).2.2 with z | z
    · exact (z e).elim
    · exact z
theorem LamN.has {N : List Str} {X : Cx} {scope : Scope} (L : LamN N X.env.scope scope) (ok : X.Ok) : ∀ y ∈ scope.names, y.2 = .free → ∃ c, X.env.cells.lookup y.1 = some c := fun y hy e => ok.has _ (L.free y hy e)
/-- a lambda as it is written; whether it has a default -/
structure LamT where
  params : Arguments
  body : Expr
  scope : Scope
  du : Bool
/-- its defaults, the tuple being at t -/
def LamT.dv (l : LamT) (t : Addr) : Value := if l.du then .ref t else .none
/-- the function that is made of it in X's frame -/
abbrev LamT.fn (X : Cx) (l : LamT) (t : Addr) (doc pm cdv ct : Value) : FuncData := PySem.W.kdv_fn "<lambda>" (X.env.qual ++ "<lambda>") l.params (.expr l.body) l.scope (cloFrom X.env.cells l.scope.names []) (l.dv t) doc pm cdv ct
abbrev LamT.obj (X : Cx) (l : LamT) (t : Addr) (doc pm : Value) (c : Addr) (ct : Value) : Obj := { cls := .type "function", data := .func (l.fn X t doc pm (.ref c) ct) }
/-- at t: its defaults, if it has any -/
def LamT.defs (l : LamT) (t : Addr) (h : Heap) : Prop := l.du = true → ∃ (o : Obj) (u : Value) (n : Nat), h.get? t = some o ∧ o.data = .seq #[u] n
/-- called with nothing, it binds names of its own alone -/
def LamT.binds (X : Cx) (l : LamT) : Prop := ∀ (s : Shared) (t : Addr) (doc pm cdv ct : Value), l.defs t s.heap → ∃ bs, BindsTo s (l.fn X t doc pm cdv ct) ⟨[], []⟩ bs ∧ ∀ y ∈ bs, l.scope.names.lookup y.1 = some .local
theorem LamT.binds0 {X : Cx} {l : LamT} (hd : l.du = false) (h : ∀ (doc pm cdv ct : Value), bindArgs (PySem.W.kdv_fn "<lambda>" (X.env.qual ++ "<lambda>") l.params (.expr l.body) l.scope (cloFrom X.env.cells l.scope.names []) .none doc pm cdv ct) ⟨[], []⟩ = pure []) : l.binds X := fun s t doc pm cdv ct _ => by
  refine ⟨[], .of_eq ?_, fun y hy => (nomatch hy)⟩
  rw [← h doc pm cdv ct]
  unfold LamT.fn LamT.dv
  rw [hd]
  rfl
theorem LamT.binds1 {X : Cx} {l : LamT} {a : Str} (hd : l.du = true) (own : l.scope.names.lookup a = some .local)
    (h : ∀ (t : Addr) (doc pm cdv ct : Value), ∃ k, bindArgs (PySem.W.kdv_fn "<lambda>" (X.env.qual ++ "<lambda>") l.params (.expr l.body) l.scope (cloFrom X.env.cells l.scope.names []) (.ref t) doc pm cdv ct) ⟨[], []⟩ = seqItems? (.ref t) >>= k ∧ ∀ u, k (some #[u]) = pure [(a, u)]) : l.binds X := fun s t doc pm cdv ct q => by
  obtain ⟨o, u, n, e1, e2⟩ := q hd
  obtain ⟨k, k1, k2⟩ := h t doc pm cdv ct
  have dv : l.dv t = .ref t := by
    unfold LamT.dv
    rw [hd]
    rfl
  refine ⟨[(a, u)], .of_defaults (T := t) (k := k) dv e1 e2 ?_ (k2 u), fun y hy => ?_⟩
  · show bindArgs (l.fn X t doc pm cdv ct) _ = seqItems? (l.dv t) >>= k
    unfold LamT.fn
    rw [dv]
    exact k1
  · rw [List.mem_singleton.mp hy]
    exact own
section
variable {X : Cx} {σ : L2.St} {HZ : Hp} {s1 : Shared}
/-- the cells that a lambda of X's frame reads hold the slots' values -/
structure Holds (X : Cx) (scope : Scope) (σ : L2.St) (h : Heap) : Prop where
  cell : ∀ y c, (y, NameKind.free) ∈ scope.names → X.env.cells.lookup y = some c → ∃ v, h.IsCell c v
  val : ∀ (i : Nat) y v c, X.N[i]? = some y → σ[i]? = some (some v) → (y, NameKind.free) ∈ scope.names → X.env.cells.lookup y = some c → ∃ u, RelV v u ∧ h.IsCell c (some u)
theorem clo_look {cells : List (Str × Addr)} {scope : Scope} (hf : ∀ y ∈ scope.names, y.2 = .free → ∃ c, cells.lookup y.1 = some c) {y : Str} {c : Addr} (e : (cloFrom cells scope.names []).lookup y = some c) : (y, NameKind.free) ∈ scope.names ∧ cells.lookup y = some c := by
  rcases cloFrom_mem (PySem.mem_of_lookup e) with z | ⟨z1, z2⟩
  · cases z
  · obtain ⟨c1, e1⟩ := hf _ z1 rfl
    have e1 : cells.lookup y = some c1 := e1
    refine ⟨z1, ?_⟩
    rw [e1] at z2 ⊢
    rw [z2]
    rfl
theorem lam_begin {A : Around} {outer : List Env} {E : XK} {scope : Scope} {f c' : Addr} {h1 : Heap} {tk : Nat} (ok : X.Ok) (len : σ.length = X.N.length) (L : LamN X.N X.env.scope scope) (e0 : Env0 X.prog X.w X.K X.mg X.base A outer s1 HZ) (hd : A.handled = none)
    (hold : Holds X scope σ s1.heap) (off : ∀ y c, (y, NameKind.free) ∈ scope.names → X.env.cells.lookup y = some c → HZ c = none)
    {m : Str → Option Value} (hns : h1.Ns s1.heap.objs.size m) (kp : ∀ b o, s1.heap.get? b = some o → h1.get? b = some o) :
    Inv (lamCx X A outer s1 HZ E scope f c') [] σ HZ { s1 with heap := h1, toks := tk } := by
  have hf := L.has ok
  have up : ∀ {c : Addr} {v : Option Value}, s1.heap.IsCell c v → h1.IsCell c v := fun {c v} ⟨o, a, b⟩ => ⟨o, kp _ _ a, b⟩
  have got : ∀ {y}, scope.names.lookup y = some .free → ∃ c, (cloFrom X.env.cells scope.names []).lookup y = some c := fun {y} z => mem_lookup (cloFrom_has (cells := X.env.cells) (acc := []) (PySem.mem_of_lookup z))
  have none_ : ∀ b : Addr, b ∉ (lamCx X A outer s1 HZ E scope f c').ex := fun b z => nomatch (show b ∈ ([] : List Addr) from z)
  have okL : (lamCx X A outer s1 HZ E scope f c').Ok :=
    { mod := e0.mod, kind := L.kind, glob := rfl, blt := rfl, above := Nat.le_refl _
      inj := fun x y c a b => ok.inj x y c (clo_look hf a).2 (clo_look hf b).2
      has := fun y hy => by
        have hy : scope.names.lookup y = some .cell ∨ scope.names.lookup y = some .free := hy
        rcases hy with z | z
        · exact ((L.own _ (PySem.mem_of_lookup z)).2 rfl).elim
        · exact got z
      cab := fun y c z _ => (nomatch (show false = true from z))
      hd := fun _ => hd, frames := Around.frames_deeper e0.frames, stk := .inr ⟨rfl, rfl⟩
      exf := fun b z => (none_ b z).elim, bs := e0.bs, bsz := e0.bsz, noex := fun b _ _ => none_ b, exfs := fun b z => (none_ b z).elim, funs := e0.funs, frf := e0.frf }
  refine { ok := okL, os := rfl, bare := e0.bare, base := Un.kept kp, loc := ⟨_, hns, fun i y v a b k => ?_⟩, cell := fun y c a => ?_, free := e0.hok.fresh (Nat.le_refl _), freeC := fun y c a => ?_, pin := fun q hq => absurd (show q ∈ ([] : List (Addr × Obj)) ++ [] from hq) (by simp), hok := e0.hok.kept kp, len := len }
  · have k : Vis scope y := k
    rcases k with z | z | z
    · exact ((L.own _ (PySem.mem_of_lookup z)).1 rfl (List.mem_of_getElem? a)).elim
    · exact ((L.own _ (PySem.mem_of_lookup z)).2 rfl).elim
    · obtain ⟨c, hc⟩ := got z
      obtain ⟨mem, hcell⟩ := clo_look hf hc
      obtain ⟨u, r, at_⟩ := hold.val i y v c a b mem hcell
      exact ⟨u, r, .inr ⟨.inr z, c, hc, up at_⟩⟩
  · obtain ⟨mem, hcell⟩ := clo_look hf a
    obtain ⟨v, at_⟩ := hold.cell y c mem hcell
    exact ⟨v, up at_⟩
  · obtain ⟨mem, hcell⟩ := clo_look hf a
    exact off y c mem hcell
theorem lam_run {A : Around} {outer : List Env} {k : Nat} {f c' t : Addr} {doc pm ctv : Value} {l : LamT} {tb : TE} {Q : VK} {E : XK} (ok : X.Ok) (len : σ.length = X.N.length) (L : LamN X.N X.env.scope l.scope) (e0 : Env0 X.prog X.w X.K X.mg X.base A outer s1 HZ) (hr : Room (k + 1) A)
    (fun_ : s1.heap.get? f = some (l.obj X t doc pm c' ctv)) (code : HZ c' = some (CodeO c' (X.env.qual ++ "<lambda>"))) (defs : l.defs t s1.heap) (bind0 : l.binds X) (hold : Holds X l.scope σ s1.heap)
    (off : ∀ y c, (y, NameKind.free) ∈ l.scope.names → X.env.cells.lookup y = some c → HZ c = none) (does : Room k (A.deeper (lamEnv X l.scope s1.heap.objs.size f c')) → PE (lamCx X A outer s1 HZ E l.scope f c') l.body tb) (want : tb σ HZ Q) :
    codeAny (model X.prog X.w) A (.call (.ref f) ⟨[], []⟩) (CR (L2.CX X.prog X.w) outer X.prog X.w HZ s1 Q E) s1 := by
  obtain ⟨⟨oc, vs, tq, a1, a2, a3⟩, _, _⟩ := e0.hok c' _ code
  have lim : s1.heap.NoLimit := e0.mod.nolimit.keeps fun b o e => (e0.bs b o e).1
  obtain ⟨bs, bnd, loc⟩ := bind0 s1 t doc pm (.ref c') ctv defs
  refine PySem.W.kla_callFunE hr.depth fun_ rfl L.co L.gen rfl ⟨c', oc, vs, tq, rfl, a1, a2, a3⟩ (bnd _ _ _ _ ?_)
  refine wpAny_newFunctionEnv (fun y hy => (L.own y hy).2) loc (fun h1 names less => ⟨lim.fresh _ less, ?_⟩) L.kind
  show codeAny _ A (.expr l.body (lamEnv X l.scope s1.heap.objs.size f c')) _ _
  have stays : ∀ b o, s1.heap.get? b = some o → h1.get? b = some o := fun b o e => less.extBut b o (Nat.ne_of_lt (Heap.lt_size e)) (Heap.get?_push_of_some _ e)
  refine PySem.W.kla_codeExpr (wpAny_mono ((does (hr.deeper _)).run [] _ σ HZ Q (lam_begin ok len L e0 hr.hd hold off names stays) want) (fun v s' got => ?_) fun e s' got => got)
  obtain ⟨u, H', J, r, q⟩ := got
  exact ⟨u, H', J.os, J.bare, J.base, J.hok, r, q⟩
/-- the same, where the caller sees the cells -/
theorem lam_seen {C : Cs} {A : Around} {outer : List Env} {k : Nat} {f c' t : Addr} {doc pm ctv : Value} {l : LamT} {tb : XK → TE} {Q : VK} {E : XK} (ok : X.Ok) (len : σ.length = X.N.length) (L : LamN X.N X.env.scope l.scope) (e0 : Env0 X.prog X.w X.K X.mg X.base A outer s1 HZ) (hr : Room (k + 1) A)
    (fun_ : s1.heap.get? f = some (l.obj X t doc pm c' ctv)) (code : HZ c' = some (CodeO c' (X.env.qual ++ "<lambda>"))) (notC : C.lookup c' = none) (defs : l.defs t s1.heap) (bind0 : l.binds X) (win : Within C HZ) (nf : ∀ b o, C.lookup b = some o → b ∉ frs outer)
    (all : ∀ y c, (y, NameKind.free) ∈ l.scope.names → X.env.cells.lookup y = some c → ∃ o, C.lookup c = some o) (hold : Holds X l.scope σ s1.heap)
    (does : ∀ HY E', Room k (A.deeper (lamEnv X l.scope s1.heap.objs.size f c')) → PE (lamCx X A outer s1 HY E' l.scope f c') l.body (tb E')) (want : tb (fun cls d H' => Off C H' → E cls d (shows C H')) σ (hides C HZ) (fun v H' => Off C H' → Q v (shows C H'))) :
    codeAny (model X.prog X.w) A (.call (.ref f) ⟨[], []⟩) (CR (L2.CX X.prog X.w) outer X.prog X.w HZ s1 Q E) s1 := by
  have off : ∀ y c, (y, NameKind.free) ∈ l.scope.names → X.env.cells.lookup y = some c → hides C HZ c = none := fun y c m e => by
    obtain ⟨o, l⟩ := all y c m e
    exact hides_in l
  have code' : hides C HZ c' = some (CodeO c' (X.env.qual ++ "<lambda>")) := by rw [hides_not notC]; exact code
  exact codeAny_mono (lam_run (k := k) ok len L (env0_hides e0 win) hr fun_ code' defs bind0 hold off (does _ _) want) fun r s' h => cr_show win e0.hok nf h
end
end Rg

set_option Elab.async false
set_option linter.all false
set_option maxRecDepth 100000
set_option maxHeartbeats 4500000
/-! a def that got a lambda from a list calls it -/
namespace Rg
open PySem PySem.Spec PyProof.Rows LamX L2
/-- cells that are shown: what a lambda of X's frame reads stands in them -/
structure HoldC (X : Cx) (scope : Scope) (σ : L2.St) (C : Cs) : Prop where
  cell : ∀ y c, (y, NameKind.free) ∈ scope.names → X.env.cells.lookup y = some c → ∃ o v, C.lookup c = some o ∧ o.data = .cell v
  val : ∀ (i : Nat) y v c, X.N[i]? = some y → σ[i]? = some (some v) → (y, NameKind.free) ∈ scope.names → X.env.cells.lookup y = some c → ∃ o u, C.lookup c = some o ∧ o.data = .cell (some u) ∧ RelV v u
  all : ∀ c o, C.lookup c = some o → ∃ v, o.data = .cell v
/-- the lambda at f, its code at c, its defaults at t -/
def lamO (X : Cx) (l : LamT) (f c t : Addr) : HO := .ext fun h => ∃ doc pm ctv, h.get? f = some (l.obj X t doc pm c ctv)
theorem lamO_ok {P : Program} {w : World} {H : Hp} {h : Heap} {X : Cx} {l : LamT} {f c t : Addr} {doc pm ctv : Value} (e : h.get? f = some (l.obj X t doc pm c ctv)) : ObjOk P w H h f (lamO X l f c t) :=
  ⟨⟨doc, pm, ctv, e⟩, ⟨_, e⟩, fun _ _ ⟨doc, pm, ctv, q⟩ k => ⟨doc, pm, ctv, k _ q⟩⟩
theorem defO_ok {P : Program} {w : World} {H : Hp} {h : Heap} {t : Addr} {o : Obj} {u : Value} {n : Nat} (e : h.get? t = some o) (d : o.data = .seq #[u] n) : ObjOk P w H h t (DefO t) :=
  ⟨⟨o, u, n, e, d⟩, ⟨_, e⟩, fun _ _ ⟨o, u, n, q, d⟩ k => ⟨o, u, n, k _ q, d⟩⟩
section
variable {X : Cx} {σ : L2.St} {C : Cs} {scope : Scope} {P : Program} {w : World} {H : Hp} {h : Heap}
theorem HoldC.holds (k : HoldC X scope σ C) (win : Within C H) (hok : HOk P w H h) : Holds X scope σ h := by
  refine ⟨fun y c m e => ?_, fun i y v c a b m e => ?_⟩
  · obtain ⟨o, v, l, d⟩ := k.cell y c m e
    exact ⟨v, o, objO_at (hok c _ (win c o l)), d⟩
  · obtain ⟨o, u, l, d, r⟩ := k.val i y v c a b m e
    exact ⟨u, r, o, objO_at (hok c _ (win c o l)), d⟩
theorem HoldC.notCode (k : HoldC X scope σ C) (win : Within C H) (hok : HOk P w H h) {c : Addr} {q : Str} (e : H c = some (CodeO c q)) : C.lookup c = none := by
  cases l : C.lookup c with
  | none => rfl
  | some o =>
    obtain ⟨⟨oc, vs, t, a1, a2, _⟩, _, _⟩ := hok c _ e
    rw [objO_at (hok c _ (win c o l))] at a1
    obtain ⟨v, d⟩ := k.all c o l
    rw [← Option.some.inj a1, d] at a2
    cases a2
theorem Within.frames {K : PySem.W.Frag} {mg : Str → Option Value} {base : Heap} {A : Around} {outer : List Env} {s : Shared} (win : Within C H) (e0 : Env0 P w K mg base A outer s H) : ∀ b o, C.lookup b = some o → b ∉ frs outer := fun b o l z => by
  have := e0.frf b z
  rw [win b o l] at this
  cases this
end
section
variable {X : Cx} {σ : L2.St} {C : Cs}
/-- a(), where a is a lambda of X's frame -/
theorem pe_actC {CXg : CXT} {Eg : XK} {Ng : List Str} {qg : Str} {sg : Scope} {g f c' t : Addr} {cdg : Value} {l : LamT} {k i : Nat} {a : Str} {pn : List (Addr × Obj)} {xe : Value → Shared → Prop} {W : WX} {E : XK} {tb : XK → TE} {p1 p2 : Pos} {A : Around} {outer : List Env} {s : Shared} {H : Hp}
    (ok : X.Ok) (len : σ.length = X.N.length) (L : LamN X.N X.env.scope l.scope) (hc : HoldC X l.scope σ C) (hbind : l.binds X)
    (tk : Takes ((cxOf CXg X.prog X.w X.K X.mg X.base Ng qg sg g cdg A outer s H Eg).tr pn xe) W) (hW : ∀ cls d σ' H', E cls d H' → W cls d σ' H') (hr : Room (k + 1) (A.deeper (envOfC qg sg s.heap.objs.size g cdg)))
    (hbody : ∀ (A : Around) (outer : List Env) (s : Shared) (H : Hp) (E : XK), Room k (A.deeper (lamEnv X l.scope s.heap.objs.size f c')) → PE (lamCx X A outer s H E l.scope f c') l.body (tb E))
    (hv : Vis sg a) (hN : Ng[i]? = some a) (hd : (a == ("__debug__" : Str)) = false := by decide) (hcd : (a == ("__classdict__" : Str)) = false := by decide) :
    PE ((cxOf CXg X.prog X.w X.K X.mg X.base Ng qg sg g cdg A outer s H Eg).tr pn xe) (.Call (.Name a p1) [] [] p2)
      (fun σZ HZ Q => σZ[i]? = some (some (.ref f)) ∧ HZ c' = some (CodeO c' (X.env.qual ++ "<lambda>")) ∧ (HZ f = some (lamO X l f c' t) ∧ (l.du = true → HZ t = some (DefO t))) ∧ Within C HZ ∧ tb (fun cls d H' => Off C H' → E cls d (shows C H')) σ (hides C HZ) (fun v H' => Off C H' → Q v (shows C H'))) := by
  refine ⟨fun pins sZ σZ HZ Q IZ ask => ?_⟩
  obtain ⟨slot, code, ⟨fn, dfs⟩, win, want⟩ := ask
  refine wpAny_Call_Name_kw (thn ((pe_var (pos := p1) (i := i) hN hv hd hcd).run pins sZ σZ HZ (fun v H1 => v = .ref f ∧ H1 = HZ) IZ ⟨.ref f, slot, rfl, rfl⟩) fun u s1 ⟨v, H1, I1, r1, q1⟩ => ?_)
  obtain ⟨rfl, e1⟩ := q1
  rw [e1] at I1
  cases r1
  obtain ⟨⟨doc, pm, ctv, obj⟩, _, _⟩ := I1.hok f _ fn
  have defs : l.defs t s1.heap := fun d => (I1.hok t _ (dfs d)).1
  have e0 : Env0 X.prog X.w X.K X.mg X.base (A.deeper (envOfC qg sg s.heap.objs.size g cdg)) (envOfC qg sg s.heap.objs.size g cdg :: outer) s1 HZ := I1.env0
  have hok : HOk X.prog X.w HZ s1.heap := I1.hok
  have rc : codeAny (model X.prog X.w) (A.deeper (envOfC qg sg s.heap.objs.size g cdg)) (.call (.ref f) ⟨[], []⟩) (CR (L2.CX X.prog X.w) (envOfC qg sg s.heap.objs.size g cdg :: outer) X.prog X.w HZ s1 Q E) s1 :=
    lam_seen (X := X) (σ := σ) (C := C) (k := k) (E := E) (Q := Q) (tb := tb) ok len L e0 hr obj code (hc.notCode win hok code) defs hbind win (win.frames e0) (fun y c m e => by
      obtain ⟨o, v, l, _⟩ := hc.cell y c m e
      exact ⟨o, l⟩) (hc.holds win hok) (fun HY E' room => hbody _ _ _ HY E' room) want
  refine PySem.W.callWith_F0 ⟨_, _, _, _, obj⟩ ?_
  refine wpAny_call (codeAny_mono rc fun r s' end_ => ?_)
  have hx : Passes (L2.CX X.prog X.w) ((cxOf CXg X.prog X.w X.K X.mg X.base Ng qg sg g cdg A outer s H Eg).tr pn xe) E := passes_call tk hW
  match r, end_ with
  | .ok (.ret u), end_ => exact I1.after end_
  | .error e, end_ => exact hx pins σZ HZ s1 e s' I1 end_
end
end Rg

set_option Elab.async false
set_option linter.all false
set_option maxRecDepth 100000
set_option maxHeartbeats 4500000
/-! a def that is given a lambda of X's frame, by what is shown -/
namespace Rg
open PySem PySem.Spec PyProof.Rows LamX L2
/-- what the def is asked: vs is one of X's lambdas, TT of its reading -/
def spAsk (X : Cx) (σ : L2.St) (C : Cs) (ls : Nat → LamT) (tb : Nat → XK → TE) (TT : (XK → Hp → VK → Prop) → Hp → VK → Prop) : Sp := fun vs H Q _ => ∃ (f c t : Addr) (i : Nat), vs = [.ref f] ∧ H c = some (CodeO c (X.env.qual ++ "<lambda>")) ∧
  TT (fun E H' Q' => (H' f = some (lamO X (ls i) f c t) ∧ ((ls i).du = true → H' t = some (DefO t))) ∧ Within C H' ∧ tb i (fun cls d H'' => Off C H'' → E cls d (shows C H'')) σ (hides C H') (fun v H'' => Off C H'' → Q' v (shows C H''))) H Q
theorem fn_ask {X : Cx} {σ : L2.St} {C : Cs} {ls : Nat → LamT} {tb : Nat → XK → TE} {TT : (XK → Hp → VK → Prop) → Hp → VK → Prop} {x a : Str} {st : Stmt} {g : Addr} {fd : FuncData} {Ng : List Str} {k : Nat} (F : Fun X.K x x st g fd) (Sg : FnScope Ng [a] (defScope st)) (hNg : Ng[0]? = some a) (hva : Vis (defScope st) a)
    (hG : ∀ (A : Around) (outer : List Env) (cdv : Value), Room (k + 2) A → GivesTo { X with A := A, stack := outer } Ng x (defScope st) g cdv (defBody st) a (X.env.qual ++ "<lambda>") TT) (ok : X.Ok) (len : σ.length = X.N.length) (hL : ∀ i, LamN X.N X.env.scope (ls i).scope) (hc : ∀ i, HoldC X (ls i).scope σ C)
    (hbind : ∀ i, (ls i).binds X)
    (does : ∀ i (A : Around) (outer : List Env) (s : Shared) (H : Hp) (E : XK) (f c' : Addr), Room k (A.deeper (lamEnv X (ls i).scope s.heap.objs.size f c')) → PE (lamCx X A outer s H E (ls i).scope f c') (ls i).body (tb i E))
    (hd : (a == ("__debug__" : Str)) = false := by decide) (hcd : (a == ("__classdict__" : Str)) = false := by decide) :
    FnOk X.prog X.w X.K X.mg X.base C8.CX0 (k + 2) g fd [a] (spAsk X σ C ls tb TT) := by
  obtain ⟨oc, od, osl, kV, doc, pm, cdv, an, ct, rfl, lk, hcg⟩ := F.ex
  refine ⟨fun vs H Q E h => ?_, fun A outer s H args us vs Q E room e0 hb r h => ?_⟩
  · obtain ⟨f, c, t, i, rfl, _⟩ := h
    rfl
  obtain ⟨f, c, t, i, rfl, code, ask⟩ := h
  refine run_ofS (N := Ng) (ps := [a]) (us := us) (vs := [.ref f]) lk hcg Sg room e0 hb r rfl fun inner => ?_
  obtain ⟨t', pt', qt'⟩ := hG A outer cdv room f c s H Q _ (fun W pn xe E p1 p2 tk hW => pe_actC (X := X) (σ := σ) (C := C) (k := k) (i := 0) (t := t) (tb := tb i) ok len (hL i) (hc i) (hbind i) tk hW inner (fun A outer s H E r2 => does i A outer s H E f c r2) hva hNg hd hcd) code ask
  exact ⟨t', pt'.nox, qt'⟩
end Rg

set_option Elab.async false
set_option linter.all false
set_option maxRecDepth 100000
set_option maxHeartbeats 4500000
/-! data, when cells are shown for a while -/
namespace Rg
open PySem PySem.Spec PyProof.Rows LamX L2
section
variable {K : PySem.W.Frag} {z : Zk} {C : Cs} {G G' H H' : Hp}
theorem Within.up (win : Within C G) (e : Same G H) : Within C H := fun b o l => e _ _ (win b o l)
theorem Within.gone {b : Addr} (win : Within C G) (e : G b = none) : C.lookup b = none := by
  cases l : C.lookup b with
  | none => rfl
  | some o =>
    rw [win b o l] at e
    cases e
theorem Off.same (off : Off C H) : Same H (shows C H) := fun a u e => by
  cases l : C.lookup a with
  | none => rw [shows_not l]; exact e
  | some o =>
    rw [off a o l] at e
    cases e
theorem Off.down (off : Off C H) (e : Same G H) : Off C G := fun b o l => e.free (off b o l)
theorem vw_hide (htb : z.bg.tb = []) (win : Within C G) (v : Vw z G H) : Vw z (hides C G) (hides C H) := by
  have winH := win.up v.sub
  have keepL : ∀ {b : Addr} {xs : List V}, H b = some (.lst xs) → hides C H b = some (.lst xs) := fun {b xs} e => by
    rw [hides_not (winH.other e fun _ q => nomatch q)]
    exact e
  refine ⟨fun a u e => ?_, fun B Lb e => ?_, ⟨fun p hp => ?_, fun p hp => ?_⟩⟩
  · obtain ⟨l, e⟩ := hides_some e
    rw [hides_not l]
    exact v.sub _ _ e
  · obtain ⟨⟨ns, i, d, s, h1, h2, h3⟩, k1, k2⟩ := v.bag B Lb e
    exact ⟨⟨ns, i, d, s, keepL h1, keepL h2, h3⟩, by rw [hides_not (win.gone k1)]; exact k1, by rw [hides_not (win.gone k2)]; exact k2⟩
  · rw [htb] at hp
    cases hp
  · rw [htb] at hp
    cases hp
theorem grow_show (htb : z.bg.tb = []) (win : Within C G) (v : Vw z G H) (g : Grow z (hides C G) (hides C H) G' H') (off : Off C H') : Grow z G H (shows C G') (shows C H') := by
  have winH := win.up v.sub
  refine ⟨fun a o n e => ?_, fun a o e => ?_, fun a o e nx n => ?_, ⟨fun a o e => ?_, fun B Lb e => ?_, ⟨fun p hp => ?_, fun p hp => ?_⟩⟩⟩
  · cases l : C.lookup a with
    | none => rw [shows_not l]; exact g.fr a o n (by rw [hides_not l]; exact e)
    | some o' =>
      rw [winH a o' l] at e
      rw [shows_in l]
      exact e
  · cases l : C.lookup a with
    | none => rw [shows_not l]; exact g.gg a o (by rw [hides_not l]; exact e)
    | some o' =>
      rw [win a o' l] at e
      rw [shows_in l]
      exact e
  · have l := win.gone n
    rw [shows_not l]
    exact g.ap a o (by rw [hides_not l]; exact e) nx (by rw [hides_not l]; exact n)
  · cases l : C.lookup a with
    | none =>
      rw [shows_not l] at e ⊢
      exact g.vw.sub a o e
    | some o' =>
      rw [shows_in l] at e ⊢
      exact e
  · obtain ⟨k, k1, k2⟩ := g.vw.bag B Lb e
    obtain ⟨_, j1, j2⟩ := v.bag B Lb e
    exact ⟨k.same off.same, by rw [shows_not (win.gone j1)]; exact k1, by rw [shows_not (win.gone j2)]; exact k2⟩
  · rw [htb] at hp
    cases hp
  · rw [htb] at hp
    cases hp
theorem vq_hide {Q : VK} {d : D} (htb : z.bg.tb = []) (win : Within C G) (v : Vw z G H) (h : VQ K z G H Q d) : VQ K z (hides C G) (hides C H) (fun x H' => Off C H' → Q x (shows C H')) d := fun x H' G' g dx off =>
  h x _ _ (grow_show htb win v g off) (dx.same (off.down g.vw.sub).same)
theorem xden_show {cls : Value} {dx : Option Addr} {x : ExD} (off : Off C H') (vw : Vw z G' H') (h : XDen K z G' H' cls dx x) : XDen K z (shows C G') (shows C H') cls dx x := by
  obtain ⟨A, a, fs, h1, h2, h3, h4, h5⟩ := h
  exact ⟨A, a, fs, h1, h2, h3, off.same _ _ h4, h5.same (off.down vw.sub).same⟩
/-- what the lambda's body is asked, when the cells are not shown -/
def Jx.hide {E : XK} {xQ : ExD → Prop} (htb : z.bg.tb = []) (win : Within C G) (v : Vw z G H) (hE : ∀ x cls dx H' G', xQ x → Grow z G H G' H' → XDen K z G' H' cls dx x → E cls dx H') : Jx K z :=
  ⟨hides C G, hides C H, fun cls d H' => Off C H' → E cls d (shows C H'), xQ, fun x cls dx H' G' q g xd off => hE x cls dx _ _ q (grow_show htb win v g off) (xden_show off g.vw xd)⟩
end
end Rg

set_option Elab.async false
set_option linter.all false
set_option maxRecDepth 100000
set_option maxHeartbeats 4500000
/-! the rules by data: a lambda out of a list is asked -/
namespace Rg
open PySem PySem.Spec PyProof.Rows LamX L2
/-- what becomes of a lambda that is handed on -/
def askW (conv : W D → W D) (ms : Nat → W D) : D → W D
  | .lam i => W.noX (conv (ms i))
  | _ => W.fail
section
variable {Y X : Cx} {z : Zk} {J : Jx Y.K z} {C : Cs} {σ : L2.St} {ls : Nat → LamT} {tb : Nat → XK → TE} {TT : (XK → Hp → VK → Prop) → Hp → VK → Prop} {conv : W D → W D} {mb : Nat → Ev → W D} {lenv : Ev} {Gw : Hp} {x a : Str} {g : Addr} {k : Nat} {fd : FuncData} {e : Expr} {ms : Ev → W (List D)} {p pos : Pos}
theorem ask_sp (htb : z.bg.tb = []) (hlm : ∀ i f c t, z.bg.lm.ho i f c t = lamO X (ls i) f c t) (hdu : ∀ i, z.bg.lm.du i = (ls i).du) (hq : z.bg.lm.q = X.env.qual ++ "<lambda>") {K : PySem.W.Frag} {G0 H0 G H : Hp} {v : V} {i : Nat} {Q : VK} {E0 : XK} (win : Within C G0) (sm : Same Gw (hides C G0)) (en : EnvD K z Gw σ lenv) (no : noOwn lenv)
    (hconv : Conv K z TT conv) (hT : ∀ i (J' : Jx K z), At K z J'.G0 J'.H0 σ J'.H0 J'.G0 lenv → ∀ Q, (mb i lenv).wp (VQ K z J'.G0 J'.H0 Q) J'.xQ → tb i J'.E σ J'.H0 Q)
    (gr : Grow z G0 H0 G H) (hd : Den K z G v (.lam i)) (h : (conv (mb i lenv)).wp (VQ K z G H Q) (fun _ => False)) : spAsk X σ C ls tb TT [v] H Q E0 := by
  cases hd with
  | @lam f c t _ h1 h2 h3 =>
    rw [hlm] at h1
    rw [hq] at h2
    rw [hdu] at h3
    have winG : Within C G := win.up gr.gg
    refine ⟨f, c, t, i, rfl, gr.vw.sub _ _ h2, hconv _ (mb i lenv) G H Q gr.vw (fun E xQ Q' hE hm => ⟨⟨gr.vw.sub _ _ h1, fun d => gr.vw.sub _ _ (h3 d)⟩, winG.up gr.vw.sub, ?_⟩) h⟩
    have vh := vw_hide htb winG gr.vw
    have smG : Same Gw (hides C G) := fun b o q => by
      obtain ⟨l, q2⟩ := hides_some (sm b o q)
      rw [hides_not l]
      exact gr.gg _ _ q2
    have at_ : At K z (hides C G) (hides C H) σ (hides C H) (hides C G) lenv := ⟨.refl vh, vh, en.same smG, ⟨fun i ds e => (no i ds e).elim, fun i j ds es p _ e => (no i ds e).elim⟩⟩
    exact hT i (Jx.hide htb winG gr.vw hE) at_ _ ((mb i lenv).mono (fun d q => vq_hide htb winG gr.vw q) (fun _ q => q) hm)
/-- x(e), where e is a lambda of X's frame and x a def that asks it -/
theorem ev_ask (htb : z.bg.tb = []) (hlm : ∀ i f c t, z.bg.lm.ho i f c t = lamO X (ls i) f c t) (hdu : ∀ i, z.bg.lm.du i = (ls i).du) (hq : z.bg.lm.q = X.env.qual ++ "<lambda>") (win : Within C J.G0) (sm : Same Gw (hides C J.G0)) (en : EnvD Y.K z Gw σ lenv) (no : noOwn lenv)
    (hconv : Conv Y.K z TT conv) (hT : ∀ i (J' : Jx Y.K z), At Y.K z J'.G0 J'.H0 σ J'.H0 J'.G0 lenv → ∀ Q, (mb i lenv).wp (VQ Y.K z J'.G0 J'.H0 Q) J'.xQ → tb i J'.E σ J'.H0 Q)
    (F : FnOk Y.prog Y.w Y.K Y.mg Y.base C8.CX0 k g fd [a] (spAsk X σ C ls tb TT)) (hr : Room k Y.A) (hg : Gl Y x) (hm : Y.mg x = some (.ref g)) (hk : PySem.W.keepIn Y.K (.ref g) = true) (hb : L2.Binds Y.K fd [a] []) (ha : AV Y J [e] ms)
    (hdb : (x == ("__debug__" : Str)) = false := by decide) (he : starEach [e] Y.env = (false, eval e Y.env) :: starEach [] Y.env := by rfl) (hpl : (backTo pos (starEach [] Y.env)).any (·.1) = false := by rfl) :
    EV Y J (.Call (.Name x p) [e] [] pos) (fun env => W.bind (ms env) (one1 (askW conv fun i => mb i lenv))) := by
  obtain ⟨ts, pa, qs⟩ := ha
  refine ⟨_, pe_call F hr hg hm hk hb .nil pass0 pa hdb he hpl, fun σ' H G env Q at_ h => ?_⟩
  refine qs σ' H G env _ at_ ((ms env).mono (fun ds h1 vs H1 G1 g1 d1 => ?_) (fun _ q => q) h)
  show spAsk X σ C ls tb TT (vs ++ []) H1 Q _
  rw [List.append_nil]
  obtain ⟨v, d, rfl, rfl, dv, h2⟩ := one1_wp d1 h1
  cases d with
  | lam i => exact ask_sp htb hlm hdu hq win sm en no hconv hT (at_.gr.trans g1) dv ((conv (mb i lenv)).mono (VQ.grow g1) (fun _ q => q) h2)
  | _ => exact h2.elim
end
end Rg

set_option Elab.async false
set_option linter.all false
set_option maxRecDepth 100000
set_option maxHeartbeats 4500000
/-! the cells of a frame, as they stand -/
namespace Rg
open PySem PySem.Spec PyProof.Rows LamX L2
def cellsOf (X : Cx) (h : Heap) : Cs := X.N.filterMap fun y => (X.env.cells.lookup y).bind fun c => (h.get? c).map fun o => (c, o)
theorem lk_mem {α : Type} {c : Addr} {o : α} : ∀ {l : List (Addr × α)}, l.lookup c = some o → (c, o) ∈ l
  | (d, p) :: r, h => by
    rw [List.lookup_cons] at h
    cases e : c == d with
    | true =>
      rw [e] at h
      cases h
      rw [eq_of_beq e]
      exact List.mem_cons_self
    | false =>
      rw [e] at h
      exact List.mem_cons_of_mem _ (lk_mem h)
theorem mem_lk {α : Type} {c : Addr} {o : α} : ∀ {l : List (Addr × α)}, (c, o) ∈ l → ∃ o', l.lookup c = some o'
  | (d, p) :: r, h => by
    rw [List.lookup_cons]
    cases e : c == d with
    | true => exact ⟨p, rfl⟩
    | false =>
      rcases List.mem_cons.mp h with q1 | q2
      · cases q1
        rw [beq_self_eq_true] at e
        cases e
      · exact mem_lk q2
section
variable {X : Cx} {pins : List (Addr × Obj)} {σ : L2.St} {H : Hp} {s : Shared} {h : Heap} {c : Addr} {o : Obj}
theorem cells_get (e : (cellsOf X h).lookup c = some o) : ∃ y ∈ X.N, X.env.cells.lookup y = some c ∧ h.get? c = some o := by
  obtain ⟨y, hy, q⟩ := List.mem_filterMap.mp (lk_mem e)
  obtain ⟨c', e1, q⟩ := Option.bind_eq_some_iff.mp q
  obtain ⟨o', e2, q⟩ := Option.map_eq_some_iff.mp q
  cases q
  exact ⟨y, hy, e1, e2⟩
theorem cells_has {y : Str} (hy : y ∈ X.N) (e1 : X.env.cells.lookup y = some c) (e2 : h.get? c = some o) : (cellsOf X h).lookup c = some o := by
  have mem : (c, o) ∈ cellsOf X h := List.mem_filterMap.mpr ⟨y, hy, by rw [e1, Option.bind_some, e2]; rfl⟩
  obtain ⟨o', l⟩ := mem_lk mem
  obtain ⟨_, _, _, q⟩ := cells_get l
  rw [e2] at q
  cases q
  exact l
theorem cells_beside (I : Inv X pins σ H s) : Beside (cellsOf X s.heap) H s.heap := fun b o e => by
  obtain ⟨y, _, e1, e2⟩ := cells_get e
  exact ⟨e2, I.freeC y b e1⟩
theorem cells_hold {scope : Scope} (I : Inv X pins σ H s) (L : LamN X.N X.env.scope scope) (inN : ∀ y, (y, NameKind.free) ∈ scope.names → y ∈ X.N) : HoldC X scope σ (cellsOf X s.heap) := by
  refine ⟨fun y c m e => ?_, fun i y v c a b m e => ?_, fun c o l => ?_⟩
  · obtain ⟨v, o, e2, d⟩ := I.cell y c e
    exact ⟨o, v, cells_has (inN y m) e e2, d⟩
  · obtain ⟨m1, names, at_⟩ := I.loc
    have vis : Vis X.env.scope y := (L.free _ m rfl).elim (fun k => .inr (.inl k)) (fun k => .inr (.inr k))
    obtain ⟨u, r, look⟩ := at_ i y v a b vis
    rcases look with ⟨k, _⟩ | ⟨_, c2, e2, o, e3, d⟩
    · have loc : X.env.scope.names.lookup y = some .local := k
      rcases L.free _ m rfl with z | z <;> rw [show X.env.scope.names.lookup y = _ from z] at loc <;> cases loc
    · rw [e] at e2
      cases e2
      exact ⟨o, u, cells_has (inN y m) e e3, d, r⟩
  · obtain ⟨y, _, e1, e2⟩ := cells_get l
    obtain ⟨v, o', e3, d⟩ := I.cell y c e1
    rw [e2] at e3
    cases e3
    exact ⟨v, d⟩
theorem cells_away (I : Inv X pins σ H s) (late : ∀ y c, X.env.cells.lookup y = some c → X.s_0.heap.objs.size ≤ c) : ∀ b o, (cellsOf X s.heap).lookup b = some o → X.base.get? b = none ∧ b ∉ frs X.stack := fun b o l => by
  obtain ⟨y, _, e1, e2⟩ := cells_get l
  obtain ⟨v, o', e3, d⟩ := I.cell y b e1
  have big := late y b e1
  have notOuter : b ∉ frs X.outer := fun z => by
    obtain ⟨_, o2, q, _⟩ := I.ok.funs.mem z
    exact Nat.lt_irrefl _ (Nat.lt_of_lt_of_le (Heap.lt_size q) big)
  refine ⟨?_, fun z => ?_⟩
  · cases q : X.base.get? b with
    | none => rfl
    | some o2 => exact (Nat.lt_irrefl _ (Nat.lt_of_lt_of_le (Heap.lt_size q) (Nat.le_trans I.ok.bsz big))).elim
  · rcases I.ok.stk with q | ⟨q, fr⟩
    · rw [q] at z
      exact notOuter z
    · rw [q] at z
      obtain ⟨env, hm, he⟩ := List.mem_filterMap.mp z
      rcases List.mem_cons.mp hm with rfl | far
      · rw [fr] at he
        cases he
        obtain ⟨m1, ⟨ob, es, ep, q1, q2⟩, _⟩ := I.loc
        rw [e3] at q1
        cases q1
        obtain ⟨q3, q4, _⟩ := q2
        rw [d] at q3
        cases q3
      · exact notOuter (List.mem_filterMap.mpr ⟨env, far, he⟩)
end
end Rg

set_option Elab.async false
set_option linter.all false
set_option maxRecDepth 100000
set_option maxHeartbeats 4500000
/-! a def called while the frame's cells are shown -/
namespace Rg
open PySem PySem.Spec PyProof.Rows LamX L2
section
variable {X : Cx} {ls : Nat → LamT}
/-- x(e), read: for all cells that hold what the lambdas read -/
def tShown (X : Cx) (ls : Nat → LamT) (sp : L2.St → Cs → Sp) (te : TE) : TE := fun σ H Q => te σ H fun v H1 => ∀ C : Cs, (∀ i, HoldC X (ls i).scope σ C) → Off C H1 → sp σ C [v] (shows C H1) (fun u H' => Within C H' ∧ Q u (hides C H')) (fun _ _ _ => False)
theorem pe_shown {sp : L2.St → Cs → Sp} {te : TE} {x a : Str} {g : Addr} {k : Nat} {fd : FuncData} {e : Expr} {p pos : Pos} (F : ∀ σ C, X.Ok → σ.length = X.N.length → (∀ i, HoldC X (ls i).scope σ C) → FnOk X.prog X.w X.K X.mg X.base C8.CX0 k g fd [a] (sp σ C))
    (hr : Room k X.A) (hg : Gl X x) (hm : X.mg x = some (.ref g)) (hk : PySem.W.keepIn X.K (.ref g) = true) (hb : L2.Binds X.K fd [a] []) (hL : ∀ i, LamN X.N X.env.scope (ls i).scope) (inN : ∀ i y, (y, NameKind.free) ∈ (ls i).scope.names → y ∈ X.N)
    (late : ∀ y c, X.env.cells.lookup y = some c → X.s_0.heap.objs.size ≤ c) (he : PE X e te) (hdb : (x == ("__debug__" : Str)) = false := by decide) (hs : starEach [e] X.env = (false, eval e X.env) :: starEach [] X.env := by rfl) :
    PE X (.Call (.Name x p) [e] [] pos) (tShown X ls sp te) := by
  refine ⟨fun pins s σ H Q I ask => wpAny_Call_Name_kw (ld_glob I hg hm (PySem.W.callWith_K (h₀ := X.base) I.ok.mod.kin hk ?_ hs (by rfl)) hdb)⟩
  · rw [hs]
    show wpAny _ X.A (spliced ((false, eval e X.env) :: backTo pos (starEach [] X.env))) _ _ s
    refine Calls.spliced_cons (thn (he.run pins s σ H _ I ask) fun u s1 ⟨v, H1, I1, r1, q1⟩ => Calls.spliced_nil ⟨I1.kIn, ?_⟩)
    have hc : ∀ i, HoldC X (ls i).scope σ (cellsOf X s1.heap) := fun i => cells_hold I1 (hL i) (inN i)
    have beside := cells_beside I1
    refine wpAny_call (codeAny_mono ((F σ _ I1.ok I1.len hc).run X.A X.stack s1 (shows (cellsOf X s1.heap) H1) ⟨[u], []⟩ [u] [v] (fun w H' => Within (cellsOf X s1.heap) H' ∧ Q w (hides (cellsOf X s1.heap) H')) (fun _ _ _ => False) hr (env0_shows I1.env0 beside (cells_away I1 late)) (hb s1 [u] I1.kIn rfl) (.cons r1 .nil) (q1 _ hc beside.off)) fun r s2 hq => ?_)
    match r, hq with
    | .ok (.ret w), hq => exact I1.after (ce_hide beside hq)
end
end Rg

set_option Elab.async false
set_option linter.all false
set_option maxRecDepth 100000
set_option maxHeartbeats 4500000
/-! the rules by data: a def that is called while cells are shown -/
namespace Rg
open PySem PySem.Spec PyProof.Rows LamX L2
/-- what is promised of such a def -/
def spShown (K : PySem.W.Frag) (z : Zk) (Gw : Hp) (m : List D → W D) (C : Cs) : Sp := fun vs H Q _ => ∃ (G : Hp) (ds : List D), Vw z G H ∧ Within C G ∧ Same Gw (hides C G) ∧ Dens K z G vs ds ∧ ds.length = 1 ∧ (m ds).wp (VQ K z G H Q) (fun _ => False)
section
variable {P : Program} {w : World} {K : PySem.W.Frag} {mg : Str → Option Value} {base : Heap} {z : Zk} {C : Cs} {Gw : Hp}
theorem fn_shown {x qual : Str} {st : Stmt} {f : Addr} {fd : FuncData} {N ps : List Str} {k : Nat} {mb : Ev → W Fl} (F : Fun K x qual st f fd) (S : FnScope N ps (defScope st)) (one : ps.length = 1)
    (body : ∀ (cdv : Value) (A : Around) (outer : List Env) (s : Shared) (H : Hp) (E : XK) (G : Hp), Room k (A.deeper (envOfC qual (defScope st) s.heap.objs.size f cdv)) → Within C G → Same Gw (hides C G) →
      SVs (cxOf L2.CX0 P w K mg base N qual (defScope st) f cdv A outer s H E).nox (Jx.calm (z := z) G H) (defBody st) mb) : FnOk P w K mg base L2.CX0 (k + 1) f fd ps (spShown K z Gw (runF N.length mb) C) := by
  refine F.ok S (fun vs H Q E h => ?_) (fun cdv A outer s H vs Q E hr h => ?_)
  · obtain ⟨G, ds, _, _, _, h1, h2, _⟩ := h
    rw [h1.len, h2, one]
  · obtain ⟨G, ds, vw, win, sm, hd, _, h⟩ := h
    obtain ⟨t, pt, qt⟩ := body cdv A outer s H E G hr win sm
    refine ⟨t, pt, qt (L2.start N vs) H G (startE N.length ds) _ ⟨.refl vw, vw, start_en hd, ⟨fun i ds e => (startE_nomut hd.nomut e).elim, fun i j ds es p _ e => (startE_nomut hd.nomut e).elim⟩⟩ ((mb _).mono (fun fl h1 => ?_) (fun _ q => q) h)⟩
    cases fl with
    | nx env => exact fun σ H' G' at' _ => h1 .non H' G' at'.gr .non
    | rt d => exact fun v H' G' g dv => h1 v H' G' g dv
    | bk _ => exact h1.elim
    | ct _ => exact h1.elim
end
end Rg

set_option Elab.async false
set_option linter.all false
set_option maxRecDepth 100000
set_option maxHeartbeats 4500000
/-! the rules by data: x(e), where x asks lambdas of this frame -/
namespace Rg
open PySem PySem.Spec PyProof.Rows LamX L2
mutual
/-- no lambda in it -/
def noLam : D → Bool
  | .lam _ => false
  | .lst xs => noLams xs
  | .tup xs => noLams xs
  | .ins _ fs => noLamF fs
  | _ => true
def noLams : List D → Bool
  | [] => true
  | x :: r => noLam x && noLams r
def noLamF : List (Str × D) → Bool
  | [] => true
  | x :: r => noLam x.2 && noLamF r
end
section
variable {K : PySem.W.Frag} {z : Zk} {C : Cs} {G G' H H' : Hp}
mutual
theorem den_hide (win : Within C G) {v : V} {d : D} (n : noLam d = true) (h : Den K z G v d) : Den K z (hides C G) v d := by
  cases h with
  | non => exact .non
  | bl b => exact .bl b
  | int i => exact .int i
  | str x l m => exact .str x l m
  | lst q r l =>
    rw [noLam] at n
    exact .lst (by rw [hides_not (win.other q fun _ e => nomatch e)]; exact q) (dens_hide win n r) l
  | tup q r l =>
    rw [noLam] at n
    refine .tup ?_ (dens_hide win n r) l
    rcases q with q | q
    · exact .inl (by rw [hides_not (win.other q fun _ e => nomatch e)]; exact q)
    · exact .inr q
  | ins c g r =>
    rw [noLam] at n
    exact .ins c (by rw [hides_not (win.other g fun _ e => nomatch e)]; exact g) (denF_hide win n r)
  | bag q => exact .bag q
  | ty m => exact .ty m
  | cls q => exact .cls q
  | lam q r d => cases n
theorem dens_hide (win : Within C G) {vs : List V} {ds : List D} (n : noLams ds = true) (h : Dens K z G vs ds) : Dens K z (hides C G) vs ds := by
  cases h with
  | nil => exact .nil
  | cons q r =>
    rw [noLams] at n
    obtain ⟨n1, n2⟩ := Bool.and_eq_true_iff.mp n
    exact .cons (den_hide win n1 q) (dens_hide win n2 r)
theorem denF_hide (win : Within C G) {vs : List (Str × V)} {ds : List (Str × D)} (n : noLamF ds = true) (h : DenF K z G vs ds) : DenF K z (hides C G) vs ds := by
  cases h with
  | nil => exact .nil
  | cons q r =>
    rw [noLamF] at n
    obtain ⟨n1, n2⟩ := Bool.and_eq_true_iff.mp n
    exact .cons (den_hide win n1 q) (denF_hide win n2 r)
end
theorem vw_show (htb : z.bg.tb = []) (off : Off C H) (v : Vw z G H) : Vw z (shows C G) (shows C H) := by
  have offG := off.down v.sub
  refine ⟨fun a o e => ?_, fun B Lb e => ?_, ⟨fun p hp => ?_, fun p hp => ?_⟩⟩
  · cases l : C.lookup a with
    | none =>
      rw [shows_not l] at e ⊢
      exact v.sub a o e
    | some o' =>
      rw [shows_in l] at e ⊢
      exact e
  · obtain ⟨k, k1, k2⟩ := v.bag B Lb e
    have out : ∀ b u, H b = some u → C.lookup b = none := fun b u q => by
      cases l : C.lookup b with
      | none => rfl
      | some o => rw [off b o l] at q; cases q
    have k' := k
    obtain ⟨ns, i, d, s, h1, h2, _⟩ := k'
    exact ⟨k.same off.same, by rw [shows_not (out _ _ h1)]; exact k1, by rw [shows_not (out _ _ h2)]; exact k2⟩
  · rw [htb] at hp
    cases hp
  · rw [htb] at hp
    cases hp
theorem grow_hide (htb : z.bg.tb = []) (off : Off C H) (v : Vw z G H) (g : Grow z (shows C G) (shows C H) G' H') : Within C G' ∧ Grow z G H (hides C G') (hides C H') := by
  have offG := off.down v.sub
  have win : Within C G' := fun b o l => g.gg _ _ (shows_in l)
  have out : ∀ b u, H b = some u → C.lookup b = none := fun b u q => by
    cases l : C.lookup b with
    | none => rfl
    | some o => rw [off b o l] at q; cases q
  refine ⟨win, fun a o n e => ?_, fun a o e => ?_, fun a o e nx n => ?_, vw_hide htb win g.vw⟩
  · rw [hides_not (out a o e)]
    exact g.fr a o n (off.same _ _ e)
  · rw [hides_not (out a o (v.sub _ _ e))]
    exact g.gg a o (offG.same _ _ e)
  · have l := out a o e
    rw [hides_not l]
    exact g.ap a o (off.same _ _ e) nx (by rw [shows_not l]; exact n)
end
theorem fn_ex {ι : Type} {P : Program} {w : World} {K : PySem.W.Frag} {mg : Str → Option Value} {base : Heap} {CX : CXT} {k : Nat} {f : Addr} {fd : FuncData} {ps : List Str} {p : ι → Prop} {sp : ι → Sp} (F : ∀ i, p i → FnOk P w K mg base CX k f fd ps (sp i)) : FnOk P w K mg base CX k f fd ps (fun vs H Q E => ∃ i, p i ∧ sp i vs H Q E) :=
  ⟨fun vs H Q E ⟨i, pi, q⟩ => (F i pi).len vs H Q E q, fun A outer s H args us vs Q E hr e0 hb r ⟨i, pi, q⟩ => (F i pi).run A outer s H args us vs Q E hr e0 hb r q⟩
section
variable {X : Cx} {z : Zk} {J : Jx X.K z} {ls : Nat → LamT} {e : Expr} {ma : Ev → W D} {p pos : Pos}
/-- what is promised of a def that asks this frame's lambdas: for any data in the slots -/
def spAsks (K : PySem.W.Frag) (z : Zk) (m : Ev → List D → W D) (σ : L2.St) (C : Cs) : Sp := fun vs H Q E => ∃ i : Ev × Hp, (EnvD K z i.2 σ i.1 ∧ noOwn i.1) ∧ spShown K z i.2 (m i.1) C vs H Q E
/-- x(e) -/
theorem ev_asks {m : Ev → List D → W D} {x a : Str} {g : Addr} {k : Nat} {fd : FuncData} (F : ∀ σ C env Gw, X.Ok → σ.length = X.N.length → (∀ i, HoldC X (ls i).scope σ C) → EnvD X.K z.low Gw σ env → noOwn env → FnOk X.prog X.w X.K X.mg X.base C8.CX0 k g fd [a] (spShown X.K z.low Gw (m env) C))
    (hr : Room k X.A) (hg : Gl X x) (hm : X.mg x = some (.ref g)) (hk : PySem.W.keepIn X.K (.ref g) = true) (hb : L2.Binds X.K fd [a] []) (hL : ∀ i, LamN X.N X.env.scope (ls i).scope) (inN : ∀ i y, (y, NameKind.free) ∈ (ls i).scope.names → y ∈ X.N)
    (late : ∀ y c, X.env.cells.lookup y = some c → X.s_0.heap.objs.size ≤ c) (he : EV X J e ma) (hdb : (x == ("__debug__" : Str)) = false := by decide) (hs : starEach [e] X.env = (false, eval e X.env) :: starEach [] X.env := by rfl) :
    EV X J (.Call (.Name x p) [e] [] pos) (fun env => W.bind (ma env) fun d => W.bind (W.need (noOwn env)) fun _ => W.bind (W.noX (m env [d])) fun r => W.bind (W.need (noLam r = true)) fun _ => W.pure r) := by
  obtain ⟨te, pe, qe⟩ := he
  refine ⟨_, pe_shown (ls := ls) (sp := spAsks X.K z.low m) (fun σ C ok len hc => fn_ex fun i hi => F σ C i.1 i.2 ok len hc hi.1 hi.2) hr hg hm hk hb hL inN late pe hdb hs, fun σ H G env Q at_ h => ?_⟩
  refine qe σ H G env _ at_ ((ma env).mono (fun d h1 v H1 G1 g1 dv C hc off => ?_) (fun _ q => q) h)
  obtain ⟨no, h1⟩ := h1
  have vw := g1.vw.low
  have offG : Off C G1 := off.down vw.sub
  have en : EnvD X.K z.low G1 σ env := ⟨at_.en.1, fun i d q mu => by
    obtain ⟨v, s1, s2⟩ := at_.en.2 i d q mu
    exact ⟨v, s1, (s2.same g1.gg).low⟩⟩
  have sm : Same G1 (hides C (shows C G1)) := fun b o q => by
    cases l : C.lookup b with
    | none => rw [hides_not l, shows_not l]; exact q
    | some o' => rw [offG b o' l] at q; cases q
  refine ⟨(env, G1), ⟨en, no⟩, shows C G1, [d], vw_show rfl off vw, shows_within, sm, .one (dv.low.same offG.same), rfl, (m env [d]).mono (fun r q u H' G' g' du => ?_) (fun _ q => q) h1⟩
  obtain ⟨nl, q⟩ := q
  obtain ⟨win, g2⟩ := grow_hide rfl off vw g'
  exact ⟨win.up g'.vw.sub, q u _ _ (g1.trans (g2.up g1.vw)) (den_hide win nl du).up⟩
end
end Rg

set_option Elab.async false
set_option linter.all false
set_option maxRecDepth 100000
set_option maxHeartbeats 4500000
/-! a lambda is made and laid into the view: by data it is its number -/
namespace Rg
open PySem PySem.Spec PyProof.Rows LamX L2
section
variable {X : Cx} {H : Hp} {s : Shared} {pins : List (Addr × Obj)} {σ : L2.St}
theorem lam_lay {T : List (Addr × Str)} {c P t : Addr} {l : LamT} {pos : Pos} {line : Nat} {E : Value → Shared → Prop} {Q : Value → Shared → Prop} (I : Inv X pins σ H s) (TB : TabB X.base X.mg c P) (hcode : X.env.code = .ref c)
    (inT : (P, X.env.qual ++ "<lambda>") ∈ T) (one : ∀ p ∈ T, p.1 = P → p.2 = X.env.qual ++ "<lambda>") (tabs : Tabs T H) (caught : ∀ y ∈ l.scope.names, y.2 = .free → ∃ c, X.env.cells.lookup y.1 = some c)
    (fin : ∀ (f c' : Addr) (H1 : Hp) (s' : Shared), Inv X pins σ (upd H1 f (lamO X l f c' t)) s' → ButP P H H1 → Tabs T H1 → H1 f = none → H1 c' = some (CodeO c' (X.env.qual ++ "<lambda>")) → Q (.ref f) s') :
    wpAny (model X.prog X.w) X.A (makeTail "<lambda>" (X.env.qual ++ "<lambda>") l.params (.expr l.body) l.scope X.env (l.dv t) .none none pos line) Q E s := by
  obtain ⟨rows, atP, good, told⟩ := tabs _ inT
  have bmP := TB.bm.keeps I.bk
  have objP : s.heap.get? P = some { cls := .none, data := .fields rows } := I.hok P _ atP
  cases here : codeAmong pos rows.toList with
  | some cv =>
    obtain ⟨c', rfl, kept⟩ := told pos cv here
    refine PySem.W.kdv_makeTailHit (mg := X.mg) (c := c) (P := P) (ps := rows) (closure_ok caught) I.ok.glob (I.mod.glob.keeps I.bk) hcode (TB.code.keeps I.bk) objP good here bmP fun ctv doc h' tk grown larger => ?_
    exact fin h'.objs.size c' H _ (I.laid (fun b o e => Heap.get?_push_of_some _ (grown b o e)) larger (lamO_ok (Heap.get?_push_size _ rfl))) (fun _ _ _ e => e) tabs (I.hok.fresh larger) kept
  | none =>
    refine PySem.W.kdv_makeTail (mg := X.mg) (c := c) (P := P) (ps := rows) (closure_ok caught) I.ok.glob (I.mod.glob.keeps I.bk) hcode (TB.code.keeps I.bk) objP good here TB.gP bmP fun c' ctv doc h' tk grown newc below rec tab => ?_
    obtain ⟨c2, oc, vs, tq, same, atc, dat, nm⟩ := rec
    cases same
    have more : s.heap.objs.size ≤ h'.objs.size := Nat.le_trans newc (Nat.le_of_lt below)
    have freeC : H c' = none := I.hok.fresh newc
    have nPc : P ≠ c' := ne_of_none atP freeC
    have J := inv_table (t' := tk) (more := #[rawInt pos.line, rawInt pos.col, .ref c']) (h' := h') I atP grown tab newc ⟨oc, vs, tq, atc, dat, nm⟩
    have but : ButP P H (upd (upd H P (.tbl (rows ++ #[rawInt pos.line, rawInt pos.col, .ref c']))) c' (CodeO c' (X.env.qual ++ "<lambda>"))) := fun b o nb e => by
      rw [upd_ne (ne_of_none e freeC), upd_ne nb]
      exact e
    have asList : (rows ++ #[rawInt pos.line, rawInt pos.col, .ref c']).toList = rows.toList ++ [rawInt pos.line, rawInt pos.col, .ref c'] := by simp
    have notbl : ∀ {c0 : Addr} {q0 : Str}, H c0 = some (CodeO c0 q0) → c0 ≠ P := fun {c0 q0} e z => by
      rw [z, atP] at e
      exact nomatch (Option.some.inj e)
    refine fin h'.objs.size c' _ _ (J.laid (t' := tk) (fun b o e => Heap.get?_push_of_some _ e) (Nat.le_refl _) (lamO_ok (Heap.get?_push_size _ rfl))) but (fun p hp => ?_) ?_ upd_same
    · by_cases eP : p.1 = P
      · rw [one p hp eP, eP]
        refine ⟨_, by rw [upd_ne nPc, upd_same], by rw [asList]; exact PySem.TriplesOk_snoc _ _ _ _ good, fun p' cv hcv => ?_⟩
        rw [asList] at hcv
        rcases among_app _ good hcv with z | z
        · obtain ⟨c0, e1, e2⟩ := told p' cv z
          exact ⟨c0, e1, but _ _ (notbl e2) e2⟩
        · exact ⟨c', z, upd_same⟩
      · obtain ⟨ps', a1, a2, a3⟩ := tabs p hp
        refine ⟨ps', but _ _ eP a1, a2, fun p' cv hcv => ?_⟩
        obtain ⟨cd, e1, e2⟩ := a3 p' cv hcv
        exact ⟨cd, e1, but _ _ (notbl e2) e2⟩
    · rw [upd_ne (Nat.ne_of_gt below), upd_ne (Nat.ne_of_gt (Nat.lt_of_lt_of_le (Heap.lt_size objP) more))]
      exact I.hok.fresh more
/-- it has no default, or one that is a number -/
def LamT.plain (X : Cx) (l : LamT) : Prop := (l.du = false ∧ defaultsOf l.params X.env = ([], [])) ∨ (l.du = true ∧ ∃ i j p, l.params.defaults = [.Constant (.int i) j p] ∧ l.params.kw_defaults = [])
/-- a lambda, read -/
def tLay (X : Cx) (T : List (Addr × Str)) (P : Addr) (l : LamT) : TE := fun _ H Q => Tabs T H ∧ ∀ (H0 H1 : Hp) (t f c : Addr), (l.du = false → H0 = H) → (l.du = true → H t = none ∧ H0 = upd H t (DefO t)) → ButP P H0 H1 → Tabs T H1 → H1 f = none → H1 c = some (CodeO c (X.env.qual ++ "<lambda>")) → Q (.ref f) (upd H1 f (lamO X l f c t))
theorem pe_lay {T : List (Addr × Str)} {c P : Addr} {l : LamT} {pos : Pos} (TB : TabB X.base X.mg c P) (hcode : X.env.code = .ref c) (inT : (P, X.env.qual ++ "<lambda>") ∈ T) (one : ∀ p ∈ T, p.1 = P → p.2 = X.env.qual ++ "<lambda>") (L : LamN X.N X.env.scope l.scope) (hp : l.plain X) :
    PE X (.Lambda l.params l.body l.scope pos) (tLay X T P l) := by
  refine ⟨fun pins s σ H Q I ask => ?_⟩
  obtain ⟨tabs, ask⟩ := ask
  rcases hp with ⟨du, nodef⟩ | ⟨du, i, j, p, df, kw⟩
  · refine PySem.W.kla_eval nodef ?_
    rw [makeFunction_eq]
    simp only [List.isEmpty_nil, List.filterMap_nil, List.zip_nil_right, if_true, pure_bind]
    have dv : l.dv 0 = .none := by
      unfold LamT.dv
      rw [du]
      rfl
    have r := lam_lay (Q := EP X pins σ Q) (E := X.xe) (t := 0) (l := l) (pos := pos) (line := pos.line) I TB hcode inT one tabs (L.has I.ok) fun f c' H1 s' I1 but t1 nf hc => ⟨.ref f, _, I1, rfl, ask H H1 0 f c' (fun _ => rfl) (fun e => by rw [du] at e; cases e) but t1 nf hc⟩
    rw [dv] at r
    exact r
  · refine PySem.W.kdv_lam (by rw [df]; rfl) kw ?_
    rw [df]
    refine PySem.W.kdv_all1 (thn ((pe_int (i := i) (j := j) (pos := p)).run pins s σ H (fun v H1 => H1 = H) I rfl) fun u s1 ⟨v, H1, I1, r1, q1⟩ => PySem.W.kdv_all0 ?_)
    cases q1
    rw [makeFunction_eq]
    simp only [List.zip_nil_right, List.filterMap_nil, List.isEmpty_nil, List.isEmpty_cons, Bool.false_eq_true, if_true, if_false, pure_bind]
    refine wpAny_bind ?_
    refine wpAny_newTextTuple ?_
    have dv : l.dv s1.heap.objs.size = .ref s1.heap.objs.size := by
      unfold LamT.dv
      rw [du]
      rfl
    have nt : H s1.heap.objs.size = none := I1.hok.fresh (Nat.le_refl _)
    have I2 := I1.laid (t' := s1.toks) (o := DefO s1.heap.objs.size) (h' := s1.heap.push { cls := .type "tuple", data := .seq [u].toArray }) (fun b o e => Heap.get?_push_of_some _ e) (Nat.le_refl _) (defO_ok (Heap.get?_push_size _ rfl) rfl)
    have r := lam_lay (Q := EP X pins σ Q) (E := X.xe) (t := s1.heap.objs.size) (l := l) (pos := pos) (line := pos.line) I2 TB hcode inT one (tabs.ext (same_new nt)) (L.has I.ok) fun f c' H1 s' I3 but t1 nf hc => ⟨.ref f, _, I3, rfl, ask _ H1 _ f c' (fun e => by rw [du] at e; cases e) (fun _ => ⟨nt, rfl⟩) but t1 nf hc⟩
    rw [dv] at r
    exact r
end
/-- the lambda's function is shown, and its code -/
theorem Grow.lay {z : Zk} {G H H1 : Hp} {P f c : Addr} {q : Str} {o : HO} (htb : z.bg.tb = [(P, q)]) (v : Vw z G H) (but : ButP P H H1) (t1 : Tabs z.bg.tb H1) (nf : H1 f = none) (hc : H1 c = some (CodeO c q)) : Grow z G H (upd (upd G c (CodeO c q)) f o) (upd H1 f o) := by
  have inT : (P, q) ∈ z.bg.tb := by rw [htb]; exact List.mem_cons_self
  have gP := v.tab.2 _ inT
  obtain ⟨ps, hP, _⟩ := v.tab.1 _ inT
  obtain ⟨ps1, hP1, _⟩ := t1 _ inT
  have cP : c ≠ P := fun e => by
    rw [e, hP1] at hc
    exact nomatch (Option.some.inj hc)
  have fP : f ≠ P := fun e => by
    rw [e, hP1] at nf
    cases nf
  have nf0 : ∀ b u, b ≠ P → H b = some u → b ≠ f := fun b u e h1 h2 => by
    have := but b u e h1
    rw [h2, nf] at this
    cases this
  have lst : ∀ {b : Addr} {xs : List V}, H b = some (.lst xs) → b ≠ P ∧ b ≠ f ∧ b ≠ c ∧ H1 b = some (.lst xs) := fun {b xs} e => by
    have nP : b ≠ P := fun z => by rw [z, hP] at e; exact nomatch (Option.some.inj e)
    have e1 := but b _ nP e
    have nC : b ≠ c := fun z => by
      rw [z, hc] at e1
      exact (nomatch (Option.some.inj e1))
    exact ⟨nP, nf0 b _ nP e, nC, e1⟩
  have shown : ∀ b u, G b = some u → b ≠ P := fun b u e z => by
    rw [z, gP] at e
    cases e
  refine ⟨fun a u n h => ?_, fun a u h => ?_, fun a u h nx n => ?_, ⟨fun a u h => ?_, fun B L e => ?_, ⟨t1.ext (same_new nf), fun p hp => ?_⟩⟩⟩
  · have nP := n.2 _ inT
    rw [upd_ne (nf0 a u nP h)]
    exact but a u nP h
  · have nP := shown a u h
    have h2 := v.sub a u h
    rw [upd_ne (nf0 a u nP h2)]
    by_cases e : a = c
    · subst e
      rw [upd_same, ← hc]
      exact but _ u nP h2
    · rw [upd_ne e]
      exact h
  · have nb : z.bg.tb ≠ [] := by rw [htb]; exact List.cons_ne_nil _ _
    have nx : isX u = false := nx.resolve_left nb
    by_cases e : a = P
    · subst e
      rw [upd_ne fP.symm, upd_ne cP.symm]
      exact gP
    · rw [upd_ne (nf0 a u e h), upd_ne (fun e2 => by
        have e3 := but a u e h
        rw [e2, hc] at e3
        rw [← Option.some.inj e3] at nx
        cases nx)]
      exact n
  · by_cases e : a = f
    · subst e
      rw [upd_same] at h ⊢
      exact h
    · rw [upd_ne e] at h ⊢
      by_cases e2 : a = c
      · subst e2
        rw [upd_same] at h
        rw [hc]
        exact h
      · rw [upd_ne e2] at h
        exact but a u (shown a u h) (v.sub a u h)
  · obtain ⟨⟨ns, i, d, s, h1, h2, h3⟩, k1, k2⟩ := v.bag B L e
    obtain ⟨_, n1, n2, j1⟩ := lst h1
    obtain ⟨_, n3, n4, j2⟩ := lst h2
    exact ⟨⟨ns, i, d, s, by rw [upd_ne n1]; exact j1, by rw [upd_ne n3]; exact j2, h3⟩, by rw [upd_ne n1, upd_ne n2]; exact k1, by rw [upd_ne n3, upd_ne n4]; exact k2⟩
  · rw [htb] at hp
    rw [List.mem_singleton.mp hp, upd_ne fP.symm, upd_ne cP.symm]
    exact gP
section
variable {X : Cx} {z : Zk} {J : Jx X.K z}
/-- lambda: .., the i-th of this frame -/
theorem ev_lay {c P : Addr} {l : LamT} {i : Nat} {pos : Pos} (TB : TabB X.base X.mg c P) (hcode : X.env.code = .ref c) (htb : z.bg.tb = [(P, X.env.qual ++ "<lambda>")]) (L : LamN X.N X.env.scope l.scope) (hp : l.plain X)
    (hlm : ∀ f c t, z.bg.lm.ho i f c t = lamO X l f c t) (hdu : z.bg.lm.du i = l.du) (hq : z.bg.lm.q = X.env.qual ++ "<lambda>") : EV X J (.Lambda l.params l.body l.scope pos) (fun _ => W.pure (.lam i)) := by
  have inT : (P, X.env.qual ++ "<lambda>") ∈ z.bg.tb := by rw [htb]; exact List.mem_cons_self
  have one : ∀ p ∈ z.bg.tb, p.1 = P → p.2 = X.env.qual ++ "<lambda>" := fun p hp _ => by
    rw [htb] at hp
    rw [List.mem_singleton.mp hp]
  refine ⟨_, pe_lay (T := z.bg.tb) TB hcode inT one L hp, fun σ H G env Q at_ h => ⟨at_.gr.vw.tab.1, fun H0 H1 t f cd a0 a1 but t1 nf hc => ?_⟩⟩
  have vw := at_.gr.vw
  have key : ∃ G0, Grow z G H G0 H0 ∧ (l.du = true → G0 t = some (DefO t)) := by
    cases e : l.du with
    | false =>
      rw [a0 e]
      exact ⟨G, .refl vw, fun q => nomatch q⟩
    | true =>
      obtain ⟨nt, rfl⟩ := a1 e
      exact ⟨_, .new vw nt, fun _ => upd_same⟩
  obtain ⟨G0, g0, dt⟩ := key
  have g1 := Grow.lay (o := lamO X l f cd t) htb g0.vw but t1 nf hc
  have fc : cd ≠ f := ne_of_none hc nf
  refine h (.ref f) _ _ (g0.trans g1) (.lam (c := cd) (t := t) ?_ ?_ fun d => ?_)
  · rw [hlm]
    exact upd_same
  · rw [hq, upd_ne fc]
    exact upd_same
  · rw [hdu] at d
    exact g1.gg _ _ (dt d)
end
end Rg

set_option Elab.async false
set_option linter.all false
set_option maxRecDepth 100000
set_option maxHeartbeats 4500000
/-! lists of one's own that begin with something; defs that ask this frame's lambdas -/
namespace Rg
open PySem PySem.Spec PyProof.Rows LamX L2
section
variable {K : PySem.W.Frag} {z : Zk} {G0 H0 G H : Hp} {σ : L2.St} {env : Ev} {p : Addr} {vs : List V} {ds : List D}
theorem At.begin (a : At K z G0 H0 σ H G env) (i : Nat) (np : H p = none) (hd : Dens K z G vs ds) (hl : ds.length ≤ big) : At K z G0 H0 (σ.set i (some (.ref p))) (upd H p (.lst vs)) G (env.set i (some (.own ds))) := by
  have g1 : Grow z G H G (upd H p (.lst vs)) := .hid a.gr.vw np
  have n0 : H0 p = none := by
    cases e : H0 p with
    | none => rfl
    | some o =>
      obtain ⟨o', h'⟩ := a.gr.there e
      rw [np] at h'
      cases h'
  exact (a.grow g1).setOwn i upd_same (a.gr.vw.sub.free np) n0 hd hl fun j es c e s => by
    obtain ⟨p2, vs, h1, h2, _⟩ := a.mu.at_ j es e
    rw [h1] at s
    cases s
    rw [np] at h2
    cases h2
end
/-- two lists, one behind the other -/
def catD : D → D → W (List D)
  | .lst xs, .lst ys => W.bind (W.need (xs.length + ys.length ≤ big)) fun _ => W.pure (xs ++ ys)
  | _, _ => W.fail
section
variable {X : Cx} {z : Zk} {J : Jx X.K z} {a b : Expr} {es : List Expr} {ma mb : Ev → W D} {ms : Ev → W (List D)} {pos p' lp : Pos} {x : Str}
/-- x = [..] -/
theorem sv_ownLst (i : Nat) (hN : X.N.Nodup) (hi : X.N[i]? = some x) (hx : Loc X.env.scope x) (hes : AV X J es ms) (hs : swapsWith (.List es lp) (some (.Name x p')) pos.line X.env = pure false := by rfl) (hf : X.fn x = true ∨ X.env.scope.names.lookup x = some .local := by first | exact .inl rfl | exact .inr rfl) :
    SV X J (.Assign [.Name x p'] (.List es lp) pos) (fun env => W.bind (ms env) fun ds => W.bind (W.need (ds.length ≤ big)) fun _ => W.pure (.nx (env.set i (some (.own ds))))) := by
  obtain ⟨ts, ps, qs⟩ := hes
  refine ⟨_, ps_set hN hi hx (pe_lst ps) hs hf, fun σ H G env N at_ h => ?_⟩
  refine qs σ H G env _ at_ ((ms env).mono (fun ds h1 vs H1 G1 g1 d1 => ⟨by rw [d1.len]; exact Nat.le_trans h1.1 big_line, fun p np => ?_⟩) (fun _ q => q) h)
  exact h1.2 _ _ G1 ((at_.grow g1).begin i np d1 h1.1) g1.gg
/-- x = a + b, both lists -/
theorem sv_ownCat (i : Nat) (hN : X.N.Nodup) (hi : X.N[i]? = some x) (hx : Loc X.env.scope x) (ha : EV X J a ma) (hb : EV X J b mb) (hs : swapsWith (.BinOp a .Add b lp) (some (.Name x p')) pos.line X.env = pure false := by rfl) (hf : X.fn x = true ∨ X.env.scope.names.lookup x = some .local := by first | exact .inl rfl | exact .inr rfl) :
    SV X J (.Assign [.Name x p'] (.BinOp a .Add b lp) pos) (fun env => W.bind (ma env) fun d => W.bind (mb env) fun e => W.bind (catD d e) fun ds => W.pure (.nx (env.set i (some (.own ds))))) := by
  obtain ⟨ta, pa, qa⟩ := ha
  obtain ⟨tb, pb, qb⟩ := hb
  refine ⟨_, ps_set hN hi hx (pe_op op_cat pa pb) hs hf, fun σ H G env N at_ h => ?_⟩
  refine qa σ H G env _ at_ ((ma env).mono (fun d h1 v H1 G1 g1 d1 => ?_) (fun _ q => q) h)
  refine qb σ H1 G1 env _ (at_.grow g1) ((mb env).mono (fun e h2 u H2 G2 g2 d2 => ?_) (fun _ q => q) h1)
  have d1' := d1.same g2.gg
  cases d1' with
  | @lst l1 xs ds1 q1 r1 l1 =>
    cases d2 with
    | @lst l2 ys ds2 q2 r2 l2 =>
      have vw := g2.vw
      have sz := h2.1
      have e1 := r1.len
      have e2 := r2.len
      refine ⟨_, _, _, _, rfl, rfl, vw.sub _ _ q1, vw.sub _ _ q2, by rw [e1, e2]; exact Nat.le_trans sz big_line, fun p np => ?_⟩
      exact h2.2 _ _ G2 (((at_.grow g1).grow g2).begin i np (r1.app r2) (by rw [List.length_append]; exact sz)) (g1.gg.trans g2.gg)
    | _ => exact h2.elim
  | _ => exact h2.elim
end
theorem cells_from : ∀ {names : List (Str × NameKind)} {n : Nat} {acc : List (Str × Addr)} {x : Str} {c : Addr}, (x, c) ∈ cellsFrom n names acc → (x, c) ∈ acc ∨ n ≤ c
  | [], _, _, _, _, h => .inl h
  | (m, k) :: r, n, acc, x, c, hm => by
    unfold cellsFrom at hm
    split at hm
    · rcases cells_from hm with q | q
      · rcases List.mem_cons.mp q with e | q
        · cases e
          exact .inr (Nat.le_refl _)
        · exact .inl q
      · exact .inr (by omega)
    · exact cells_from hm
theorem cells_late {scope : Scope} {n : Nat} : ∀ y c, (cellsFrom (n + 1) scope.names []).lookup y = some c → n ≤ c := fun y c e => by
  rcases cells_from (PySem.mem_of_lookup e) with q | q
  · cases q
  · omega
/-- the lambdas of X's frame -/
def lmOf (X : Cx) (ls : Nat → LamT) : Lms := ⟨fun i f c t => lamO X (ls i) f c t, X.env.qual ++ "<lambda>", fun i => (ls i).du⟩
/-- the def x that is given one of them makes of it what conv tells -/
structure Asked (X : Cx) (z : Zk) (ls : Nat → LamT) (mb : Nat → Ev → W D) (k : Nat) (g : Addr) (fd : FuncData) (a : Str) (conv : W D → W D) : Prop where
  lm : z.bg.lm = lmOf X ls
  ex : ∃ (TT : (XK → Hp → VK → Prop) → Hp → VK → Prop) (tb : Nat → XK → TE), Conv X.K z.low TT conv ∧ (∀ σ C, X.Ok → σ.length = X.N.length → (∀ i, HoldC X (ls i).scope σ C) → FnOk X.prog X.w X.K X.mg X.base C8.CX0 k g fd [a] (spAsk X σ C ls tb TT)) ∧
    ∀ i σ lenv (J' : Jx X.K z.low), At X.K z.low J'.G0 J'.H0 σ J'.H0 J'.G0 lenv → ∀ Q, (mb i lenv).wp (VQ X.K z.low J'.G0 J'.H0 Q) J'.xQ → tb i J'.E σ J'.H0 Q
section
variable {X Y : Cx} {z : Zk} {ls : Nat → LamT} {mb : Nat → Ev → W D} {conv : W D → W D} {x a : Str} {g : Addr} {fd : FuncData} {k : Nat}
theorem asked_by {TT : (XK → Hp → VK → Prop) → Hp → VK → Prop} {st : Stmt} {Ng : List Str} (lm : z.bg.lm = lmOf X ls) (hc : Conv X.K z.low TT conv) (F : Fun X.K x x st g fd) (Sg : FnScope Ng [a] (defScope st)) (hNg : Ng[0]? = some a) (hva : Vis (defScope st) a)
    (hG : ∀ (A : Around) (outer : List Env) (cdv : Value), Room (k + 2) A → GivesTo { X with A := A, stack := outer } Ng x (defScope st) g cdv (defBody st) a (X.env.qual ++ "<lambda>") TT) (hL : ∀ i, LamN X.N X.env.scope (ls i).scope) (hbind : ∀ i, (ls i).binds X)
    (hbody : ∀ i (A : Around) (outer : List Env) (s : Shared) (H : Hp) (f c' : Addr) (J' : Jx X.K z.low), Room k (A.deeper (lamEnv X (ls i).scope s.heap.objs.size f c')) → Passes (L2.CX X.prog X.w) (lamCx X A outer s H J'.E (ls i).scope f c') J'.E → EV (lamCx X A outer s H J'.E (ls i).scope f c') (z := z.low) J' (ls i).body (mb i))
    (hpass : ∀ (A : Around) (outer : List Env) (s : Shared) (H : Hp) (E : XK) (scope : Scope) (f c' : Addr), Passes (L2.CX X.prog X.w) (lamCx X A outer s H E scope f c') E)
    (hd : (a == ("__debug__" : Str)) = false := by decide) (hcd : (a == ("__classdict__" : Str)) = false := by decide) : Asked X z ls mb (k + 2) g fd a conv := by
  refine ⟨lm, TT, fun i E σ H Q => ∃ J' : Jx X.K z.low, J'.E = E ∧ ∀ (A : Around) (outer : List Env) (s : Shared) (H0 : Hp) (f c' : Addr) (room : Room k (A.deeper (lamEnv X (ls i).scope s.heap.objs.size f c'))), (hbody i A outer s H0 f c' J' room (hpass A outer s H0 J'.E _ f c')).choose σ H Q, hc,
    fun σ C ok len hold => fn_ask F Sg hNg hva hG ok len hL hold hbind (fun i A outer s H0 E f c' room => ⟨fun pins s' σ H' Q I h => ?_⟩) hd hcd, fun i σ lenv J' at_ Q h => ⟨J', rfl, fun A outer s H0 f c' room => ?_⟩⟩
  · obtain ⟨J', rfl, h⟩ := h
    exact (hbody i A outer s H0 f c' J' room (hpass A outer s H0 J'.E _ f c')).choose_spec.1.run pins s' σ H' Q I (h A outer s H0 f c' room)
  · exact (hbody i A outer s H0 f c' J' room (hpass A outer s H0 J'.E _ f c')).choose_spec.2 σ J'.H0 J'.G0 lenv Q at_ h
/-- asked by the law itself -/
theorem Asked.shown (A : Asked X z ls mb k g fd a conv) : ∀ σ C env Gw, X.Ok → σ.length = X.N.length → (∀ i, HoldC X (ls i).scope σ C) → EnvD X.K z.low Gw σ env → noOwn env → FnOk X.prog X.w X.K X.mg X.base C8.CX0 k g fd [a] (spShown X.K z.low Gw (one1 (askW conv fun i => mb i env)) C) := by
  obtain ⟨lm, TT, tb, hc, F, hT⟩ := A
  intro σ C env Gw ok len hold en no
  have f := F σ C ok len hold
  refine ⟨fun vs H Q E h => ?_, fun A outer s H args us vs Q E hr e0 hb r h => f.run A outer s H args us vs Q E hr e0 hb r ?_⟩
  · obtain ⟨G, ds, _, _, _, h1, h2, _⟩ := h
    rw [h1.len, h2]
    rfl
  · obtain ⟨G, ds, vw, win, sm, hd, _, h⟩ := h
    obtain ⟨v, d, rfl, rfl, dv, h2⟩ := one1_wp hd h
    cases d with
    | lam i => exact ask_sp (z := z.low) rfl (fun i f c t => by show z.bg.lm.ho i f c t = _; rw [lm]; rfl) (fun i => by show z.bg.lm.du i = _; rw [lm]; rfl) (by show z.bg.lm.q = _; rw [lm]; rfl) win sm en no hc (fun i J' at_ Q => hT i σ env J' at_ Q) (.refl vw) dv h2
    | _ => exact h2.elim
end
section
variable {X Y : Cx} {z : Zk} {ls : Nat → LamT} {mb : Nat → Ev → W D} {conv : W D → W D} {x a : Str} {g : Addr} {fd : FuncData} {k : Nat} {C : Cs} {Gw : Hp} {σ : L2.St} {lenv : Ev} {e : Expr} {ms : Ev → W (List D)} {p pos : Pos}
/-- asked by a def that the law calls, while the law's cells are shown: x(e) -/
theorem Asked.ev (A : Asked X z ls mb k g fd a conv) {J : Jx Y.K z.low} (ok : X.Ok) (len : σ.length = X.N.length) (hold : ∀ i, HoldC X (ls i).scope σ C) (en : EnvD X.K z.low Gw σ lenv) (no : noOwn lenv) (win : Within C J.G0) (sm : Same Gw (hides C J.G0)) (hr : Room k Y.A) (hg : Gl Y x) (hm : Y.mg x = some (.ref g)) (hk : PySem.W.keepIn Y.K (.ref g) = true) (hb : L2.Binds Y.K fd [a] []) (ha : AV Y J [e] ms)
    (hdb : (x == ("__debug__" : Str)) = false := by decide) (he : starEach [e] Y.env = (false, eval e Y.env) :: starEach [] Y.env := by rfl) (hpl : (backTo pos (starEach [] Y.env)).any (·.1) = false := by rfl) (fP : Y.prog = X.prog := by rfl) (fw : Y.w = X.w := by rfl) (fK : Y.K = X.K := by rfl) (fm : Y.mg = X.mg := by rfl) (fb : Y.base = X.base := by rfl) :
    EV Y J (.Call (.Name x p) [e] [] pos) (fun env => W.bind (ms env) (one1 (askW conv fun i => mb i lenv))) := by
  obtain ⟨lm, TT, tb, hc, F, hT⟩ := A
  obtain ⟨Yp, Yw, YK, Ym, Yb, YA⟩ := Y
  cases fP
  cases fw
  cases fK
  cases fm
  cases fb
  exact ev_ask (X := X) (z := z.low) rfl (fun i f c t => by show z.bg.lm.ho i f c t = _; rw [lm]; rfl) (fun i => by show z.bg.lm.du i = _; rw [lm]; rfl) (by show z.bg.lm.q = _; rw [lm]; rfl) win sm en no hc (fun i J' at_ Q => hT i σ lenv J' at_ Q) (F σ C ok len hold) hr hg hm hk hb ha hdb he hpl
end
theorem freeN_by {N : List Str} {scope : Scope} (h : (scope.names.all fun y => !decide (y.2 = .free) || N.contains y.1) = true) : ∀ y, (y, NameKind.free) ∈ scope.names → y ∈ N := fun y hy => by
  have q : (!decide (NameKind.free = NameKind.free) || N.contains y) = true := List.all_eq_true.mp h _ hy
  rw [decide_eq_true rfl] at q
  exact List.contains_iff_mem.mp q
/-- a list, k times -/
def mulL : D → D → W D
  | .lst xs, .int k => W.bind (W.need (0 ≤ k ∧ k ≤ (big : Nat) ∧ xs.length * k.toNat ≤ big)) fun _ => W.pure (.lst (List.replicate k.toNat xs).flatten)
  | _, _ => W.fail
section
variable {X : Cx} {z : Zk} {J : Jx X.K z}
theorem dens_rep {K : PySem.W.Frag} {G : Hp} {xs : List V} {ds : List D} (h : Dens K z G xs ds) : ∀ n, Dens K z G (List.replicate n xs).flatten (List.replicate n ds).flatten
  | 0 => .nil
  | n + 1 => by
    rw [List.replicate_succ, List.flatten_cons, List.replicate_succ, List.flatten_cons]
    exact h.app (dens_rep h n)
theorem od_mulL : OpD X J (binaryOp .Mult) mulL := by
  refine ⟨rRep, op_rep, fun x y d e H G Q vw dx dy h => ?_⟩
  cases dx with
  | lst qa ra la =>
    cases dy with
    | int k =>
      obtain ⟨⟨k0, k1, sz⟩, h⟩ := h
      have b63 : ((big : Nat) : Int) < 2 ^ 63 := by decide
      have e1 := ra.len
      refine ⟨_, k, _, rfl, rfl, vw.sub _ _ qa, by omega, by omega, by rw [e1]; exact Nat.le_trans sz big_line, fun p np => ?_⟩
      refine h _ _ _ (.new vw np) (.lst upd_same ((dens_rep ra _).same (same_new (vw.sub.free np))) ?_)
      rw [List.length_flatten, List.map_replicate, List.sum_replicate_nat]
      rw [Nat.mul_comm]
      exact sz
    | _ => exact h.elim
  | _ => exact h.elim
end
/-! where a lambda stands in a def -/
def subS (s : Stmt) (j : Nat) : Stmt := match s with
  | .For (body := b) .. => b.getD j (.Pass ⟨0, 0, 0, 0⟩)
  | .If (body := b) .. => b.getD j (.Pass ⟨0, 0, 0, 0⟩)
  | _ => .Pass ⟨0, 0, 0, 0⟩
def noE : Expr := .Constant .none 0 ⟨0, 0, 0, 0⟩
def exS : Stmt → Expr
  | .Assign (value := v) .. => v
  | .Return (value := some v) .. => v
  | .If (test := v) .. => v
  | .Expr (value := v) .. => v
  | _ => noE
def argE (e : Expr) (j : Nat) : Expr := match e with
  | .Call (args := l) .. => l.getD j noE
  | .List (elts := l) .. => l.getD j noE
  | .BinOp (left := a) (right := b) .. => if j = 0 then a else b
  | .Compare (left := a) (comparators := l) .. => if j = 0 then a else l.getD (j - 1) noE
  | .UnaryOp (operand := a) .. => a
  | .BoolOp (values := l) .. => l.getD j noE
  | _ => noE
/-- the names of a comprehension -/
def scE (st : Stmt) : Expr → Scope
  | .ListComp (scope := s) .. => s
  | _ => defScope st
def lamOf (st : Stmt) (du : Bool) : Expr → LamT
  | .Lambda p b s _ => ⟨p, b, s, du⟩
  | _ => ⟨defArgs st, noE, defScope st, du⟩
end Rg

set_option Elab.async false
set_option linter.all false
set_option maxRecDepth 100000
set_option maxHeartbeats 4500000
/-! the words of errors: a text in them -/
namespace Rg
open PySem PySem.Spec PyProof.Rows L2 Sem
/-- a text in an error's words -/
def strOk : D → Prop
  | .str l => l.length ≤ 1000
  | _ => False
theorem words_str {X : Cx} {c : Str} {k : Nat} {y : Str} {p1 p2 p3 p4 : Pos} (hN : X.N[1]? = some y) (hv : Vis X.env.scope y) (hc : c.length ≤ 1000 := by decide +kernel) (hd : (y == ("__debug__" : Str)) = false := by decide) (hcd : (y == ("__classdict__" : Str)) = false := by decide) :
    Words X (.JoinedStr [.Constant (.str c) k p1, .FormattedValue (.Name y p2) (-1) none p3] p4) strOk := by
  refine ⟨_, pe_joined (.cons pe_str (.cons (pe_fmt (pe_var hN hv hd hcd)) .nil)), fun z a v d G H Q _ h1 h2 h3 => ?_⟩
  have big : (50000 : Nat) ≤ sizeLine := by decide +kernel
  have e0 : (Str.empty).length = 0 := rfl
  cases h1 with
  | str l l1 l2 =>
    have sl : (sOf l).length ≤ 1000 := by
      rw [len_sOf]
      exact h2
    refine ⟨c, rfl, ?_, .str (sOf l), rfl, .inl ⟨sOf l, rfl, by omega, _, rfl, ?_, h3 _⟩⟩
    · rw [Str.length_append]
      omega
    · rw [Str.length_append, Str.length_append]
      omega
  | _ => exact h2.elim
end Rg

set_option Elab.async false
set_option linter.all false
set_option maxRecDepth 100000
set_option maxHeartbeats 4500000
/-! the rules by data: an item of a list of one's own is read, or set; the lesser of two numbers -/
namespace Rg
open PySem PySem.Spec PyProof.Rows L2
/-- the list with d at n -/
def setIt (ds : List D) (d : D) : D → W (List D)
  | .int n => W.bind (W.need (0 ≤ n ∧ n < (ds.length : Nat))) fun _ => W.pure (ds.set n.toNat d)
  | _ => W.fail
theorem Dens.put {K : PySem.W.Frag} {z : Zk} {G : Hp} : ∀ {vs : List V} {ds : List D} {v : V} {d : D} (j : Nat), Dens K z G vs ds → Den K z G v d → Dens K z G (vs.set j v) (ds.set j d)
  | _, _, _, _, _, .nil, _ => .nil
  | _, _, _, _, 0, .cons _ r, h => .cons h r
  | _, _, _, _, j + 1, .cons q r, h => .cons q (Dens.put j r h)
section
variable {X : Cx} {z : Zk} {J : Jx X.K z} {a b : Expr} {ma mb : Ev → W D} {pos p' sp : Pos} {x : Str}
/-- x[b], where x is such a list -/
theorem ev_ixOwn (i : Nat) (hN : X.N[i]? = some x) (hv : Vis X.env.scope x) (hb : EV X J b mb) (hs : PlainIx b := by exact fun _ _ => rfl) (hd : (x == ("__debug__" : Str)) = false := by decide) (hcd : (x == ("__classdict__" : Str)) = false := by decide) :
    EV X J (.Subscript (.Name x p') b pos) (fun env => W.bind (ownOf env i) fun ds => W.bind (mb env) fun e => ixD (.lst ds) e) := by
  obtain ⟨tb, pb, qb⟩ := hb
  refine ⟨_, pe_ix ix_seq (pe_var hN hv hd hcd) pb hs, fun σ H G env Q at_ h => ?_⟩
  obtain ⟨ds, e, h⟩ := ownOf_wp h
  obtain ⟨l, vs, h1, h2, h3⟩ := at_.mu.at_ i ds e
  refine ⟨.ref l, h1, qb σ H G env _ at_ ((mb env).mono (fun d h4 u H1 G1 g1 d1 => ?_) (fun _ q => q) h)⟩
  have a1 := at_.grow g1
  obtain ⟨l', vs', k1, k2, k3, k4, k5, k6⟩ := a1.mu.at_ i ds e
  rw [h1] at k1
  cases k1
  cases d1 with
  | int n =>
    obtain ⟨d', e1, h5⟩ := ofO_wp h4
    obtain ⟨v, e2, dv⟩ := atI_den k5 e1
    exact .inl ⟨_, _, n, v, rfl, rfl, SqL.of k2, e2, h5 _ _ _ g1 dv⟩
  | _ => exact h4.elim
/-- x[b] = a -/
theorem sv_setIt (i : Nat) (hN : X.N[i]? = some x) (hv : Vis X.env.scope x) (ha : EV X J a ma) (hb : EV X J b mb) (hs : swapsWithSole [.Subscript (.Name x p') b sp] a pos.line X.env = pure false := by rfl) (hw : swappedStores [.Subscript (.Name x p') b sp] a X.env = pure none := by rfl)
    (h1 : (assignEach [.Subscript (.Name x p') b sp] X.env).map (·.2) = [assign (.Subscript (.Name x p') b sp) X.env] := by rfl) (hd : (x == ("__debug__" : Str)) = false := by decide) (hcd : (x == ("__classdict__" : Str)) = false := by decide)
    (hsub : ∀ v, assign (.Subscript (.Name x p') b sp) X.env v = (do
      let lv ← holding [v] (eval (.Name x p') X.env)
      let nv ← holding [v, lv] (eval b X.env)
      standAt sp
      holding [v, lv, nv] (setItem lv nv v)
      release [v, lv, nv] []) := by intro _; rfl) :
    SV X J (.Assign [.Subscript (.Name x p') b sp] a pos) (fun env => W.bind (ownOf env i) fun ds => W.bind (ma env) fun d => W.bind (mb env) fun n => W.bind (setIt ds d n) fun es => W.pure (.nx (env.set i (some (.own es))))) := by
  obtain ⟨ta, pa, qa⟩ := ha
  obtain ⟨tb, pb, qb⟩ := hb
  refine ⟨_, ps_asg pa (pg_sub (pe_var hN hv hd hcd) pb set_list hsub) hs hw h1, fun σ H G env N at_ h => ?_⟩
  obtain ⟨ds0, e, h⟩ := ownOf_wp h
  refine qa σ H G env _ at_ ((ma env).mono (fun d h2 v H1 G1 g1 d1 => ?_) (fun _ q => q) h)
  have a1 := at_.grow g1
  obtain ⟨l, vs, k1, k2, k3⟩ := a1.mu.at_ i ds0 e
  refine ⟨.ref l, k1, qb σ H1 G1 env _ a1 ((mb env).mono (fun n h4 u H2 G2 g2 d2 => ?_) (fun _ q => q) h2)⟩
  have a2 := a1.grow g2
  obtain ⟨l', vs', j1, j2, j3, j4, j5, j6⟩ := a2.mu.at_ i ds0 e
  rw [k1] at j1
  cases j1
  cases d2 with
  | int n =>
    obtain ⟨⟨n0, n1⟩, h5⟩ := h4
    have len := j5.len
    refine ⟨l, vs', n, n.toNat, rfl, rfl, j2, ?_, ?_⟩
    · unfold ixN
      rw [if_pos n0, if_pos (by rw [len]; exact n1)]
    · refine h5 σ _ G2 (a2.chg e k1 (j5.put _ (d1.same g2.gg)) ?_) (g1.gg.trans g2.gg)
      rw [List.length_set]
      exact j6
  | _ => exact h4.elim
def minD : List D → W D
  | [.int i, .int j] => W.pure (.int (if j < i then j else i))
  | _ => W.fail
theorem ca_min2 (hc : X.calm = true) : CaD X J (.builtin "min") minD := by
  refine ⟨_, call_min2 hc, fun vs ds H G Q vw hd h => ?_⟩
  match ds, vs, hd, h with
  | [.int i, .int j], [_, _], .cons (.int _) (.cons (.int _) .nil), h => exact ⟨i, j, rfl, h _ _ _ (.refl vw) (.int _)⟩
  | [], _, _, h => exact h.elim
end
end Rg

set_option Elab.async false
set_option linter.all false
set_option maxRecDepth 100000
set_option maxHeartbeats 4500000
/-! the rules by data: own errors that tell nothing but their tag -/
namespace Rg
open PySem PySem.Spec PyProof.Rows L2
/-- such an error is made -/
def spE0 (K : PySem.W.Frag) (cm : Str → Option Addr) (C : Addr) (tag : Str) : Sp := fun vs H Q _ => ∃ (bg : Bl) (G Hb : Hp) (a : Addr), vs = [.ref a] ∧ H = upd Hb a (exo a C none) ∧ Hb a = none ∧ Vw ⟨cm, ⟨bg.1, [], bg.2⟩⟩ G Hb ∧
  ∀ H2 dx G', H2 a = some (exo a C (some dx)) → H2 dx = some (exd dx [("tag", .str tag)]) → Hb dx = none → Grow ⟨cm, ⟨bg.1, [], bg.2⟩⟩ G Hb G' (upd (del H2 a) dx (.xd [("tag", .str tag)])) → Q .non H2
section
variable {P : Program} {w : World} {K : PySem.W.Frag} {mg : Str → Option Value} {base : Heap} {cm : Str → Option Addr}
theorem err_data0 {C f cda cc : Addr} {qual tag msg : Str} {params : Arguments} {scope : Scope} {fd : FuncData} {p0 p1 p2 p3 p4 q1 q2 q3 q4 pm : Pos} {kk km : Nat} {ar : Arg} {k : Nat}
    (T : ErrC P K C f cda cc qual params [.Expr (.Call (.Attribute (.Call (.Name "super" p0) [] [] p1) "__init__" p2) [.Constant (.str msg) km pm] [] p3) p4, .Assign [.Attribute (.Name "self" q1) "tag" q2] (.Constant (.str tag) kk q3) q4] scope fd)
    (S : ExScope ["self"] ["self"] scope) (har : (params.posonlyargs ++ params.args).head? = some ar) (hps : ("self" : Str) = ar.arg) (m_super : mg "super" = none) {pl : Env → Sem Bool}
    (hev : ∀ env : Env, eval (.Call (.Attribute (.Call (.Name "super" p0) [] [] p1) "__init__" p2) [.Constant (.str msg) km pm] [] p3) env = (do
      let ov ← attributeBase (.Call (.Name "super" p0) [] [] p1) "__init__" env (eval (.Call (.Name "super" p0) [] [] p1) env)
      standAt p2.atName
      let (f, first) ← holding [ov] (getMethod ov "__init__" (pl env))
      callWith p3 f first (backTo p3 (starEach [.Constant (.str msg) km pm] env)) []))
    (hse : ∀ env : Env, starEach [.Constant (.str msg) km pm] env = [(false, eval (.Constant (.str msg) km pm) env)])
    (hsw : ∀ env : Env, swapsWith (.Call (.Attribute (.Call (.Name "super" p0) [] [] p1) "__init__" p2) [.Constant (.str msg) km pm] [] p3) none p4.line env = pure false)
    (hin : ∀ L : Addr, interactive (PySem.W.ksEnv qual scope L f (.ref cda) cc) = false)
    (w1 : ∀ env : Env, swapsWith (.Constant (.str tag) kk q3) (some (.Attribute (.Name "self" q1) "tag" q2)) q4.line env = pure false)
    (nt : PySem.W.findIn K (.ref C) "tag" = some none) : FnOk P w K mg base CX0 (k + 1) f fd ["self"] (spE0 K cm C tag) := by
  refine err_fn T S har (by rw [← hps]; rfl) m_super hev hse hsw hin (fun vs H Q E h => ?_) (fun A outer s H vs Q E hr h => ?_)
  · obtain ⟨bg, G, Hb, a, rfl, _⟩ := h
    rfl
  obtain ⟨bg, G, Hb, a, rfl, rfl, na, vw, h⟩ := h
  have vis : Vis scope "self" := .inl (S.pars _ List.mem_cons_self)
  have ga : G a = none := vw.sub.free na
  refine ⟨_, _, a, rfl, upd_same, pe_str, pss_one (ps_ost (pe_var (i := 0) rfl vis) pe_str (w1 _)), ?_⟩
  refine ⟨upd_same, ?_⟩
  refine ⟨.ref a, rfl, a, C, rfl, T.T, nt, .inl ⟨upd_same, fun dx ndx nda => ?_⟩⟩
  have nd : Hb dx = none := by
    rw [upd_ne nda] at ndx
    exact ndx
  have gd : G dx = none := vw.sub.free nd
  have e2a : upd (upd (upd Hb a (exo a C none)) dx (exd dx [("tag", .str tag)])) a (exo a C (some dx)) dx = some (exd dx [("tag", .str tag)]) := by
    rw [upd_ne nda, upd_same]
  have fin : ∀ b o, Hb b = some o → upd (del (upd (upd (upd Hb a (exo a C none)) dx (exd dx [("tag", .str tag)])) a (exo a C (some dx))) a) dx (.xd [("tag", .str tag)]) b = some o := fun b o hb => by
    have h1 := ne_of_none hb na
    have h2 := ne_of_none hb nd
    rw [upd_ne h2, del_ne h1, upd_ne h1, upd_ne h2, upd_ne h1]
    exact hb
  exact h _ dx G upd_same e2a nd (Grow.same vw fin)
end
/-- C(), read -/
def tMk0 (C : Addr) (sp : Sp) : L2.St → Hp → XK → Prop := fun _ H Q => ∀ a, H a = none → sp [.ref a] (upd H a (exo a C none)) (fun v H2 => v = .non ∧ ∃ d fs, H2 a = some (exo a C (some d)) ∧ H2 d = some (exd d fs) ∧ H d = none ∧ Q (.ref C) (some d) (upd (del H2 a) d (.xd fs))) (fun _ _ _ => False)
section
variable {X : Cx} {z : Zk} {J : Jx X.K z} {pos p cpos : Pos} {x : Str}
theorem pmk_oex0 {C fI : Addr} {k : Nat} {fd : FuncData} {sp : Sp} (T : OexC X.K C) (iC : PySem.W.findIn X.K (.ref C) "__init__" = some (some (.ref fI))) (tI : PySem.W.typeIn X.K (.ref fI) = some (.type "function")) (F1 : FnOk X.prog X.w X.K X.mg X.base CX0 k fI fd ["self"] sp) (hr : Room (k + 1) X.A) (hb : Binds X.K fd ["self"] [])
    (hg : Gl X x) (hm : X.mg x = some (.ref C)) (hdb : (x == ("__debug__" : Str)) = false := by decide) : PMk X (.Call (.Name x p) [] [] pos) (tMk0 C sp) := by
  intro pins s σ H Q I ask
  obtain ⟨nm, q, N, bs, bm, sn, sub, ab, col, dd, k0, k1, k2, k3, k5, isC, refs⟩ := T.cls
  refine wpAny_Call_Name_kw (ld_glob I hg hm (PySem.W.callWith_K0 I.kIn T.kC ?_) hdb)
  obtain ⟨hp, g, dr, tk, os⟩ := s
  have later : hp.objs.size ≤ hp.objs.size + 1 := Nat.le_succ _
  have kept : ∀ b o, hp.get? b = some o → ((hp.push (PySem.W.kdv_tup [])).push (PySem.HandSPX.excO C hp.objs.size)).get? b = some o := fun b o e => Heap.get?_push_of_some _ (Heap.get?_push_of_some _ e)
  have there : ((hp.push (PySem.W.kdv_tup [])).push (PySem.HandSPX.excO C hp.objs.size)).get? (hp.objs.size + 1) = some (PySem.HandSPX.excO C hp.objs.size) := by heap_get
  have I2 : Inv X pins σ (upd H (hp.objs.size + 1) (exo (hp.objs.size + 1) C none)) ⟨(hp.push (PySem.W.kdv_tup [])).push (PySem.HandSPX.excO C hp.objs.size), g, dr, tk, os⟩ :=
    I.laid (t' := tk) (a := hp.objs.size + 1) (o := exo (hp.objs.size + 1) C none) (h' := (hp.push (PySem.W.kdv_tup [])).push (PySem.HandSPX.excO C hp.objs.size)) kept later (exo_ok there)
  have go := ask (hp.objs.size + 1) (I.hok.fresh later)
  refine wpAny_call (PySem.HandSPX.call_own F.excBase_ValueError (fun Y => PySem.HandSPX.refsVE_contains Y bm refs) (I.kIn _ _ isC) (PySem.W.looks_findIn I.kIn iC) (fun self => PySem.W.bind_fn I.kIn self tI) (Nat.zero_le _)
    (codeAny_mono (F1.run _ X.stack _ _ ⟨[Value.ref (hp.objs.size + 1)], []⟩ [Value.ref (hp.objs.size + 1)] [V.ref (hp.objs.size + 1)] _ (fun _ _ _ => False) (hr.make C [] []) (I2.env0.make C [] []) (hb _ [Value.ref (hp.objs.size + 1)] I2.kIn rfl) (.cons rfl .nil) go) fun r s' end_ => ?_))
  match r, end_ with
  | .error er, end_ => exact pass0 pins σ _ _ er s' I2 end_
  | .ok (.ret u), end_ =>
    obtain ⟨v, H2, os2, bare2, un2, hok2, rv, ev, d, fs, ea, ed, hd1, q2⟩ := end_
    subst ev
    obtain ⟨hb2, gb2, db2, tb2, ob2⟩ := s'
    exact ⟨rv, mk_end (raises_own T.exC T.tyC) I later kept un2 hok2 os2 bare2 ea ed hd1 q2⟩
/-- raise C() -/
theorem sv_raise0 {C fI : Addr} {k : Nat} {fd : FuncData} {tag : Str} (hc : X.calm = true) (hcm : z.cm x = some C) (T : OexC X.K C) (iC : PySem.W.findIn X.K (.ref C) "__init__" = some (some (.ref fI))) (tI : PySem.W.typeIn X.K (.ref fI) = some (.type "function"))
    (F1 : FnOk X.prog X.w X.K X.mg X.base CX0 k fI fd ["self"] (spE0 X.K z.cm C tag)) (hr : Room (k + 1) X.A) (hb : Binds X.K fd ["self"] []) (hg : Gl X x) (hm : X.mg x = some (.ref C)) (tl : ∀ c ∈ tag.cps.toList, c < 1114112) (tz : tag.cps.toList.length ≤ 1000)
    (tk : Takes X fun cls d _ H => J.E cls d H) (hdb : (x == ("__debug__" : Str)) = false := by decide) :
    SV X J (.Raise (some (.Call (.Name x p) [] [] cpos)) none pos) (fun _ => W.raise ⟨x, [("tag", .str (tag.cps.toList))]⟩) := by
  refine ⟨_, ps_raise (W := fun cls d _ H => J.E cls d H) hc tk (pmk_oex0 T iC tI F1 hr hb hg hm hdb), fun σ H G env N at_ h => fun a na => ?_⟩
  refine ⟨(z.bg.bag, z.bg.lm), G, H, a, rfl, rfl, na, at_.gr.vw.low, fun H2 dx G' ea ed nd gr => ⟨rfl, dx, _, ea, ed, nd, ?_⟩⟩
  refine J.hE _ _ _ _ G' h (at_.gr.trans (gr.up at_.gr.vw)) ⟨C, dx, _, hcm, rfl, rfl, upd_same, .cons ?_ .nil⟩
  exact .str _ (Nat.le_trans tz (by decide)) tl
end
theorem ErrC.binds0 {P : Program} {K : PySem.W.Frag} {C f cda cc : Addr} {qual : Str} {params : Arguments} {body : List Stmt} {scope : Scope} {fd : FuncData} (T : ErrC P K C f cda cc qual params body scope fd)
    (h : ∀ (nm : Str) (kV doc pm : Value) (an : Option Addr) (ct u : Value), bindArgs (PySem.W.ksFn nm qual params body scope .none kV doc pm an (.ref cda) ct cc) ⟨[u], []⟩ = pure [(("self" : Str), u)]) : Binds K fd ["self"] [] := by
  obtain ⟨_, _, nm, kV, doc, pm, an, ct, _, rfl, _⟩ := T.fn
  refine .all fun us hl => ?_
  match us, hl with
  | [u], _ => exact h nm kV doc pm an ct u
end Rg

set_option Elab.async false
set_option linter.all false
set_option maxRecDepth 100000
set_option maxHeartbeats 4500000
/-! the rules by data: + of two objects of one class -/
namespace Rg
open PySem PySem.Spec PyProof.Rows L2
section
variable {X : Cx} {z : Zk} {J : Jx X.K z}
/-- + of two objects of one class that makes a third -/
def addO (c : Str) (m : List D → W D) (d e : D) : W D := W.bind (insOf c d) fun _ => W.bind (insOf c e) fun _ => W.bind (m [d, e]) fun r => W.bind (insOf c r) fun _ => W.pure r
def rAddO (K : PySem.W.Frag) (cm : Str → Option Addr) (C : Addr) (m : List D → W D) (E : XK) : R2 := fun x y H Q => ∃ (q p dx dy : Addr) (fs gs : List (Str × V)), x = .ref q ∧ y = .ref p ∧ H q = some (.ins C dx fs) ∧ H p = some (.ins C dy gs) ∧ spM K cm 2 m [.ref q, .ref p] H (fun v H' => (∃ r, v = .ref r) ∧ Q v H') E
theorem op_addO {C g : Addr} {k : Nat} {fd : FuncData} {s0 s1 : Str} {m : List D → W D} {cm : Str → Option Addr} {E : XK} (sf : PySem.W.selfFirst X.K C = true) (hs : PySem.W.findIn X.K (.ref C) "__add__" = some (some (.ref g))) (hf : PySem.W.isFn X.K (.ref g) = true) (F : FnM X.prog X.w X.K X.mg X.base cm k g fd [s0, s1] m) (hr : Room k X.A) (hb : Binds X.K fd [s0, s1] []) (hx : Passes (L2.CX X.prog X.w) X E) :
    OpR X (binaryOp .Add) (rAddO X.K cm C m E) := by
  intro pins s σ H x y v u Q I rx ry ask
  obtain ⟨q, p, dx, dy, fs, gs, rfl, rfl, hq, hp, h⟩ := ask
  cases rx
  cases ry
  obtain ⟨mA, O, _⟩ := ins_get I.hok hq
  obtain ⟨mB, O', _⟩ := ins_get I.hok hp
  obtain ⟨od, O, _⟩ := O.look
  obtain ⟨od', O', _⟩ := O'.look
  obtain ⟨m', hF⟩ := I.fr
  refine PySem.W.binop_K (op := .Add) hF I.ok.mod.kin O O'.type sf hs hf (thn (run_at (vs := [.ref q, .ref p]) F hr hb hx I (.cons rfl (.cons rfl .nil)) h) fun v s' hv => ?_)
  obtain ⟨y, H', I', ry, ⟨r, rfl⟩, qk⟩ := hv
  cases ry
  exact ⟨.ref r, H', I', rfl, qk⟩
theorem addO_wp {c : Str} {C : Addr} {m : List D → W D} (hc : z.cm c = some C) : ∀ x y d e H G Q, Vw z G H → Den X.K z G x d → Den X.K z G y e → (addO c m d e).wp (VQ X.K z G H Q) (fun x => ∀ cls dx H' G', Grow z G H G' H' → XDen X.K z G' H' cls dx x → J.E cls dx H') → rAddO X.K z.cm C m J.E x y H Q := by
  intro x y d e H G Q vw dx dy h
  obtain ⟨q, qx, fs, gs, rfl, h2, h3, rfl, h4⟩ := insOf_wp hc dx h
  obtain ⟨p, px, fs', gs', rfl, k2, k3, rfl, k4⟩ := insOf_wp hc dy h4
  refine ⟨q, p, qx, px, fs, fs', rfl, rfl, vw.sub _ _ h2, vw.sub _ _ k2, (z.bg.bag, z.bg.lm), G, _, vw.low, .cons dx.low (.one dy.low), rfl, (m _).mono (fun r hr v' H' G' g' dv => ?_) (fun x hx cls dx H' G' g' xd => hx cls dx H' G' (g'.up vw) xd.up) k4⟩
  have dv' := dv.up
  obtain ⟨r', rx, fs2, gs2, rfl, j2, j3, rfl, j4⟩ := insOf_wp hc dv' hr
  exact ⟨⟨r', rfl⟩, j4 _ _ _ (g'.up vw) dv'⟩
/-- a + b -/
theorem ev_addO {a b : Expr} {ma mb : Ev → W D} {pos : Pos} {c : Str} {C g : Addr} {k : Nat} {fd : FuncData} {s0 s1 : Str} {m : List D → W D} (hc : z.cm c = some C) (sf : PySem.W.selfFirst X.K C = true) (hs : PySem.W.findIn X.K (.ref C) "__add__" = some (some (.ref g))) (hf : PySem.W.isFn X.K (.ref g) = true) (F : FnM X.prog X.w X.K X.mg X.base z.cm k g fd [s0, s1] m) (hr : Room k X.A) (hb : Binds X.K fd [s0, s1] []) (hx : Passes (L2.CX X.prog X.w) X J.E)
    (ha : EV X J a ma) (hb' : EV X J b mb) : EV X J (.BinOp a .Add b pos) (fun env => W.bind (ma env) fun d => W.bind (mb env) fun e => addO c m d e) := by
  obtain ⟨ta, pa, qa⟩ := ha
  obtain ⟨tb, pb, qb⟩ := hb'
  refine ⟨_, pe_op (op_addO sf hs hf F hr hb hx) pa pb, fun σ H G env Q at_ h => ?_⟩
  refine qa σ H G env _ at_ ((ma env).mono (fun d h1 v H1 G1 g1 d1 => ?_) (fun _ q => q) h)
  refine qb σ H1 G1 env _ (at_.grow g1) ((mb env).mono (fun e h2 u H2 G2 g2 d2 => ?_) (fun _ q => q) h1)
  exact addO_wp hc v u d e H2 G2 Q g2.vw (d1.same g2.gg) d2 ((addO c m d e).mono (fun r q v3 H3 G3 g3 e3 => q v3 H3 G3 (g1.trans (g2.trans g3)) e3) (fun x q cls dx H' G' g' xd => J.hE x cls dx H' G' q (at_.gr.trans (g1.trans (g2.trans g'))) xd) h2)
end
end Rg

set_option Elab.async false
set_option linter.all false
set_option maxRecDepth 100000
set_option maxHeartbeats 4500000
/-! the rules by data: a def that takes any number of things -/
namespace Rg
open PySem PySem.Spec PyProof.Rows L2
/-- what is promised of it: it sees a tuple -/
def spS (K : PySem.W.Frag) (cm : Str → Option Addr) (m : List D → W D) : Sp := fun vs H Q E => ∃ (bg : Bl) (G : Hp) (ds : List D), Vw ⟨cm, ⟨bg.1, [], bg.2⟩⟩ G H ∧ Dens K ⟨cm, ⟨bg.1, [], bg.2⟩⟩ G vs ds ∧ ds.length ≤ big ∧
  (m [.tup ds]).wp (VQ K ⟨cm, ⟨bg.1, [], bg.2⟩⟩ G H Q) (fun x => ∀ cls dx H' G', Grow ⟨cm, ⟨bg.1, [], bg.2⟩⟩ G H G' H' → XDen K ⟨cm, ⟨bg.1, [], bg.2⟩⟩ G' H' cls dx x → E cls dx H')
abbrev FnS (P : Program) (w : World) (K : PySem.W.Frag) (mg : Str → Option Value) (base : Heap) (cm : Str → Option Addr) (k : Nat) (f : Addr) (m : List D → W D) : Prop := FnR P w K mg base (L2.CX P w) k f (spS K cm m)
section
variable {P : Program} {w : World} {K : PySem.W.Frag} {mg : Str → Option Value} {base : Heap} {cm : Str → Option Addr}
theorem fnS {x qual pv : Str} {st : Stmt} {f : Addr} {fd : FuncData} {N : List Str} {k : Nat} {mb : Ev → W Fl} (F : Fun K x qual st f fd) (S : FnScope N [pv] (defScope st))
    (hb : ∀ (kV doc pm : Value) (an : Option Addr) (cdv ct : Value) (rest : List Value), bindArgs (PySem.W.fnOf x qual (defArgs st) (defBody st) (defScope st) .none kV doc pm an cdv ct) ⟨rest, []⟩ = (newTuple rest >>= fun t => pure [(pv, t)]))
    (body : ∀ (cdv : Value) (A : Around) (outer : List Env) (s : Shared) (H : Hp) (bg : Bl) (J : Jx K ⟨cm, ⟨bg.1, [], bg.2⟩⟩), Room k (A.deeper (envOfC qual (defScope st) s.heap.objs.size f cdv)) →
      Passes (L2.CX P w) (cxOf (L2.CX P w) P w K mg base N qual (defScope st) f cdv A outer s H J.E) J.E → PassesOwn (model P w) (A.deeper (envOfC qual (defScope st) s.heap.objs.size f cdv)) (envOfC qual (defScope st) s.heap.objs.size f cdv) (cxOf (L2.CX P w) P w K mg base N qual (defScope st) f cdv A outer s H J.E).xe →
      SVs (cxOf (L2.CX P w) P w K mg base N qual (defScope st) f cdv A outer s H J.E) J (defBody st) mb) : FnS P w K mg base cm (k + 1) f (runF N.length mb) := by
  obtain ⟨oc, od, kV, doc, pm, an, cdv, ct, os0, rfl, lk, hcd⟩ := F.ex
  have big_ := StX.fn_star (ps := []) (pv := pv) (sp := spM K cm 1 (runF N.length mb)) (k := k) lk hcd S StX.cxUp (fun us rest hl => by
    have : us = [] := List.length_eq_zero_iff.mp hl
    subst this
    exact hb kV doc pm an cdv ct rest) (fun A outer s H vs Q E hr h => by
    obtain ⟨bg, G, ds, vw, hd, _, h⟩ := h
    obtain ⟨t, pt, qt⟩ := body cdv A outer s H bg ⟨G, H, E, fun x => ∀ cls dx H' G', Grow ⟨cm, ⟨bg.1, [], bg.2⟩⟩ G H G' H' → XDen K ⟨cm, ⟨bg.1, [], bg.2⟩⟩ G' H' cls dx x → E cls dx H', fun x cls dx H' G' q g d => q cls dx H' G' g d⟩ hr
      (passes_call (takes_of rfl rfl rfl rfl) (fun _ _ _ _ h => h)) (passes_of rfl)
    refine ⟨t, pt, qt (L2.start N vs) H G (startE N.length ds) _ ⟨.refl vw, vw, start_en hd, ⟨fun i ds e => (startE_nomut hd.nomut e).elim, fun i j ds es p _ e => (startE_nomut hd.nomut e).elim⟩⟩ ((mb _).mono (fun fl h1 => ?_) (fun _ q => q) h)⟩
    cases fl with
    | nx env => exact fun σ H' G' at' _ => h1 .non H' G' at'.gr .non
    | rt d => exact fun v H' G' g dv => h1 v H' G' g dv
    | bk _ => exact h1.elim
    | ct _ => exact h1.elim)
  refine big_.imp fun vs H Q E h => ?_
  obtain ⟨bg, G, ds, vw, hd, hl, h⟩ := h
  have len := hd.len
  refine ⟨[], vs, rfl, rfl, by rw [len]; exact Nat.le_trans hl big_line, fun p np => ?_⟩
  have g1 := Grow.new (o := .tup vs) vw np
  refine ⟨bg, upd G p (.tup vs), [.tup ds], g1.vw, .one (.tup (.inl upd_same) (hd.same g1.gg) hl), rfl, (runF N.length mb [.tup ds]).mono (fun d q v H' G' g dv => q v H' G' (g1.trans g) dv) (fun x q cls dx H' G' g xd => q cls dx H' G' (g1.trans g) xd) h⟩
end
section
variable {X : Cx} {z : Zk} {J : Jx X.K z} {e : Expr} {es : List Expr} {ms : Ev → W (List D)} {p pos : Pos} {x : Str}
/-- x(e, ..), where x takes any number of things -/
def callS (m : List D → W D) (ds : List D) : W D := W.bind (W.need (ds.length ≤ big)) fun _ => m [.tup ds]
theorem ev_callS {k : Nat} {f : Addr} {m : List D → W D} (F : FnS X.prog X.w X.K X.mg X.base z.cm k f m) (hr : Room k X.A) (hg : Gl X x) (hm : X.mg x = some (.ref f)) (hk : PySem.W.keepIn X.K (.ref f) = true) (hx : Passes (L2.CX X.prog X.w) X J.E) (ha : AV X J (e :: es) ms)
    (hdeb : (x == ("__debug__" : Str)) = false := by decide) (he : starEach (e :: es) X.env = (false, eval e X.env) :: starEach es X.env := by rfl) (hpl : (backTo pos (starEach es X.env)).any (·.1) = false := by rfl) :
    EV X J (.Call (.Name x p) (e :: es) [] pos) (fun env => W.bind (ms env) (callS m)) := by
  obtain ⟨ts, pa, qs⟩ := ha
  refine ⟨fun σ H Q => ts σ H fun vs H1 => spS X.K z.cm m vs H1 Q J.E, ⟨fun pins s σ H Q I h => ?_⟩, fun σ H G env Q at_ h => ?_⟩
  · refine wpAny_Call_Name_kw (ld_glob I hg hm ?_ hdeb)
    refine PySem.W.callWith_K (h₀ := X.base) I.ok.mod.kin hk (thn (pa.run pos pins s σ H _ I h) fun us s1 ⟨vs, H1, I1, r, q⟩ => ⟨I1.kIn, ?_⟩) he hpl
    refine wpAny_call (run_fnR F hr hx I1 r q)
  · refine qs σ H G env _ at_ ((ms env).mono (fun ds h1 vs H1 G1 g1 d1 => ?_) (fun _ q => q) h)
    obtain ⟨hl, h2⟩ := h1
    exact ⟨(z.bg.bag, z.bg.lm), G1, ds, g1.vw.low, d1.low, hl, (m [.tup ds]).mono (fun d q v H' G' g' dv => q v H' G' (g1.trans (g'.up g1.vw)) dv.up) (fun x q cls dx H' G' g' xd => J.hE x cls dx H' G' q (at_.gr.trans (g1.trans (g'.up g1.vw))) xd.up) h2⟩
end
end Rg

set_option Elab.async false
set_option linter.all false
set_option maxRecDepth 100000
set_option maxHeartbeats 4500000
/-! lambdas are asked while lists of one's own are being changed: they don't read those -/
namespace Rg
open PySem PySem.Spec PyProof.Rows LamX L2
def maskO : Option D → Option D
  | some (.own _) => none
  | o => o
/-- without the lists that are being changed -/
def mask (env : Ev) : Ev := env.map maskO
theorem mask_no (env : Ev) : noOwn (mask env) := fun i ds e => by
  unfold mask at e
  rw [List.getElem?_map] at e
  obtain ⟨o, _, q⟩ := Option.map_eq_some_iff.mp e
  cases o with
  | none => cases q
  | some d => cases d <;> cases q
theorem EnvD.mask {K : PySem.W.Frag} {z : Zk} {G : Hp} {σ : L2.St} {env : Ev} (h : EnvD K z G σ env) : EnvD K z G σ (mask env) := by
  refine ⟨by unfold Rg.mask; rw [List.length_map]; exact h.1, fun i d e m => ?_⟩
  unfold Rg.mask at e
  rw [List.getElem?_map] at e
  obtain ⟨o, q1, q2⟩ := Option.map_eq_some_iff.mp e
  have : o = some d := by
    cases o with
    | none => cases q2
    | some d' => cases d' <;> first | exact q2 | cases q2
  rw [this] at q1
  exact h.2 i d q1 m
section
variable {X : Cx} {z : Zk} {J : Jx X.K z} {ls : Nat → LamT} {e : Expr} {ma : Ev → W D} {p pos : Pos}
/-- x(e) -/
theorem ev_asksM {m : Ev → List D → W D} {x a : Str} {g : Addr} {k : Nat} {fd : FuncData} (F : ∀ σ C env Gw, X.Ok → σ.length = X.N.length → (∀ i, HoldC X (ls i).scope σ C) → EnvD X.K z.low Gw σ env → noOwn env → FnOk X.prog X.w X.K X.mg X.base C8.CX0 k g fd [a] (spShown X.K z.low Gw (m env) C))
    (hr : Room k X.A) (hg : Gl X x) (hm : X.mg x = some (.ref g)) (hk : PySem.W.keepIn X.K (.ref g) = true) (hb : L2.Binds X.K fd [a] []) (hL : ∀ i, LamN X.N X.env.scope (ls i).scope) (inN : ∀ i y, (y, NameKind.free) ∈ (ls i).scope.names → y ∈ X.N)
    (late : ∀ y c, X.env.cells.lookup y = some c → X.s_0.heap.objs.size ≤ c) (he : EV X J e ma) (hdb : (x == ("__debug__" : Str)) = false := by decide) (hs : starEach [e] X.env = (false, eval e X.env) :: starEach [] X.env := by rfl) :
    EV X J (.Call (.Name x p) [e] [] pos) (fun env => W.bind (ma env) fun d => W.bind (W.noX (m (mask env) [d])) fun r => W.bind (W.need (noLam r = true)) fun _ => W.pure r) := by
  obtain ⟨te, pe, qe⟩ := he
  refine ⟨_, pe_shown (ls := ls) (sp := spAsks X.K z.low m) (fun σ C ok len hc => fn_ex fun i hi => F σ C i.1 i.2 ok len hc hi.1 hi.2) hr hg hm hk hb hL inN late pe hdb hs, fun σ H G env Q at_ h => ?_⟩
  refine qe σ H G env _ at_ ((ma env).mono (fun d h1 v H1 G1 g1 dv C hc off => ?_) (fun _ q => q) h)
  have vw := g1.vw.low
  have offG : Off C G1 := off.down vw.sub
  have en : EnvD X.K z.low G1 σ env := ⟨at_.en.1, fun i d q mu => by
    obtain ⟨v, s1, s2⟩ := at_.en.2 i d q mu
    exact ⟨v, s1, (s2.same g1.gg).low⟩⟩
  have sm : Same G1 (hides C (shows C G1)) := fun b o q => by
    cases l : C.lookup b with
    | none => rw [hides_not l, shows_not l]; exact q
    | some o' => rw [offG b o' l] at q; cases q
  refine ⟨(mask env, G1), ⟨en.mask, mask_no env⟩, shows C G1, [d], vw_show rfl off vw, shows_within, sm, .one (dv.low.same offG.same), rfl, (m (mask env) [d]).mono (fun r q u H' G' g' du => ?_) (fun _ q => q) h1⟩
  obtain ⟨nl, q⟩ := q
  obtain ⟨win, g2⟩ := grow_hide rfl off vw g'
  exact ⟨win.up g'.vw.sub, q u _ _ (g1.trans (g2.up g1.vw)) (den_hide win nl du).up⟩
end
/-- int(i) of a number -/
def intI : D → W D
  | .int i => W.pure (.int i)
  | _ => W.fail
theorem ca_intI {X : Cx} {z : Zk} {J : Jx X.K z} : CaD X J (.type "int") (one1 intI) := by
  refine ⟨_, call_int1, fun vs ds H G Q vw hd h => ?_⟩
  obtain ⟨v, d, rfl, rfl, a1, h⟩ := one1_wp hd h
  cases a1 with
  | int i => exact .inl ⟨i, rfl, h _ _ _ (.refl vw) (.int i)⟩
  | _ => exact h.elim
end Rg

set_option Elab.async false
set_option linter.all false
set_option maxRecDepth 100000
set_option maxHeartbeats 4500000
/-! list(range(a, b, -1)); a test x if c else y -/
namespace Rg
open PySem PySem.Spec PyProof.Rows L2
section
variable {X : Cx} {z : Zk} {J : Jx X.K z} {a b c : Expr} {ms : Ev → W (List D)} {p p2 pos pos2 : Pos}
def downs (i : Int) (n : Nat) : List D := (List.range n).map fun k => .int (i + (k : Nat) * (-1))
def downD : List D → W D
  | [.int i, .int j, .int k] => W.bind (W.need (k = -1 ∧ 0 ≤ i ∧ i ≤ 1000 ∧ -1 ≤ j ∧ j ≤ 1000)) fun _ => W.pure (.lst (downs i (i - j).toNat))
  | _ => W.fail
theorem downD_wp {ds : List D} {Q : D → Prop} {E : ExD → Prop} (h : (downD ds).wp Q E) : ∃ i j : Int, ds = [.int i, .int j, .int (-1)] ∧ 0 ≤ i ∧ i ≤ 1000 ∧ -1 ≤ j ∧ j ≤ 1000 ∧ Q (.lst (downs i (i - j).toNat)) := by
  match ds, h with
  | [.int i, .int j, .int k], ⟨⟨hk, h1, h2, h3, h4⟩, q⟩ =>
    subst hk
    exact ⟨i, j, rfl, h1, h2, h3, h4, q⟩
theorem dens_downs {K : PySem.W.Frag} {G : Hp} (i : Int) : ∀ l : List Nat, Dens K z G (l.map fun k => V.int (i + (k : Nat) * (-1))) (l.map fun k => D.int (i + (k : Nat) * (-1)))
  | [] => .nil
  | k :: r => .cons (.int _) (dens_downs i r)
def downV (i : Int) (n : Nat) : List V := (List.range n).map fun k => V.int (i + (k : Nat) * (-1))
theorem vals_down {i : Int} {n : Nat} {acc : Array Value} (h : ItemsOf (fun k v => ∃ t, v = .int (i + k * (-1)) t) acc n) : Vals (downV i n) acc.toList := by
  have many : acc.toList.length = n := by rw [Array.length_toList]; exact h.1
  unfold downV
  rw [← many]
  refine vals_of_get (acc.toList) _ (fun j u hj => ?_)
  obtain ⟨tk, rfl⟩ := h.2 j u (by rw [← hj, Array.getElem?_toList])
  exact ⟨tk, rfl⟩
theorem ev_listDown (hc : X.calm = true) (hg : Gl X "list") (hm : X.mg "list" = none) (hg2 : Gl X "range") (hm2 : X.mg "range" = none) (ha : AV X J [a, b, c] ms) (hs : starEach [a, b, c] X.env = (false, eval a X.env) :: starEach [b, c] X.env := by rfl) (hpl : (backTo pos2 (starEach [b, c] X.env)).any (·.1) = false := by rfl)
    (nb : starEach [.Call (.Name "range" p2) [a, b, c] [] pos2] X.env = (false, eval (.Call (.Name "range" p2) [a, b, c] [] pos2) X.env) :: starEach [] X.env := by rfl) :
    EV X J (.Call (.Name "list" p) [.Call (.Name "range" p2) [a, b, c] [] pos2] [] pos) (fun env => W.bind (ms env) downD) := by
  obtain ⟨ts, pa, qs⟩ := ha
  refine ⟨fun σ H Q => ts σ H fun vs H1 => ∃ i j : Int, vs = [.int i, .int j, .int (-1)] ∧ (0 ≤ i ∧ i ≤ 1000 ∧ -1 ≤ j ∧ j ≤ 1000) ∧ ∀ q, H1 q = none → Q (.ref q) (upd H1 q (.lst (downV i (i - j).toNat))), ⟨fun pins s σ H Q I h => ?_⟩, fun σ H G env Q at_ h => ?_⟩
  · refine Call_ (ld_blt I hg hm boot_list (PyProof.Rows.callWith_type1 (args_cons ?_ nb) nb))
    refine Call_ (ld_blt I hg2 hm2 boot_range (PyProof.Rows.callWith_type1 (thn (pa.run pos2 pins s σ H _ I h) fun us s1 ⟨vs, H1, I1, r1, q1⟩ => ?_) hs hpl))
    obtain ⟨i, j, e, ⟨b1, b2, b3, b4⟩, q⟩ := q1
    subst e
    cases r1 with
    | cons ra rest =>
      cases rest with
      | cons rb rest =>
        cases rest with
        | cons rc rest =>
          cases rest
          obtain ⟨t, rfl⟩ := ra
          obtain ⟨t', rfl⟩ := rb
          obtain ⟨t'', rfl⟩ := rc

          obtain ⟨c0, c1, c2, c3⟩ := RgC.neg (i := i) (j := j) (by omega) (by omega) (by omega) (by omega)
          refine (call_range_3 c0 ?_ (Or.inl (PyProof.noPylong_small c1)))
          refine args_nil ?_
          have I2 : Inv X pins σ H1 { s1 with heap := s1.heap.push { cls := .type "range", data := .fields #[.int i t, .int j t', .int (-1) t''] } } := I1.kept (t' := s1.toks) fun b o e => Heap.get?_push_of_some _ e
          refine call_list_range (n := (i - j).toNat) (I2.ok.hd hc) (IsRange.new ..) c2 c3 (by omega) fun h' tk acc c' hk e' hi => ?_
          have many : (downV i (i - j).toNat).length = (i - j).toNat := by
            unfold downV
            simp only [List.length_range, List.length_map]
          refine ⟨.ref _, upd H1 _ (.lst (downV i (i - j).toNat)), I2.laid hk (Nat.le_refl _) (show ObjOk X.prog X.w _ _ _ (.lst (downV i (i - j).toNat)) from ⟨?_, acc.toList, c', vals_down hi, ?_⟩), rfl, q _ (I2.hok.fresh (Nat.le_refl _))⟩
          · rw [many, sizeLine_eq]
            omega
          · rw [Array.toArray_toList]
            exact e'
  · refine qs σ H G env _ at_ ((ms env).mono (fun ds h1 vs H1 G1 g1 d1 => ?_) (fun _ q => q) h)
    obtain ⟨i, j, rfl, b1, b2, b3, b4, h2⟩ := downD_wp h1
    cases d1 with
    | cons da rest =>
      cases rest with
      | cons db rest =>
        cases rest with
        | cons dc rest =>
          cases rest
          cases da
          cases db
          cases dc
          refine ⟨i, j, rfl, ⟨b1, b2, b3, b4⟩, fun q nq => h2 _ _ _ (g1.trans (.new g1.vw nq)) (.lst upd_same (dens_downs i _) ?_)⟩
          unfold downs
          simp only [List.length_range, List.length_map]

          show (i - j).toNat ≤ 100000
          omega
/-- x if c else y as a test -/
theorem tv_if {mt ma mb : Ev → W Bool} (hc : TV X J c mt) (ha : TV X J a ma) (hb : TV X J b mb) : TV X J (.IfExp c a b pos) (fun env => W.bind (mt env) fun k => iteW k (ma env) (mb env)) := by
  obtain ⟨tc, pc, qc⟩ := hc
  obtain ⟨ta, pa, qa⟩ := ha
  obtain ⟨tb, pb, qb⟩ := hb
  refine ⟨fun σ H Q => tc σ H fun k H1 => if k = true then ta σ H1 Q else tb σ H1 Q, ⟨fun pins s σ H Q I h => ?_⟩, fun σ H G env Q at_ h => ?_⟩
  · refine isTrue_IfExp (thn (pc.run pins s σ H _ I h) fun k s1 ⟨H1, I1, q1⟩ => ?_)
    cases k with
    | true => exact pa.run pins s1 σ H1 Q I1 q1
    | false => exact pb.run pins s1 σ H1 Q I1 q1
  · refine qc σ H G env _ at_ ((mt env).mono (fun k h1 H1 G1 g1 => ?_) (fun _ q => q) h)
    cases k with
    | true => exact qa σ H1 G1 env _ (at_.grow g1) ((ma env).mono (fun _ q H' G' g' => q H' G' (g1.trans g')) (fun _ q => q) h1)
    | false => exact qb σ H1 G1 env _ (at_.grow g1) ((mb env).mono (fun _ q H' G' g' => q H' G' (g1.trans g')) (fun _ q => q) h1)
end
section
variable {X : Cx} {z : Zk} {J : Jx X.K z} {elt iter tg : Expr} {ifs : List Expr} {mi : Ev → W (List D)} {mt : Ev → W Bool} {me : Ev → W D} {pos : Pos}
/-- name = [..], where a block below reads the name -/
theorem sv_setLcC (i : Nat) {y : Str} {py spos : Pos} {scope : Scope} {own : List (Str × Nat)} {js : List Nat} {f : D → Ev → W Ev} (hc : X.calm = true) (hN : X.N.Nodup) (hy : X.N[i]? = some y) (hyl : Loc X.env.scope y)
    (hi : IV X J tg iter mi) (ok : BlkOk X.N X.env.scope scope own) (hg : ∀ (s : Shared) (H : Hp) (C : Addr) (cl : List (Str × Addr)) (fp : List Addr), GV (X.blk s H scope (compEnvC scope cl C X.env) fp) J.no tg js f) (ht : ∀ (s : Shared) (H : Hp) (C : Addr) (cl : List (Str × Addr)) (fp : List Addr), TsV (X.blk s H scope (compEnvC scope cl C X.env) fp) J.no ifs mt)
    (he : ∀ (s : Shared) (H : Hp) (C : Addr) (cl : List (Str × Addr)) (fp : List Addr), EV (X.blk s H scope (compEnvC scope cl C X.env) fp) J.no elt me) (hj : ∀ j ∈ js, j ∈ own.map (·.2) := by decide) (hs : ∀ x, foldedSetIterable iter X.env x = pure x := by intro _; rfl) (hw : swapsWith (.ListComp elt [⟨tg, iter, ifs, 0⟩] scope pos) (some (.Name y py)) spos.line X.env = pure false := by rfl) (hf : X.fn y = true ∨ X.env.scope.names.lookup y = some .local := by first | exact .inl rfl | exact .inr rfl) :
    ∃ t, PS X (.Assign [.Name y py] (.ListComp elt [⟨tg, iter, ifs, 0⟩] scope pos) spos) t ∧ ∀ σ H G env N, At X.K z J.G0 J.H0 σ H G env → (W.bind (mi env) (compW (turnW (own.map (·.2)) f mt me env))).wp (OwnQ X.K z G H fun v H' => N.nx (σ.set i (some v)) H') J.xQ → t N σ H := by
  obtain ⟨wi, pi, qi⟩ := hi
  refine ⟨_, ps_set hN hy hyl (pe_lc (g := fun v σ H R => ∀ s h C cl fp, (hg s h C cl fp).choose v σ H R) (tt := fun σ H Q => ∀ s h C cl fp, (ht s h C cl fp).choose σ H Q) (te := fun σ H Q => ∀ s h C cl fp, (he s h C cl fp).choose σ H Q) hc hN pi ok
    (fun s h C cl fp => ⟨fun pins s' σ H v u R I r q => (hg s h C cl fp).choose_spec.1.run pins s' σ H v u R I r (q s h C cl fp)⟩) (fun s h C cl fp => ⟨fun pins s' σ H R I q => (ht s h C cl fp).choose_spec.1.run pins s' σ H R I (q s h C cl fp)⟩) (fun s h C cl fp => ⟨fun pins s' σ H R I q => (he s h C cl fp).choose_spec.1.run pins s' σ H R I (q s h C cl fp)⟩) hs) hw hf, fun σ H G env N at_ h => ?_⟩
  exact lc_own (Q := fun v H' => N.nx (σ.set i (some v)) H') hj qi (fun v d σ H G env R at_ dv h s h' C cl fp => (hg s h' C cl fp).choose_spec.2 v d σ H G env R at_ dv h) (fun σ H G env Q at_ h s h' C cl fp => (ht s h' C cl fp).choose_spec.2 σ H G env Q at_ h) (fun σ H G env Q at_ h s h' C cl fp => (he s h' C cl fp).choose_spec.2 σ H G env Q at_ h) at_ h
end
end Rg

set_option Elab.async false
set_option linter.all false
set_option maxRecDepth 100000
set_option maxHeartbeats 4500000
/-! the rules by data: texts sorted, by their length too -/
namespace Rg
open PySem PySem.Spec PyProof.Rows L2
/-- texts in their order -/
def ordS (ls : List (List Nat)) : List (List Nat) := ls.mergeSort fun a b => decide (a ≤ b)
/-- the shorter ones first -/
def ordL (ls : List (List Nat)) : List (List Nat) := ls.mergeSort fun a b => decide ((a.length : Int) ≤ (b.length : Int))
/-- by length and order -/
def ordK (ls : List (List Nat)) : List (List Nat) := ls.mergeSort (PySem.W.dataLe false fun l => PyData.tuple [.int (l.length : Int), .str (sOf l)])
/-- sorted, by such an order -/
def sortD (f : List (List Nat) → List (List Nat)) : D → W D
  | .lst ds => match strsOf ds with
    | some ls => W.bind (W.need (ls.length ≤ 1000)) fun _ => W.pure (.lst ((f ls).map D.str))
    | none => W.fail
  | _ => W.fail
/-- the text l -/
def IsS (v : Value) (l : List Nat) : Prop := ∃ t, v = Value.str (sOf l) t
theorem isS_of : ∀ {ls : List (List Nat)} {its : List Value}, Vals ((ls.map sOf).map V.str) its → PySem.W.EachIs IsS its ls
  | [], _, .nil => .nil
  | _ :: _, _, .cons r q => .cons r (isS_of q)
theorem of_isS : ∀ {ls : List (List Nat)} {its : List Value}, PySem.W.EachIs IsS its ls → Vals ((ls.map sOf).map V.str) its
  | [], _, .nil => .nil
  | _ :: _, _, .cons r q => .cons r (of_isS q)
theorem dens_S {K : PySem.W.Frag} {z : Zk} {G : Hp} : ∀ {ls : List (List Nat)}, (∀ l ∈ ls, l.length ≤ big ∧ ∀ c ∈ l, c < 1114112) → Dens K z G ((ls.map sOf).map V.str) (ls.map D.str)
  | [], _ => .nil
  | l :: r, h => .cons (.str l (h l List.mem_cons_self).1 (h l List.mem_cons_self).2) (dens_S fun x hx => h x (List.mem_cons_of_mem _ hx))
theorem strs_big {K : PySem.W.Frag} {z : Zk} {G : Hp} : ∀ {vs : List V} {ds : List D} {ls : List (List Nat)}, Dens K z G vs ds → strsOf ds = some ls → vs = (ls.map sOf).map V.str ∧ ∀ l ∈ ls, l.length ≤ big ∧ ∀ c ∈ l, c < 1114112
  | _, [], _, h, e => by
    cases h
    cases e
    exact ⟨rfl, fun _ q => nomatch q⟩
  | _, d :: r, ls, .cons a t, e => by
    cases a with
    | str l h1 h2 =>
      obtain ⟨l', h3, rfl⟩ := Option.map_eq_some_iff.mp (show (strsOf r).map (l :: ·) = some ls from e)
      obtain ⟨e1, e2⟩ := strs_big t h3
      refine ⟨by rw [e1]; rfl, fun x hx => ?_⟩
      cases hx with
      | head => exact ⟨h1, h2⟩
      | tail _ rest => exact e2 x rest
    | _ => cases e
section
variable {X : Cx} {z : Zk} {J : Jx X.K z}
def rSrt (K : PySem.W.Frag) (f : List (List Nat) → List (List Nat)) : List V → Hp → VK → Prop := fun vs H Q => ∃ (a : Addr) (ls : List (List Nat)), vs = [V.ref a] ∧ SqL K H a ((ls.map sOf).map V.str) ∧ ls.length ≤ 1000 ∧ (∀ l ∈ ls, l.length ≤ big) ∧ ∀ p, H p = none → Q (.ref p) (upd H p (.lst (((f ls).map sOf).map V.str)))
theorem cr_srt {k : Nat} (hr : Room k X.A) : CallR X (.builtin "sorted") (rSrt X.K ordS) := by
  intro pins s σ H vs us Q I rr h
  obtain ⟨a, ls, rfl, hs, hn, hb, q⟩ := h
  obtain ⟨its, rv, hl, _⟩ := I.list (xs := (ls.map sOf).map V.str) hs
  rw [Vals.ref1 rr]
  have e := isS_of rv
  have un := hr.un
  refine PySem.W.sorted_data (enc := fun l => PyData.str (sOf l)) hl.isList e (e.mono fun v l hv => ?_) (.of fun _ _ => by simp [PySem.W.alike]) (.others fun l => ⟨nofun, fun _ => nofun⟩) (by rw [sizeLine_eq]; omega) (fun l _ => ?_) fun out ho eo => ?_
  · obtain ⟨t, rfl⟩ := hv
    exact ⟨[], .str _ _⟩
  · have : (PyData.str (sOf l)).depth = 0 := by simp [PyData.depth]
    omega
  · rw [PySem.W.dataLe_str] at eo
    obtain ⟨ep, he'⟩ := PyProof.Rows.sortedAll_at s.heap its (List.toArray out)
    have eo' : PySem.W.EachIs IsS out (ordS ls) := eo
    have hlen : (((ordS ls).map sOf).map V.str).length ≤ sizeLine := by
      rw [List.length_map, List.length_map, ordS, List.length_mergeSort, sizeLine_eq]
      omega
    exact ⟨.ref _, upd H (s.heap.objs.size + 1) (.lst (((ordS ls).map sOf).map V.str)), I.laid (t' := s.toks) (fun _ _ => PyProof.Rows.sortedAll_old) (Nat.le_succ _) ⟨hlen, _, ep, of_isS eo', he'⟩, rfl, q _ (I.hok.fresh (Nat.le_succ _))⟩
theorem srt_den {f : List (List Nat) → List (List Nat)} (hf : ∀ ls, (f ls).Perm ls) {vs : List V} {ds : List D} {H G : Hp} {Q : VK} (vw : Vw z G H) (hd : Dens X.K z G vs ds) (h : (one1 (sortD f) ds).wp (VQ X.K z G H Q) J.xQ) : rSrt X.K f vs H Q := by
  obtain ⟨v, d, rfl, rfl, a1, h⟩ := one1_wp hd h
  cases a1 with
  | @lst a xs ds q r l =>
    cases e : strsOf ds with
    | none =>
      simp only [sortD, e] at h
      exact h.elim
    | some ls =>
      simp only [sortD, e] at h
      obtain ⟨hn, h⟩ := h
      obtain ⟨rfl, hb⟩ := strs_big r e
      refine ⟨a, ls, rfl, SqL.of (vw.sub _ _ q), hn, fun l hl => (hb l hl).1, fun p np => h _ _ _ (.new vw np) (.lst upd_same (dens_S fun l hl => hb l ((hf ls).mem_iff.mp hl)) ?_)⟩
      rw [List.length_map, (hf ls).length_eq]
      exact Nat.le_trans hn (by decide)
  | _ => exact h.elim
theorem ordS_perm (ls : List (List Nat)) : (ordS ls).Perm ls := List.mergeSort_perm _ _
theorem ordL_perm (ls : List (List Nat)) : (ordL ls).Perm ls := List.mergeSort_perm _ _
theorem ordK_perm (ls : List (List Nat)) : (ordK ls).Perm ls := List.mergeSort_perm _ _
/-- sorted(x) of texts -/
theorem ca_srt {k : Nat} (hr : Room k X.A) : CaD X J (.builtin "sorted") (one1 (sortD ordS)) := ⟨_, cr_srt hr, fun vs ds H G Q vw hd h => srt_den ordS_perm vw hd h⟩
end
section
variable {X : Cx} {z : Zk} {J : Jx X.K z} {e : Expr} {ma : Ev → W D} {p pl kp pos : Pos}
theorem pe_srtLen {ta : TE} {k : Nat} (hr : Room k X.A) (hg : Gl X "sorted") (hm : X.mg "sorted" = none) (hgl : Gl X "len") (hml : X.mg "len" = none) (ha : PE X e ta) (he : starEach [e] X.env = (false, eval e X.env) :: starEach [] X.env := by rfl)
    (hb : backTo pos (starEach [e] X.env) = (false, eval e X.env) :: backTo pos (starEach [] X.env) := by rfl) (hpl : (backTo pos (starEach [e] X.env)).any (·.1) = false := by rfl) :
    PE X (.Call (.Name "sorted" p) [e] [⟨some "key", .Name "len" pl, kp⟩] pos) (fun σ H Q => ta σ H fun v H1 => rSrt X.K ordL [v] H1 Q) := by
  refine ⟨fun pins s σ H Q I h => ?_⟩
  refine wpAny_Call_Name_kw (ld_blt I hg hm (u := .builtin "sorted") (by rfl) ?_)
  refine PyProof.Rows.callWith_kw (thn ((pa_cons ha pa_nil he).run pos pins s σ H (fun vs H1 => rSrt X.K ordL vs H1 Q) I h) fun us s1 ⟨vs, H1, I1, r1, q1⟩ => ?_) hb hpl (by rfl) (by rfl)
  refine wpAny_evalAll_cons (wpAny_bind (ld_blt I1 hgl hml (u := .builtin "len") (by rfl) (wpAny_bind (wpAny_standAt (wpAny_pure (wpAny_evalAll_nil ?_))))))
  show wpAny _ _ (call (.builtin "sorted") us [(Str.ofString "key", .builtin "len")]) _ _ _
  obtain ⟨a, ls, rfl, hs, hn, hbg, q⟩ := q1
  obtain ⟨its, rv, hl, _⟩ := I1.list hs
  rw [Vals.ref1 r1]
  have ei := isS_of rv
  have un := hr.un
  refine PySem.W.sorted_key_data (b := false) (fun l : List Nat => PyData.int (l.length : Int)) hl.isList ei (.of fun _ _ => by simp [PySem.W.alike]) (.others fun l => ⟨nofun, fun _ => nofun⟩) (by rw [sizeLine_eq]; omega) (fun l _ => ?_) (PyProof.Rows.ksk_s1 _ _) (fun _ => PyProof.Rows.ksk_l1 _ _) (fun _ => PyProof.Rows.ksk_t4 _ _) (fun v l hv hm h tk kp => ?_) fun out c h' tk kp fr hD ho eo => ?_
  · have : (PyData.int (l.length : Int)).depth = 0 := by simp [PyData.depth]
    omega
  · obtain ⟨t, rfl⟩ := hv
    have hb1 := hbg l hm
    have hb2 : l.length ≤ 100000 := hb1
    refine PySem.P.len_str (by rw [len_sOf]; omega) ⟨_, _, rfl, fun _ _ z => z, ?_⟩
    rw [len_sOf]
    exact .int _ _
  · rw [PySem.W.dataLe_int] at eo
    have eo' : PySem.W.EachIs IsS out (ordL ls) := eo
    have hlen : (((ordL ls).map sOf).map V.str).length ≤ sizeLine := by
      rw [List.length_map, List.length_map, ordL, List.length_mergeSort, sizeLine_eq]
      omega
    exact ⟨.ref _, upd H1 (s1.heap.objs.size + 1) (.lst (((ordL ls).map sOf).map V.str)), I1.laid (t' := tk) kp (Nat.le_succ _) ⟨hlen, _, c, of_isS eo', hD⟩, rfl, q _ (I1.hok.fresh (Nat.le_succ _))⟩
/-- sorted(x, key=len) of texts -/
theorem ev_srtLen {k : Nat} (hr : Room k X.A) (hg : Gl X "sorted") (hm : X.mg "sorted" = none) (hgl : Gl X "len") (hml : X.mg "len" = none) (ha : EV X J e ma) (he : starEach [e] X.env = (false, eval e X.env) :: starEach [] X.env := by rfl)
    (hb : backTo pos (starEach [e] X.env) = (false, eval e X.env) :: backTo pos (starEach [] X.env) := by rfl) (hpl : (backTo pos (starEach [e] X.env)).any (·.1) = false := by rfl) :
    EV X J (.Call (.Name "sorted" p) [e] [⟨some "key", .Name "len" pl, kp⟩] pos) (fun env => W.bind (ma env) (sortD ordL)) := by
  obtain ⟨t, pa, qa⟩ := ha
  refine ⟨_, pe_srtLen hr hg hm hgl hml pa he hb hpl, fun σ H G env Q at_ h => qa σ H G env _ at_ ((ma env).mono (fun d h1 v H1 G1 g1 d1 => ?_) (fun _ q => q) h)⟩
  exact srt_den (J := J) ordL_perm g1.vw (.cons d1 .nil) ((sortD ordL d).mono (VQ.grow g1) (fun _ q => q) h1)
end
end Rg

set_option Elab.async false
set_option linter.all false
set_option maxRecDepth 100000
set_option maxHeartbeats 4500000
/-! the rules by data: texts sorted by a lambda (their length, and they themselves) -/
namespace Rg
open PySem PySem.Spec PyProof.Rows LamX L2
section
variable {prog : Program} {w : World} {A : Around} {E : Value → Shared → Prop} {s : Shared} {env : Env} {x : Str} {mg mb m : Str → Option Value} {a : Str} {t : Tok} {Q : Value → Shared → Prop} {q1 q2 q3 q4 q5 : Pos} {j : Nat}
/-- (len(x), x) -/
theorem key_body (hk : env.scope.kind = .function) (hx : env.kindOf x = some .local) (hgl : env.kindOf "len" = some .globalImplicit) (hg : s.heap.Ns env.globals mg) (hml : mg "len" = none) (hb : s.heap.Ns env.builtins mb) (hv : mb "len" = some (.builtin "len")) (hn : s.heap.Ns env.locals m) (hm : m x = some (.str a t))
    (hfit : a.length ≤ 100000) (hd : (x == ("__debug__" : Str)) = false) (h : ∀ h' tk v, (∀ b o, s.heap.get? b = some o → h'.get? b = some o) → Reads h' v (.tuple [.int (a.length : Int), .str a]) [] → Q v { s with heap := h', toks := tk }) :
    wpAny (model prog w) A (eval (.Tuple [.Call (.Name "len" q1) [.Name x q2] [] q3, .Name x q4] j q5) env) Q E s := by
  refine wpAny_Tuple_spliced ?_
  show wpAny _ _ (spliced [(false, eval (.Call (.Name "len" q1) [.Name x q2] [] q3) env), (false, eval (.Name x q4) env)]) _ _ _
  refine Calls.spliced_cons (wpAny_Call_Name_kw (Calls.Name_function_global hk hgl (Calls.loadGlobal_builtin hg hml hb hv ?_)))
  show wpAny _ _ (callWith q3 (.builtin "len") [] [(false, eval (.Name x q2) env)] []) _ _ _
  refine Calls.callWith_builtin rfl (Calls.evalArgs_plain (Calls.spliced_cons (wpAny_Name (wpAny_loadName_local hk hx hn hm (Calls.spliced_nil ?_)) hd)))
  refine P.len_str (by omega) ?_
  refine Calls.spliced_cons (wpAny_Name (wpAny_loadName_local hk hx hn hm ?_) hd)
  refine Calls.spliced_nil ⟨by rw [sizeLine_eq]; show 2 ≤ _; decide, ?_⟩
  refine h _ _ _ (fun b o z => Heap.get?_push_of_some _ z) ?_
  exact .tuple (Heap.get?_push_size _ rfl) rfl rfl (ReadsAll.cons (.int _ _) (ReadsAll.cons (.str _ _) .nil))
end
/-- a lambda x: (len(x), x) -/
def keyE (x : Str) (q1 q2 q3 q4 q5 : Pos) (j : Nat) : Expr := .Tuple [.Call (.Name "len" q1) [.Name x q2] [] q3, .Name x q4] j q5
structure KeyLam (params : Arguments) (scope : Scope) (body : Expr) (x : Str) : Prop where
  shape : ∃ q1 q2 q3 q4 q5 j, body = .Tuple [.Call (.Name "len" q1) [.Name x q2] [] q3, .Name x q4] j q5
  bind : ∀ (q : Str) (cl : List (Str × Addr)) (pm cv ctv u : Value), bindArgs (PySem.W.kla_fn "<lambda>" q params body scope cl pm cv ctv) ⟨[u], []⟩ = pure [(x, u)]
  kind : scope.kind = .function
  co : (scope.isCoroutine) = false
  gen : (scope.isGenerator) = false
  none : ∀ y ∈ scope.names, y.2 ≠ .free ∧ y.2 ≠ .cell
  loc : scope.names.lookup x = some NameKind.local
  len : scope.names.lookup ("len" : Str) = some .globalImplicit
  dbg : (x == ("__debug__" : Str)) = false
section
variable {X : Cx} {z : Zk} {J : Jx X.K z} {e body : Expr} {ma : Ev → W D} {p lpos kp pos : Pos} {params : Arguments} {scope : Scope} {x : Str} {T : List (Addr × Str)} {c P : Addr}
theorem pe_srtLam {ta : TE} {k : Nat} (L : KeyLam params scope body x) (hr : Room (k + 2) X.A) (hg : Gl X "sorted") (hm : X.mg "sorted" = none) (hml : X.mg "len" = none) (TB : TabB X.base X.mg c P) (hcode : X.env.code = .ref c) (inT : (P, X.env.qual ++ "<lambda>") ∈ T) (one : ∀ p ∈ T, p.1 = P → p.2 = X.env.qual ++ "<lambda>")
    (nodef : defaultsOf params X.env = ([], [])) (ha : PE X e ta) (he : starEach [e] X.env = (false, eval e X.env) :: starEach [] X.env := by rfl)
    (hb : backTo pos (starEach [e] X.env) = (false, eval e X.env) :: backTo pos (starEach [] X.env) := by rfl) (hpl : (backTo pos (starEach [e] X.env)).any (·.1) = false := by rfl) :
    PE X (.Call (.Name "sorted" p) [e] [⟨some "key", .Lambda params body scope lpos, kp⟩] pos) (fun σ H Q => ta σ H fun v H1 => Tabs T H1 ∧ ∀ H2, ButP P H1 H2 → Tabs T H2 → rSrt X.K ordK [v] H2 Q) := by
  refine ⟨fun pins s σ H Q I h => ?_⟩
  refine wpAny_Call_Name_kw (ld_blt I hg hm (u := .builtin "sorted") (by rfl) ?_)
  refine PyProof.Rows.callWith_kw (thn ((pa_cons ha pa_nil he).run pos pins s σ H (fun vs H1 => Tabs T H1 ∧ ∀ H2, ButP P H1 H2 → Tabs T H2 → rSrt X.K ordK vs H2 Q) I h) fun us s0 ⟨vs, H0, I0, r1, t0, q0⟩ => ?_) hb hpl (by rfl) (by rfl)
  refine wpAny_evalAll_cons (wpAny_bind (lam_mk I0 TB hcode inT one t0 nodef (fun y hy ef => ((L.none y hy).1 ef).elim) fun f c' pm ctv H1 s1 I1 but t1 atf nof far kept => wpAny_bind (wpAny_standAt (wpAny_pure (wpAny_evalAll_nil ?_)))))
  show wpAny _ _ (call (.builtin "sorted") us [(Str.ofString "key", .ref f)]) _ _ _
  obtain ⟨a, ls, rfl, hs, hn, hbg, q⟩ := q0 H1 but t1
  obtain ⟨its, rv, hl, _⟩ := I1.list hs
  rw [Vals.ref1 r1]
  have ei := isS_of rv
  have un := hr.un
  obtain ⟨⟨oc, vs', t', hoc, hdc, hvc⟩, _, _⟩ := I1.hok c' _ kept
  obtain ⟨mb, b1, b2⟩ := I1.mod.blt
  refine PySem.W.sorted_key_data (b := false) (fun l : List Nat => PyData.tuple [.int (l.length : Int), .str (sOf l)]) hl.isList ei (.of fun _ _ => by simp [PySem.W.alike, PySem.W.alikeAll]) (.tuples fun l => ⟨_, _, rfl⟩) (by rw [sizeLine_eq]; omega) (fun l _ => ?_) (PyProof.Rows.ksk_s1 _ _) (fun _ => PyProof.Rows.ksk_l1 _ _) (fun _ => PyProof.Rows.ksk_t1 _ _) (fun v l hv hm2 h tk kp2 => ?_) fun out c2 h' tk kp2 fr hD ho eo => ?_
  · have : (PyData.tuple [.int (l.length : Int), .str (sOf l)]).depth = 1 := by simp [PyData.depth, PyData.depthAll]
    omega
  · obtain ⟨t, rfl⟩ := hv
    have hb1 : l.length ≤ 100000 := hbg l hm2
    have rc : codeAny (model X.prog X.w) X.A.in1.in1 (.call (.ref f) ⟨[.str (sOf l) t], []⟩) (fun r s' => ∃ u, r = .ok (.ret u) ∧ PySem.W.KeyPure (.tuple [.int (l.length : Int), .str (sOf l)]) { s1 with heap := h, toks := tk } u s') { s1 with heap := h, toks := tk } := by
      refine PySem.W.kla_callFunE hr.in1.in1.depth (kp2 _ _ atf) rfl L.co L.gen rfl ⟨c', oc, vs', t', rfl, kp2 _ _ hoc, hdc, hvc⟩ ?_
      rw [L.bind]
      refine wpAny_pure (wpAny_newFunctionEnv (fun y hy => (L.none y hy).2) (fun y hy => by rw [List.mem_singleton.mp hy]; exact L.loc) (fun h₁ hns hsb => ⟨?_, ?_⟩) L.kind)
      · exact (I1.nolimit.keeps kp2).fresh _ hsb
      · have kp3 : ∀ b o, h.get? b = some o → h₁.get? b = some o := fun b o e => hsb.extBut b o (Nat.ne_of_lt (Heap.lt_size e)) (Heap.get?_push_of_some _ e)
        have kb : ∀ b o, X.base.get? b = some o → h₁.get? b = some o := fun b o e => kp3 b o (kp2 b o (I1.bk b o e))
        show codeAny _ _ (.expr body (lamEnv X scope h.objs.size f c')) _ _
        obtain ⟨q1, q2, q3, q4, q5, j, rfl⟩ := L.shape
        refine PySem.W.kla_codeExpr (key_body (mg := X.mg) (mb := mb) (a := sOf l) (t := t) L.kind L.loc L.len (I1.mod.glob.keeps kb) hml (b1.keeps kb) ((b2 "len" (by decide)).trans (by rfl)) hns (by simp) (by rw [len_sOf]; exact hb1) L.dbg fun h' tk' v k4 rd => ⟨_, rfl, h', tk', rfl, fun b o e => k4 b o (kp3 b o e), ?_⟩)
        rw [len_sOf] at rd
        exact rd
    refine wpAny_call (codeAny_mono rc fun rr s2 hq => ?_)
    obtain ⟨u, rfl, hq⟩ := hq
    exact hq
  · have eo' : PySem.W.EachIs IsS out (ordK ls) := eo
    have hlen : (((ordK ls).map sOf).map V.str).length ≤ sizeLine := by
      rw [List.length_map, List.length_map, ordK, List.length_mergeSort, sizeLine_eq]
      omega
    exact ⟨.ref _, upd H1 (s1.heap.objs.size + 1) (.lst (((ordK ls).map sOf).map V.str)), I1.laid (t' := tk) kp2 (Nat.le_succ _) ⟨hlen, _, c2, of_isS eo', hD⟩, rfl, q _ (I1.hok.fresh (Nat.le_succ _))⟩
end
end Rg

set_option Elab.async false
set_option linter.all false
set_option maxRecDepth 100000
set_option maxHeartbeats 4500000
/-! defs that make lambdas of their own: more than one table may change -/
namespace Rg
open PySem PySem.Spec PyProof.Rows LamX L2
/-- as those see it who change the tables tb alone -/
def Zk.of (z : Zk) (tb : List (Addr × Str)) : Zk := ⟨z.cm, ⟨z.bg.bag, tb, z.bg.lm⟩⟩
/-- tb: some of the tables of z -/
structure SubT (z : Zk) (tb : List (Addr × Str)) : Prop where
  sub : ∀ p ∈ tb, p ∈ z.bg.tb
  ap : ∀ p ∈ z.bg.tb, p ∈ tb ∨ ∀ q ∈ tb, p.1 ≠ q.1
section
variable {K : PySem.W.Frag} {z : Zk} {G G' H H' : Hp} {tb : List (Addr × Str)}
theorem SubT.self : SubT z z.bg.tb := ⟨fun _ h => h, fun _ h => .inl h⟩
theorem Vw.of (v : Vw z G H) (s : SubT z tb) : Vw (z.of tb) G H := ⟨v.sub, v.bag, ⟨fun p hp => v.tab.1 p (s.sub p hp), fun p hp => v.tab.2 p (s.sub p hp)⟩⟩
theorem Den.of {v : V} {d : D} (h : Den K z G v d) : Den K (z.of tb) G v d := Den.up (z := z.of tb) h.low
theorem Dens.of {v : List V} {d : List D} (h : Dens K z G v d) : Dens K (z.of tb) G v d := Dens.up (z := z.of tb) h.low
theorem Den.unof {v : V} {d : D} (h : Den K (z.of tb) G v d) : Den K z G v d := Den.up (z := z) (Den.low (z := z.of tb) h)
theorem XDen.unof {cls : Value} {dx : Option Addr} {x : ExD} (h : XDen K (z.of tb) G H cls dx x) : XDen K z G H cls dx x := by
  obtain ⟨C, a, fs, h1, h2, h3, h4, h5⟩ := h
  exact ⟨C, a, fs, h1, h2, h3, h4, DenF.up (z := z) (DenF.low (z := z.of tb) h5)⟩
theorem Grow.unof (g : Grow (z.of tb) G H G' H') (v : Vw z G H) (s : SubT z tb) : Grow z G H G' H' := by
  have keep : ∀ b o, H b = some o → (∀ xs, o ≠ .lst xs) → (∀ q ∈ tb, b ≠ q.1) → H' b = some o := fun b o e n nt => g.fr b o ⟨fun B L q e2 => by
    obtain ⟨ns, i, d, s, h1, _⟩ := (v.bag B L q).1
    rw [e2, h1] at e
    exact n _ (Option.some.inj e).symm, nt⟩ e
  have far : ∀ b q, H b = some (CodeO b q) → ∀ p ∈ tb, b ≠ p.1 := fun b q e p hp z1 => by
    obtain ⟨ps, h1, _⟩ := v.tab.1 p (s.sub p hp)
    rw [z1, h1] at e
    exact nomatch (Option.some.inj e)
  refine ⟨fun a o n h => g.fr a o ⟨n.1, fun p hp => n.2 p (s.sub p hp)⟩ h, g.gg, fun a o h x => g.ap a o h (x.elim (fun e => .inl ?_) .inr), ⟨g.vw.sub, g.vw.bag, ⟨fun p hp => ?_, fun p hp => ?_⟩⟩⟩
  · show tb = []
    cases tb with
    | nil => rfl
    | cons p r =>
      have := s.sub p List.mem_cons_self
      rw [e] at this
      cases this
  · rcases s.ap p hp with q | q
    · exact g.vw.tab.1 p q
    · obtain ⟨ps, h1, h2, h3⟩ := v.tab.1 p hp
      refine ⟨ps, keep _ _ h1 (fun _ e => nomatch e) q, h2, fun pos cv hc => ?_⟩
      obtain ⟨cd, e1, e2⟩ := h3 pos cv hc
      exact ⟨cd, e1, keep _ _ e2 (fun _ e => nomatch e) (far _ _ e2)⟩
  · obtain ⟨ps, h1, _⟩ := v.tab.1 p hp
    exact g.ap _ _ h1 (.inr rfl) (v.tab.2 p hp)
theorem Grow.tabM {H1 : Hp} {P : Addr} {q : Str} (inT : (P, q) ∈ z.bg.tb) (v : Vw z G H) (but : ButP P H H1) (t1 : Tabs z.bg.tb H1) : Grow z G H G H1 := by
  have gP := v.tab.2 _ inT
  obtain ⟨ps, hP, _⟩ := v.tab.1 _ inT
  have lst : ∀ {b : Addr} {xs : List V}, H b = some (.lst xs) → H1 b = some (.lst xs) := fun {b xs} e => but b _ (fun z => by rw [z, hP] at e; exact nomatch (Option.some.inj e)) e
  refine ⟨fun a o n h => but a o (n.2 _ inT) h, Same.refl _, fun _ _ _ _ g => g, ⟨fun a o h => but a o (fun z => by rw [z, gP] at h; cases h) (v.sub a o h), fun B L e => ?_, ⟨t1, v.tab.2⟩⟩⟩
  obtain ⟨⟨ns, i, d, s, h1, h2, h3⟩, k1, k2⟩ := v.bag B L e
  exact ⟨⟨ns, i, d, s, lst h1, lst h2, h3⟩, k1, k2⟩
end
/-- a def by what it does with data, where it may change the tables tb -/
def spT (K : PySem.W.Frag) (cm : Str → Option Addr) (tb : List (Addr × Str)) (n : Nat) (m : List D → W D) : Sp := fun vs H Q E => ∃ (bg : Bl) (G : Hp) (ds : List D), Vw ⟨cm, ⟨bg.1, tb, bg.2⟩⟩ G H ∧ Dens K ⟨cm, ⟨bg.1, tb, bg.2⟩⟩ G vs ds ∧ ds.length = n ∧
  (m ds).wp (VQ K ⟨cm, ⟨bg.1, tb, bg.2⟩⟩ G H Q) (fun x => ∀ cls dx H' G', Grow ⟨cm, ⟨bg.1, tb, bg.2⟩⟩ G H G' H' → XDen K ⟨cm, ⟨bg.1, tb, bg.2⟩⟩ G' H' cls dx x → E cls dx H')
abbrev FnT (P : Program) (w : World) (K : PySem.W.Frag) (mg : Str → Option Value) (base : Heap) (cm : Str → Option Addr) (tb : List (Addr × Str)) (k : Nat) (f : Addr) (fd : FuncData) (ps : List Str) (m : List D → W D) : Prop :=
  FnOk P w K mg base (L2.CX P w) k f fd ps (spT K cm tb ps.length m)
section
variable {P : Program} {w : World} {K : PySem.W.Frag} {mg : Str → Option Value} {base : Heap} {cm : Str → Option Addr} {tb : List (Addr × Str)}
theorem fnT {x qual : Str} {st : Stmt} {f : Addr} {fd : FuncData} {N ps : List Str} {k : Nat} {mb : Ev → W Fl} (F : Fun K x qual st f fd) (S : FnScope N ps (defScope st))
    (body : ∀ (cdv : Value) (A : Around) (outer : List Env) (s : Shared) (H : Hp) (bg : Bl) (J : Jx K ⟨cm, ⟨bg.1, tb, bg.2⟩⟩), Room k (A.deeper (envOfC qual (defScope st) s.heap.objs.size f cdv)) →
      Passes (L2.CX P w) (cxOf (L2.CX P w) P w K mg base N qual (defScope st) f cdv A outer s H J.E) J.E → PassesOwn (model P w) (A.deeper (envOfC qual (defScope st) s.heap.objs.size f cdv)) (envOfC qual (defScope st) s.heap.objs.size f cdv) (cxOf (L2.CX P w) P w K mg base N qual (defScope st) f cdv A outer s H J.E).xe →
      SVs (cxOf (L2.CX P w) P w K mg base N qual (defScope st) f cdv A outer s H J.E) J (defBody st) mb) : FnT P w K mg base cm tb (k + 1) f fd ps (runF N.length mb) := by
  refine F.okX S (fun vs H Q E h => ?_) (fun cdv A outer s H vs Q E hr h => ?_)
  · obtain ⟨bg, G, ds, _, h1, h2, _⟩ := h
    rw [h1.len]
    exact h2
  · obtain ⟨bg, G, ds, vw, hd, _, h⟩ := h
    obtain ⟨t, pt, qt⟩ := body cdv A outer s H bg ⟨G, H, E, fun x => ∀ cls dx H' G', Grow ⟨cm, ⟨bg.1, tb, bg.2⟩⟩ G H G' H' → XDen K ⟨cm, ⟨bg.1, tb, bg.2⟩⟩ G' H' cls dx x → E cls dx H', fun x cls dx H' G' q g d => q cls dx H' G' g d⟩ hr
      (passes_call (takes_of rfl rfl rfl rfl) (fun _ _ _ _ h => h)) (passes_of rfl)
    refine ⟨t, pt, qt (L2.start N vs) H G (startE N.length ds) _ ⟨.refl vw, vw, start_en hd, ⟨fun i ds e => (startE_nomut hd.nomut e).elim, fun i j ds es p _ e => (startE_nomut hd.nomut e).elim⟩⟩ ((mb _).mono (fun fl h1 => ?_) (fun _ q => q) h)⟩
    cases fl with
    | nx env => exact fun σ H' G' at' _ => h1 .non H' G' at'.gr .non
    | rt d => exact fun v H' G' g dv => h1 v H' G' g dv
    | bk _ => exact h1.elim
    | ct _ => exact h1.elim
end
section
variable {X : Cx} {z : Zk} {J : Jx X.K z} {e : Expr} {es : List Expr} {ma : Ev → W D} {ms : Ev → W (List D)} {pos p : Pos} {x : Str} {tb : List (Addr × Str)}
theorem askT {m : List D → W D} {n : Nat} {σ : L2.St} {H G : Hp} {env : Ev} {vs : List V} {ds : List D} {Q : VK} {H1 G1 : Hp} (st : SubT z tb) (at_ : At X.K z J.G0 J.H0 σ H G env) (g : Grow z G H G1 H1) (hd : Dens X.K z G1 vs ds) (hl : ds.length = n)
    (h : (m ds).wp (VQ X.K z G H Q) J.xQ) : spT X.K z.cm tb n m vs H1 Q J.E :=
  ⟨(z.bg.bag, z.bg.lm), G1, ds, g.vw.of st, hd.of, hl, (m ds).mono (fun d q v H' G' g' dv => q v H' G' (g.trans (Grow.unof g' g.vw st)) (Den.unof dv)) (fun x q cls dx H' G' g' xd => J.hE x cls dx H' G' q (at_.gr.trans (g.trans (Grow.unof g' g.vw st))) (XDen.unof xd)) h⟩
/-- a call of a def that may change the tables tb -/
theorem ev_callT {k : Nat} {f : Addr} {fd : FuncData} {ps : List Str} {m : List D → W D} (st : SubT z tb) (F : FnT X.prog X.w X.K X.mg X.base z.cm tb k f fd ps m) (hr : Room k X.A) (hg : Gl X x) (hm : X.mg x = some (.ref f)) (hk : PySem.W.keepIn X.K (.ref f) = true) (hb : Binds X.K fd ps [])
    (hx : Passes (L2.CX X.prog X.w) X J.E) (ha : AV X J (e :: es) ms) (hdb : (x == ("__debug__" : Str)) = false := by decide) (he : starEach (e :: es) X.env = (false, eval e X.env) :: starEach es X.env := by rfl) (hpl : (backTo pos (starEach es X.env)).any (·.1) = false := by rfl) {n : Nat} (hn : ps.length = n := by rfl) :
    EV X J (.Call (.Name x p) (e :: es) [] pos) (fun env => W.bind (ms env) (callM n m)) := by
  subst hn
  obtain ⟨ts, pa, qs⟩ := ha
  refine ⟨_, pe_call F hr hg hm hk hb .nil hx pa hdb he hpl, fun σ H G env Q at_ h => ?_⟩
  refine qs σ H G env _ at_ ((ms env).mono (fun ds h1 vs H1 G1 g1 d1 => ?_) (fun _ q => q) h)
  show spT X.K z.cm tb ps.length m (vs ++ []) H1 Q J.E
  rw [List.append_nil]
  exact askT st at_ g1 d1 h1.1 h1.2
/-- sorted(x, key=lambda y: (len(y), y)) of texts -/
theorem ev_srtLam {body : Expr} {params : Arguments} {scope : Scope} {y : Str} {lpos kp : Pos} {c P : Addr} {k : Nat} (L : KeyLam params scope body y) (hr : Room (k + 2) X.A) (hg : Gl X "sorted") (hm : X.mg "sorted" = none) (hml : X.mg "len" = none) (TB : TabB X.base X.mg c P) (hcode : X.env.code = .ref c)
    (inT : (P, X.env.qual ++ "<lambda>") ∈ z.bg.tb) (one : ∀ p ∈ z.bg.tb, p.1 = P → p.2 = X.env.qual ++ "<lambda>") (nodef : defaultsOf params X.env = ([], [])) (ha : EV X J e ma) (he : starEach [e] X.env = (false, eval e X.env) :: starEach [] X.env := by rfl)
    (hb : backTo pos (starEach [e] X.env) = (false, eval e X.env) :: backTo pos (starEach [] X.env) := by rfl) (hpl : (backTo pos (starEach [e] X.env)).any (·.1) = false := by rfl) :
    EV X J (.Call (.Name "sorted" p) [e] [⟨some "key", .Lambda params body scope lpos, kp⟩] pos) (fun env => W.bind (ma env) (sortD ordK)) := by
  obtain ⟨t, pa, qa⟩ := ha
  refine ⟨_, pe_srtLam (T := z.bg.tb) L hr hg hm hml TB hcode inT one nodef pa he hb hpl, fun σ H G env Q at_ h => qa σ H G env _ at_ ((ma env).mono (fun d h1 v H1 G1 g1 d1 => ⟨g1.vw.tab.1, fun H2 but t2 => ?_⟩) (fun _ q => q) h)⟩
  have g2 := Grow.tabM inT g1.vw but t2
  exact srt_den (J := J) ordK_perm g2.vw (.cons d1 .nil) ((sortD ordK d).mono (VQ.grow (g1.trans g2)) (fun _ q => q) h1)
end
end Rg

set_option Elab.async false
set_option linter.all false
set_option maxRecDepth 100000
set_option maxHeartbeats 4500000
/-! lambdas that are shown, where more than one table may change -/
namespace Rg
open PySem PySem.Spec PyProof.Rows LamX L2
/-- the lambda's function is shown, and its code -/
theorem Grow.layM {z : Zk} {G H H1 : Hp} {P f c : Addr} {q : Str} {o : HO} (inT : (P, q) ∈ z.bg.tb) (v : Vw z G H) (but : ButP P H H1) (t1 : Tabs z.bg.tb H1) (nf : H1 f = none) (hc : H1 c = some (CodeO c q)) : Grow z G H (upd (upd G c (CodeO c q)) f o) (upd H1 f o) := by
  have gP := v.tab.2 _ inT
  obtain ⟨ps, hP, _⟩ := v.tab.1 _ inT
  obtain ⟨ps1, hP1, _⟩ := t1 _ inT
  have cP : c ≠ P := fun e => by
    rw [e, hP1] at hc
    exact nomatch (Option.some.inj hc)
  have fP : f ≠ P := fun e => by
    rw [e, hP1] at nf
    cases nf
  have nf0 : ∀ b u, b ≠ P → H b = some u → b ≠ f := fun b u e h1 h2 => by
    have := but b u e h1
    rw [h2, nf] at this
    cases this
  have lst : ∀ {b : Addr} {xs : List V}, H b = some (.lst xs) → b ≠ P ∧ b ≠ f ∧ b ≠ c ∧ H1 b = some (.lst xs) := fun {b xs} e => by
    have nP : b ≠ P := fun z => by rw [z, hP] at e; exact nomatch (Option.some.inj e)
    have e1 := but b _ nP e
    have nC : b ≠ c := fun z => by
      rw [z, hc] at e1
      exact (nomatch (Option.some.inj e1))
    exact ⟨nP, nf0 b _ nP e, nC, e1⟩
  have shown : ∀ b u, G b = some u → b ≠ P := fun b u e z => by
    rw [z, gP] at e
    cases e
  refine ⟨fun a u n h => ?_, fun a u h => ?_, fun a u h nx n => ?_, ⟨fun a u h => ?_, fun B L e => ?_, ⟨t1.ext (same_new nf), fun p hp => ?_⟩⟩⟩
  · have nP := n.2 _ inT
    rw [upd_ne (nf0 a u nP h)]
    exact but a u nP h
  · have nP := shown a u h
    have h2 := v.sub a u h
    rw [upd_ne (nf0 a u nP h2)]
    by_cases e : a = c
    · subst e
      rw [upd_same, ← hc]
      exact but _ u nP h2
    · rw [upd_ne e]
      exact h
  · have nb : z.bg.tb ≠ [] := fun e => by
      rw [e] at inT
      cases inT
    have nx : isX u = false := nx.resolve_left nb
    by_cases e : a = P
    · subst e
      rw [upd_ne fP.symm, upd_ne cP.symm]
      exact gP
    · rw [upd_ne (nf0 a u e h), upd_ne (fun e2 => by
        have e3 := but a u e h
        rw [e2, hc] at e3
        rw [← Option.some.inj e3] at nx
        cases nx)]
      exact n
  · by_cases e : a = f
    · subst e
      rw [upd_same] at h ⊢
      exact h
    · rw [upd_ne e] at h ⊢
      by_cases e2 : a = c
      · subst e2
        rw [upd_same] at h
        rw [hc]
        exact h
      · rw [upd_ne e2] at h
        exact but a u (shown a u h) (v.sub a u h)
  · obtain ⟨⟨ns, i, d, s, h1, h2, h3⟩, k1, k2⟩ := v.bag B L e
    obtain ⟨_, n1, n2, j1⟩ := lst h1
    obtain ⟨_, n3, n4, j2⟩ := lst h2
    exact ⟨⟨ns, i, d, s, by rw [upd_ne n1]; exact j1, by rw [upd_ne n3]; exact j2, h3⟩, by rw [upd_ne n1, upd_ne n2]; exact k1, by rw [upd_ne n3, upd_ne n4]; exact k2⟩
  · obtain ⟨ps2, hp2, _⟩ := t1 p hp
    rw [upd_ne (ne_of_none hp2 nf), upd_ne (fun e => by
      rw [e, hc] at hp2
      exact nomatch (Option.some.inj hp2))]
    exact v.tab.2 p hp
section
variable {X : Cx} {z : Zk} {J : Jx X.K z}
/-- lambda: .., the i-th of this frame -/
theorem ev_layM {c P : Addr} {l : LamT} {i : Nat} {pos : Pos} (TB : TabB X.base X.mg c P) (hcode : X.env.code = .ref c) (inT : (P, X.env.qual ++ "<lambda>") ∈ z.bg.tb) (one : ∀ p ∈ z.bg.tb, p.1 = P → p.2 = X.env.qual ++ "<lambda>") (L : LamN X.N X.env.scope l.scope) (hp : l.plain X)
    (hlm : ∀ f c t, z.bg.lm.ho i f c t = lamO X l f c t) (hdu : z.bg.lm.du i = l.du) (hq : z.bg.lm.q = X.env.qual ++ "<lambda>") : EV X J (.Lambda l.params l.body l.scope pos) (fun _ => W.pure (.lam i)) := by
  refine ⟨_, pe_lay (T := z.bg.tb) TB hcode inT one L hp, fun σ H G env Q at_ h => ⟨at_.gr.vw.tab.1, fun H0 H1 t f cd a0 a1 but t1 nf hc => ?_⟩⟩
  have vw := at_.gr.vw
  have key : ∃ G0, Grow z G H G0 H0 ∧ (l.du = true → G0 t = some (DefO t)) := by
    cases e : l.du with
    | false =>
      rw [a0 e]
      exact ⟨G, .refl vw, fun q => nomatch q⟩
    | true =>
      obtain ⟨nt, rfl⟩ := a1 e
      exact ⟨_, .new vw nt, fun _ => upd_same⟩
  obtain ⟨G0, g0, dt⟩ := key
  have g1 := Grow.layM (o := lamO X l f cd t) inT g0.vw but t1 nf hc
  have fc : cd ≠ f := ne_of_none hc nf
  refine h (.ref f) _ _ (g0.trans g1) (.lam (c := cd) (t := t) ?_ ?_ fun d => ?_)
  · rw [hlm]
    exact upd_same
  · rw [hq, upd_ne fc]
    exact upd_same
  · rw [hdu] at d
    exact g1.gg _ _ (dt d)
end
end Rg

set_option Elab.async false
set_option linter.all false
set_option maxRecDepth 100000
set_option maxHeartbeats 4500000
/-! the tables of more defs than the law: how they are had from the head -/
namespace Rg
open PySem PySem.Spec PyProof.Rows LamX L2
theorem subT_cons {z : Zk} {a : Addr × Str} {tb : List (Addr × Str)} (h : z.bg.tb = a :: tb) (ne : ∀ q ∈ tb, a.1 ≠ q.1) : SubT z tb := by
  refine ⟨fun p hp => by rw [h]; exact List.mem_cons_of_mem _ hp, fun p hp => ?_⟩
  rw [h] at hp
  rcases List.mem_cons.mp hp with rfl | hq
  · exact .inr ne
  · exact .inl hq
theorem one_cons {a : Addr × Str} {tb : List (Addr × Str)} (ne : ∀ q ∈ tb, a.1 ≠ q.1) : ∀ p ∈ a :: tb, p.1 = a.1 → p.2 = a.2 := fun p hp e => by
  rcases List.mem_cons.mp hp with rfl | hq
  · rfl
  · exact (ne p hq e.symm).elim
section
variable {P : Program} {w : World} {K : PySem.W.Frag} {mg : Str → Option Value} {base : Heap} {cm : Str → Option Addr} {tb : List (Addr × Str)}
/-- a def by its body, its code object known -/
theorem fnTC {x qual : Str} {st : Stmt} {f cd : Addr} {fd : FuncData} {N ps : List Str} {k : Nat} {mb : Ev → W Fl}
    (F : ∃ (oc : Value) (od : Option Addr) (kV doc pm : Value) (an : Option Addr) (ct : Value) (osl : Array (Option Value)), fd = PySem.W.fnOf x qual (defArgs st) (defBody st) (defScope st) .none kV doc pm an (.ref cd) ct ∧ K.lookup f = some ⟨oc, od, .func fd, osl⟩ ∧ PySem.W.codeIn K (.ref cd) qual = true) (S : FnScope N ps (defScope st))
    (body : ∀ (A : Around) (outer : List Env) (s : Shared) (H : Hp) (bg : Bl) (J : Jx K ⟨cm, ⟨bg.1, tb, bg.2⟩⟩), Room k (A.deeper (envOfC qual (defScope st) s.heap.objs.size f (.ref cd))) →
      Passes (L2.CX P w) (cxOf (L2.CX P w) P w K mg base N qual (defScope st) f (.ref cd) A outer s H J.E) J.E → PassesOwn (model P w) (A.deeper (envOfC qual (defScope st) s.heap.objs.size f (.ref cd))) (envOfC qual (defScope st) s.heap.objs.size f (.ref cd)) (cxOf (L2.CX P w) P w K mg base N qual (defScope st) f (.ref cd) A outer s H J.E).xe →
      SVs (cxOf (L2.CX P w) P w K mg base N qual (defScope st) f (.ref cd) A outer s H J.E) J (defBody st) mb) : FnT P w K mg base cm tb (k + 1) f fd ps (runF N.length mb) := by
  obtain ⟨oc, od, kV, doc, pm, an, ct, osl, efd, lk, hcd⟩ := F
  rw [efd] at lk ⊢
  refine fn_of (ps := ps) lk hcd S (fun vs H Q E h => ?_) (fun A outer s H vs Q E hr h => ?_)
  · obtain ⟨bg, G, ds, _, h1, h2, _⟩ := h
    rw [h1.len]
    exact h2
  · obtain ⟨bg, G, ds, vw, hd, _, h⟩ := h
    obtain ⟨t, pt, qt⟩ := body A outer s H bg ⟨G, H, E, fun x => ∀ cls dx H' G', Grow ⟨cm, ⟨bg.1, tb, bg.2⟩⟩ G H G' H' → XDen K ⟨cm, ⟨bg.1, tb, bg.2⟩⟩ G' H' cls dx x → E cls dx H', fun x cls dx H' G' q g d => q cls dx H' G' g d⟩ hr
      (passes_call (takes_of rfl rfl rfl rfl) (fun _ _ _ _ h => h)) (passes_of rfl)
    refine ⟨t, pt, qt (L2.start N vs) H G (startE N.length ds) _ ⟨.refl vw, vw, start_en hd, ⟨fun i ds e => (startE_nomut hd.nomut e).elim, fun i j ds es p _ e => (startE_nomut hd.nomut e).elim⟩⟩ ((mb _).mono (fun fl h1 => ?_) (fun _ q => q) h)⟩
    cases fl with
    | nx env => exact fun σ H' G' at' _ => h1 .non H' G' at'.gr .non
    | rt d => exact fun v H' G' g dv => h1 v H' G' g dv
    | bk _ => exact h1.elim
    | ct _ => exact h1.elim
end
/-- at the head the tables of all defs xs are empty -/
theorem walk_owns {l : PySem.W.OpenLaw} {n k : Nat} {q : Program} {loose : List Str} {XP : (Str → Option Value) → Heap → Prop} {YP : World → Heap → Prop} {d : DefRec} {K : Params → PySem.W.Frag} {CX : World → CXT} {x : Str} (xs : List Str)
    (most : l.most = some n) (low : n ≤ sizeLine) (plain : d.params.defaults = []) (room : Room k callerA) (recs : ∀ y ∈ xs, ((recsOf q).any fun e => e.name == y) = true) (hY : ∀ (w : World) (h : Heap), YP w h → (K w.params).In h)
    (F : ∀ (w : World) (mg : Str → Option Value) (fa : Addr) (h : Heap), YP w h → (K w.params).In h → h.Ns mainGlobals mg → mg d.name = some (.ref fa) → (∀ y ∈ xs, ∀ fb, mg y = some (.ref fb) → OwnTab (K w.params) fb h) → LawAtS l w (K w.params) (CX w) k n x mg fa h)
    (ends : ∀ (w : World) (H : Hp) (s : Shared) (e : Value) (s' : Shared), CX w [] H s (fun _ _ _ => False) e s' → False) :
    PySem.W.WalkO q loose XP YP (l.row.toRowW) d [] (fun f us => PySem.call f us) := by
  refine Att.attach_callB most plain fun w s₀ s₁ mg mb fa o pm cd doc a vs ns G Y ho hd hcd named obj nums len bits goes => ?_
  have KX := hY w _ Y
  have tabs : ∀ y ∈ xs, ∀ fb, mg y = some (.ref fb) → OwnTab (K w.params) fb s₁.heap := fun y hy fb hfb c P o1 fd1 e dd vs1 sl k1 k2 k3 k4 k5 => by
    obtain ⟨dL, isIn, nm⟩ := List.any_eq_true.mp (recs y hy)
    have nm' : dL.name = y := beq_iff_eq.mp nm
    obtain ⟨a', o', fd', c', P', h1, h2, h3, h4, h5, h6⟩ := G.T.tab dL isIn
    rw [nm', hfb] at h1
    cases h1
    have g1 := KX _ _ k1
    rw [g1] at h2
    cases h2
    rw [k2] at h3
    cases h3
    rw [k3] at h4
    cases h4
    obtain ⟨⟨oc, vc, e1, _, e3, e4⟩, empty⟩ := h6
    have g2 := KX _ _ k4
    rw [g2] at e1
    cases e1
    cases e3
    rw [k5] at e4
    cases e4
    exact empty
  obtain ⟨fd, cs, sp, hT, nT, C, binds, wanted, does⟩ := F w mg fa _ Y KX G.T.g named tabs
  exact law_callTs KX G.T.g G.T.b G.T.builtins G.T.nolimit goes hT nT C G.T.bmain obj nums (Nat.le_trans len low) room does binds (fun H hH hS => wanted H a ns len bits hH hS) fun H e s' => ends w H s₁ e s'
end Rg

set_option Elab.async false
set_option linter.all false
set_option maxRecDepth 100000
set_option maxHeartbeats 4500000
/-! the rules by data: while, not in a list of one's own -/
namespace Rg
open PySem PySem.Spec PyProof.Rows L2
/-- while, at most n turns -/
def whileW (mt : Ev → W Bool) (mf : Ev → W Fl) : Nat → Ev → W Fl
  | 0, _ => W.fail
  | n + 1, env => W.bind (mt env) fun k => iteW k (W.bind (mf env) fun fl => match fl with
    | .nx e => whileW mt mf n e
    | .ct e => whileW mt mf n e
    | .bk e => W.pure (.nx e)
    | .rt d => W.pure (.rt d)) (W.pure (.nx env))
section
variable {X : Cx} {z : Zk} {J : Jx X.K z} {c a : Expr} {body : List Stmt} {mt : Ev → W Bool} {mf : Ev → W Fl} {ma : Ev → W D} {pos p : Pos} {x : Str}
theorem sv_while (n : Nat) (hp : PassesOwn (model X.prog X.w) X.A X.env X.xe) (ht : TV X J c mt) (hb : SVs X J body mf) : SV X J (.While c body [] pos) (whileW mt mf n) := by
  obtain ⟨tc, pc, qc⟩ := ht
  obtain ⟨tb, pb, qb⟩ := hb
  refine ⟨_, ps_while hp pc pb, fun σ H G env N at_ h => ⟨fun m σ' H' => ∃ G' env', At X.K z J.G0 J.H0 σ' H' G' env' ∧ Same G G' ∧ (whileW mt mf m env').wp (FlQ X.K z J.G0 J.H0 G' N) J.xQ, ⟨n, G, env, at_, Same.refl _, h⟩, ?_⟩⟩
  rintro m σ1 H1 ⟨G1, env1, at1, s1, h1⟩
  cases m with
  | zero => exact h1.elim
  | succ m =>
    refine qc σ1 H1 G1 env1 _ at1 ((mt env1).mono (fun k h2 H2 G2 g2 => ?_) (fun _ q => q) h1)
    cases k with
    | false => exact h2 σ1 H2 G2 (at1.grow g2) g2.gg
    | true =>
      refine ⟨fun σ' H' => ∃ G' env', At X.K z J.G0 J.H0 σ' H' G' env' ∧ Same G G' ∧ (whileW mt mf m env').wp (FlQ X.K z J.G0 J.H0 G' N) J.xQ, fun σ' H' w => ⟨m, Nat.lt_succ_self _, w⟩, ?_⟩
      refine qb σ1 H2 G2 env1 _ (at1.grow g2) ((mf env1).mono (fun fl h3 => ?_) (fun _ q => q) h2)
      cases fl with
      | nx e => exact fun σ' H' G' a' s' => ⟨G', e, a', s1.trans (g2.gg.trans s'), (whileW mt mf m e).mono (FlQ.up (g2.gg.trans s')) (fun _ q => q) h3⟩
      | ct e => exact fun σ' H' G' a' s' => ⟨G', e, a', s1.trans (g2.gg.trans s'), (whileW mt mf m e).mono (FlQ.up (g2.gg.trans s')) (fun _ q => q) h3⟩
      | bk e => exact fun σ' H' G' a' s' => h3 σ' H' G' a' (g2.gg.trans s')
      | rt d => exact fun v H' G' g dv => h3 v H' G' g dv
end
end Rg

set_option Elab.async false
set_option linter.all false
set_option maxRecDepth 100000
set_option maxHeartbeats 4500000
/-! the rules by data: a list of one's own is lent while an expression is reckoned whose value holds no list -/
namespace Rg
open PySem PySem.Spec PyProof.Rows L2
mutual
/-- no list in it -/
def noL : D → Bool
  | .lst _ => false
  | .own _ => false
  | .lam _ => false
  | .tup xs => noLs xs
  | .ins _ gs => noLf gs
  | _ => true
def noLs : List D → Bool
  | [] => true
  | d :: r => noL d && noLs r
def noLf : List (Str × D) → Bool
  | [] => true
  | (_, d) :: r => noL d && noLf r
end
section
variable {K : PySem.W.Frag} {z : Zk} {G : Hp} {a : Addr} {acc : List V}
theorem del_other {b : Addr} {o : HO} (ga : G a = some (.lst acc)) (e : G b = some o) (n : ∀ xs, o ≠ .lst xs) : del G a b = some o := by
  rw [del_ne (fun q => by
    rw [q, ga] at e
    exact n _ (Option.some.inj e).symm)]
  exact e
mutual
theorem Den.unl (ga : G a = some (.lst acc)) {v : V} {d : D} (h : Den K z G v d) (n : noL d = true) : Den K z (del G a) v d := by
  cases h with
  | non => exact .non
  | bl b => exact .bl b
  | int i => exact .int i
  | str x l m => exact .str x l m
  | lst q r l =>
    unfold noL at n
    cases n
  | tup q r l =>
    unfold noL at n
    refine .tup ?_ (Dens.unl ga r n) l
    rcases q with q | q
    · exact .inl (del_other ga q (fun _ e => nomatch e))
    · exact .inr q
  | ins c g r =>
    unfold noL at n
    exact .ins c (del_other ga g (fun _ e => nomatch e)) (DenF.unl ga r n)
  | bag q => exact .bag q
  | ty _ => exact .ty _
  | cls q => exact .cls q
  | lam q r d =>
    unfold noL at n
    cases n
theorem Dens.unl (ga : G a = some (.lst acc)) {vs : List V} {ds : List D} (h : Dens K z G vs ds) (n : noLs ds = true) : Dens K z (del G a) vs ds := by
  cases h with
  | nil => exact .nil
  | cons q r =>
    unfold noLs at n
    obtain ⟨n1, n2⟩ := Bool.and_eq_true_iff.mp n
    exact .cons (Den.unl ga q n1) (Dens.unl ga r n2)
theorem DenF.unl (ga : G a = some (.lst acc)) {vs : List (Str × V)} {ds : List (Str × D)} (h : DenF K z G vs ds) (n : noLf ds = true) : DenF K z (del G a) vs ds := by
  cases h with
  | nil => exact .nil
  | cons q r =>
    unfold noLf at n
    obtain ⟨n1, n2⟩ := Bool.and_eq_true_iff.mp n
    exact .cons (Den.unl ga q n1) (DenF.unl ga r n2)
end
theorem Grow.unl {H H1 G1 : Hp} (g : Grow z (upd G a (.lst acc)) H G1 H1) (ga : G a = none) : Grow z G H (del G1 a) H1 := by
  refine ⟨g.fr, fun b o e => ?_, fun b o e x n => ?_, ⟨fun b o e => ?_, fun B L q => ?_, ⟨g.vw.tab.1, fun p hp => ?_⟩⟩⟩
  · have nb : b ≠ a := fun q => by
      rw [q, ga] at e
      cases e
    rw [del_ne nb]
    exact g.gg b o (by rw [upd_ne nb]; exact e)
  · by_cases c : b = a
    · rw [c]
      exact del_same
    · rw [del_ne c]
      exact g.ap b o e x (by rw [upd_ne c]; exact n)
  · by_cases c : b = a
    · rw [c, del_same] at e
      cases e
    · rw [del_ne c] at e
      exact g.vw.sub b o e
  · obtain ⟨b1, b2, b3⟩ := g.vw.bag B L q
    refine ⟨b1, ?_, ?_⟩
    · by_cases c : B = a
      · rw [c]
        exact del_same
      · rw [del_ne c]
        exact b2
    · by_cases c : L = a
      · rw [c]
        exact del_same
      · rw [del_ne c]
        exact b3
  · by_cases c : p.1 = a
    · rw [c]
      exact del_same
    · rw [del_ne c]
      exact g.vw.tab.2 p hp
end
/-- the list in the slot i is shown, told where -/
theorem At.lend {K : PySem.W.Frag} {z : Zk} {G0 H0 G H : Hp} {σ : L2.St} {env : Ev} (a : At K z G0 H0 σ H G env) (i : Nat) : At K z G0 H0 σ H G (Rg.frz i env) ∨ ∃ p vs, G p = none ∧ At K z G0 H0 σ H (upd G p (.lst vs)) (Rg.frz i env) := by
  unfold Rg.frz
  split
  · rename_i ds e
    obtain ⟨p, vs, h1, h2, h3, h4, h5, h6⟩ := a.mu.at_ i ds e
    have sn : Same G (upd G p (.lst vs)) := same_new h3
    have gp := a.gr.shown (o := .lst vs) a.v0 h4 h3 h2
    refine .inr ⟨p, vs, h3, gp, a.v0, ?_, ⟨fun j fs q => ?_, fun j k fs gs q n e1 e2 s1 s2 => ?_⟩⟩
    · refine ⟨by rw [List.length_set]; exact a.en.1, fun j d q m => ?_⟩
      rcases set_some q with ⟨rfl, _, e1⟩ | ⟨_, q⟩
      · cases e1
        exact ⟨.ref p, h1, .lst upd_same (h5.same sn) h6⟩
      · obtain ⟨v, g1, g2⟩ := a.en.2 j d q m
        exact ⟨v, g1, g2.same sn⟩
    · rcases set_some q with ⟨_, _, e1⟩ | ⟨c, q⟩
      · cases e1
      · obtain ⟨p2, vs2, g1, g2, g3, g4, g5, g6⟩ := a.mu.at_ j fs q
        have ne : p2 ≠ p := fun z => a.mu.dj i j ds fs p c e q h1 (by rw [← z]; exact g1)
        exact ⟨p2, vs2, g1, g2, by rw [upd_ne ne]; exact g3, g4, g5.same sn, g6⟩
    · rcases set_some e1 with ⟨_, _, z1⟩ | ⟨_, f1⟩
      · cases z1
      · rcases set_some e2 with ⟨_, _, z2⟩ | ⟨_, f2⟩
        · cases z2
        · exact a.mu.dj j k fs gs q n f1 f2 s1 s2
  · exact .inl a
/-- an expression that holds no list -/
def lendW (m : W D) : W D := W.bind m fun d => W.bind (W.need (noL d = true)) fun _ => W.pure d
section
variable {X : Cx} {z : Zk} {J : Jx X.K z} {e : Expr} {m : Ev → W D}
/-- e, where the list in the slot i is lent -/
theorem ev_lend (i : Nat) (he : EV X J e m) : EV X J e (fun env => lendW (m (Rg.frz i env))) := by
  obtain ⟨t, p, q⟩ := he
  refine ⟨t, p, fun σ H G env Q at_ h => ?_⟩
  rcases at_.lend i with at1 | ⟨b, vs, gb, at1⟩
  · exact q σ H G _ Q at1 ((m _).mono (fun d h2 => h2.2) (fun _ q => q) h)
  · refine q σ H _ _ Q at1 ((m _).mono (fun d h2 v H1 G1 g1 dv => ?_) (fun _ q => q) h)
    exact h2.2 v H1 (del G1 b) (g1.unl gb) (dv.unl (g1.gg _ _ upd_same) h2.1)
/-- a test, where the list in the slot i is lent -/
theorem tv_lend (i : Nat) {mt : Ev → W Bool} (he : TV X J e mt) : TV X J e (fun env => mt (Rg.frz i env)) := by
  obtain ⟨t, p, q⟩ := he
  refine ⟨t, p, fun σ H G env Q at_ h => ?_⟩
  rcases at_.lend i with at1 | ⟨b, vs, gb, at1⟩
  · exact q σ H G _ Q at1 h
  · exact q σ H _ _ Q at1 ((mt _).mono (fun k h2 H1 G1 g1 => h2 H1 (del G1 b) (g1.unl gb)) (fun _ q => q) h)
end
end Rg

set_option Elab.async false
set_option linter.all false
set_option maxRecDepth 100000
set_option maxHeartbeats 4500000
/-! the rules by data: x, y, z = a, [], [] -/
namespace Rg
open PySem PySem.Spec PyProof.Rows L2
section
variable {X : Cx} {z : Zk} {J : Jx X.K z} {a : Expr} {ma : Ev → W D} {pos : Pos} {x y u : Str} {px py pz pt pt2 l1 l2 : Pos} {kt k2 : Nat}
theorem own_fresh {p : Addr} {G H' : Hp} (g : Grow z J.G0 J.H0 G H') (np : H' p = none) : J.H0 p = none := by
  cases e : J.H0 p with
  | none => rfl
  | some o =>
    obtain ⟨o', h'⟩ := g.there e
    rw [np] at h'
    cases h'
theorem At.setNew {σ : L2.St} {H G : Hp} {env : Ev} {p : Addr} (at_ : At X.K z J.G0 J.H0 σ H G env) (i : Nat) (np : H p = none) : At X.K z J.G0 J.H0 (σ.set i (some (.ref p))) (upd H p (.lst [])) G (env.set i (some (.own []))) := by
  have g1 : Grow z G H G (upd H p (.lst [])) := .hid at_.gr.vw np
  refine (at_.grow g1).setOwn i upd_same (at_.gr.vw.sub.free np) (own_fresh at_.gr np) .nil (Nat.zero_le _) fun j es c e s => ?_
  obtain ⟨p2, vs, h1, h2, _⟩ := at_.mu.at_ j es e
  rw [h1] at s
  cases s
  rw [np] at h2
  cases h2
theorem sv_own3 (i j l : Nat) (hc : X.calm = true) (hN : X.N.Nodup) (hi : X.N[i]? = some x) (hj : X.N[j]? = some y) (hl : X.N[l]? = some u) (hij : i ≠ j) (hil : i ≠ l) (hjl : j ≠ l) (hx : X.env.scope.names.lookup x = some .local) (hy : X.env.scope.names.lookup y = some .local) (hu : X.env.scope.names.lookup u = some .local) (ha : EV X J a ma)
    (hw : swappedStores [.Tuple [.Name x px, .Name y py, .Name u pz] kt pt] (.Tuple [a, .List [] l1, .List [] l2] k2 pt2) X.env = pure (some [x, y, u]) := by rfl) (hs : swapsWithSole [.Tuple [.Name x px, .Name y py, .Name u pz] kt pt] (.Tuple [a, .List [] l1, .List [] l2] k2 pt2) pos.line X.env = pure false := by rfl)
    (h0 : starEach [a, .List [] l1, .List [] l2] X.env = (false, eval a X.env) :: starEach [.List [] l1, .List [] l2] X.env := by rfl) (h1 : starEach [.List [] l1, .List [] l2] X.env = (false, eval (.List [] l1) X.env) :: starEach [.List [] l2] X.env := by rfl) (h2 : starEach [.List [] l2] X.env = (false, eval (.List [] l2) X.env) :: starEach [] X.env := by rfl) :
    SV X J (.Assign [.Tuple [.Name x px, .Name y py, .Name u pz] kt pt] (.Tuple [a, .List [] l1, .List [] l2] k2 pt2) pos) (fun env => W.bind (ma env) fun d => W.pure (.nx (((env.set i (some d)).set j (some (.own []))).set l (some (.own []))))) := by
  obtain ⟨ta, pa, qa⟩ := ha
  refine ⟨_, ps_par3 hc hN hi hj hl hij hil hjl hx hy hu (pa_cons pa (pa_cons (pe_lst pa_nil) (pa_cons (pe_lst pa_nil) pa_nil h2) h1) h0) hw hs, fun σ H G env N at_ h => qa σ H G env _ at_ ((ma env).mono (fun d h3 v H1 G1 g1 d1 => ⟨Nat.zero_le _, fun p np => ⟨Nat.zero_le _, fun q nq => ⟨_, _, _, rfl, ?_⟩⟩⟩) (fun _ q => q) h)⟩
  exact h3 _ _ G1 ((((at_.grow g1).set i d1).setNew j np).setNew l nq) g1.gg
/-- the same, where a block below reads the names -/
theorem sv_own3c (i j l : Nat) (hc : X.calm = true) (hN : X.N.Nodup) (hi : X.N[i]? = some x) (hj : X.N[j]? = some y) (hl : X.N[l]? = some u) (hx : Loc X.env.scope x) (hy : Loc X.env.scope y) (hu : Loc X.env.scope u) (ha : EV X J a ma)
    (hw : swappedStores [.Tuple [.Name x px, .Name y py, .Name u pz] kt pt] (.Tuple [a, .List [] l1, .List [] l2] k2 pt2) X.env = pure none := by rfl) (hs : swapsWithSole [.Tuple [.Name x px, .Name y py, .Name u pz] kt pt] (.Tuple [a, .List [] l1, .List [] l2] k2 pt2) pos.line X.env = pure false := by rfl)
    (hh : (assignEach [.Tuple [.Name x px, .Name y py, .Name u pz] kt pt] X.env).map (·.2) = [assign (.Tuple [.Name x px, .Name y py, .Name u pz] kt pt) X.env] := by rfl)
    (e1 : (assignEach [.Name x px, .Name y py, .Name u pz] X.env).map (·.2) = assign (.Name x px) X.env :: (assignEach [.Name y py, .Name u pz] X.env).map (·.2) := by rfl) (e2 : (assignEach [.Name y py, .Name u pz] X.env).map (·.2) = assign (.Name y py) X.env :: (assignEach [.Name u pz] X.env).map (·.2) := by rfl) (e3 : (assignEach [.Name u pz] X.env).map (·.2) = assign (.Name u pz) X.env :: (assignEach [] X.env).map (·.2) := by rfl)
    (en : (assignEach [.Name x px, .Name y py, .Name u pz] X.env).length = 3 := by rfl) (est : (assignEach [.Name x px, .Name y py, .Name u pz] X.env).findIdx? (·.1) = none := by rfl)
    (fx : X.fn x = true ∨ X.env.scope.names.lookup x = some .local := by first | exact .inl rfl | exact .inr rfl) (fy : X.fn y = true ∨ X.env.scope.names.lookup y = some .local := by first | exact .inl rfl | exact .inr rfl) (fu : X.fn u = true ∨ X.env.scope.names.lookup u = some .local := by first | exact .inl rfl | exact .inr rfl)
    (h0 : starEach [a, .List [] l1, .List [] l2] X.env = (false, eval a X.env) :: starEach [.List [] l1, .List [] l2] X.env := by rfl) (h1 : starEach [.List [] l1, .List [] l2] X.env = (false, eval (.List [] l1) X.env) :: starEach [.List [] l2] X.env := by rfl) (h2 : starEach [.List [] l2] X.env = (false, eval (.List [] l2) X.env) :: starEach [] X.env := by rfl) :
    SV X J (.Assign [.Tuple [.Name x px, .Name y py, .Name u pz] kt pt] (.Tuple [a, .List [] l1, .List [] l2] k2 pt2) pos) (fun env => W.bind (ma env) fun d => W.pure (.nx (((env.set i (some d)).set j (some (.own []))).set l (some (.own []))))) := by
  obtain ⟨ta, pa, qa⟩ := ha
  refine ⟨_, ps_asg (pe_tup (pa_cons pa (pa_cons (pe_lst pa_nil) (pa_cons (pe_lst pa_nil) pa_nil h2) h1) h0)) (pg_tup hc (pgs_cons (pg_name hN hi hx fx) (pgs_cons (pg_name hN hj hy fy) (pgs_cons (pg_name hN hl hu fu) pgs_nil e3) e2) e1) en est) hs hw hh, fun σ H G env N at_ h => qa σ H G env _ at_ ((ma env).mono (fun d h3 v H1 G1 g1 d1 => ⟨Nat.zero_le _, fun p np => ⟨Nat.zero_le _, fun q nq => ⟨(show 3 ≤ sizeLine by decide), fun T nT => ⟨T, [v, .ref p, .ref q], rfl, SqU.to (.inl upd_same) (Same.refl _), rfl, v, [.ref p, .ref q], rfl, .ref p, [.ref q], rfl, .ref q, [], rfl, rfl, ?_⟩⟩⟩⟩) (fun _ q => q) h)⟩
  · have a3 := (((at_.grow g1).set i d1).setNew j np).setNew l nq
    exact h3 _ _ G1 (a3.grow (.hid a3.gr.vw nT)) g1.gg
end
end Rg

set_option Elab.async false
set_option linter.all false
set_option maxRecDepth 100000
set_option maxHeartbeats 4500000
/-! the rules by data: enumerate(x, start=n) of a list -/
namespace Rg
open PySem PySem.Spec PyProof.Rows L2
/-- the list at a, each item in a new pair, from k on -/
def IteL (K : PySem.W.Frag) (a : Addr) (n k : Nat) : It :=
  ⟨fun i H => ∃ (xs : List V) (x : V), SqL K H a xs ∧ xs.length = n ∧ xs[i]? = some x,
   fun i H v H' => ∃ T x, v = .ref T ∧ H T = none ∧ H' = upd H T (.tup [.int ((k + i : Nat) : Int), x]) ∧ ∀ xs, SqL K H a xs → xs[i]? = some x,
   fun i H => ∃ xs : List V, SqL K H a xs ∧ xs.length = n ∧ n ≤ i⟩
theorem turn_enumL {P : Program} {w : World} {K : PySem.W.Frag} {elts : List Expr} {kk : Nat} {tpos : Pos} (a e it : Addr) (n k0 : Nat) :
    Turn P w K (.Tuple elts kk tpos) (IteL K a n k0) [e, it] e (fun i h => i ≤ n ∧ (∃ old, IsEnum h e it ((k0 : Nat) + (i : Nat) : Int) old) ∧ h.IsListIter it a i ∧ e ≠ it) := by
  have old : ∀ {i : Nat} {h : Heap}, (i ≤ n ∧ (∃ old, IsEnum h e it ((k0 : Nat) + (i : Nat) : Int) old) ∧ h.IsListIter it a i ∧ e ≠ it) → ∀ b ∈ [e, it], ∃ o, h.get? b = some o ∧ ∀ v, o.data ≠ .cell v := by
    intro i h st b hb
    obtain ⟨_, ⟨old, he⟩, ⟨o, ho, hc, hd⟩, _⟩ := st
    rcases List.mem_cons.mp hb with e1 | e1
    · rw [e1]
      exact ⟨_, he, fun v q => nomatch q⟩
    · rw [List.mem_singleton.mp e1]
      exact ⟨o, ho, fun v q => by rw [hd] at q; cases q⟩
  have apart : ∀ {i : Nat} {h : Heap} {its : Array Value}, (i ≤ n ∧ (∃ old, IsEnum h e it ((k0 : Nat) + (i : Nat) : Int) old) ∧ h.IsListIter it a i ∧ e ≠ it) → h.IsList a its → a ≠ it ∧ e ∉ [it, a] := by
    intro i h its st ht
    obtain ⟨_, ⟨old, he⟩, ⟨o, ho, hc, hd⟩, ne⟩ := st
    obtain ⟨o2, ho2, hc2, _⟩ := ht
    have n1 : a ≠ it := fun z => by
      rw [z, ho] at ho2
      cases ho2
      rw [hc] at hc2
      exact absurd hc2 (by decide)
    refine ⟨n1, fun z => ?_⟩
    rcases List.mem_cons.mp z with q | z
    · exact ne q
    · rw [← List.mem_singleton.mp z, show h.get? e = _ from he] at ho2
      cases ho2
      exact absurd hc2 (show ¬ (Value.type "enumerate" = Value.type "list") by decide)
  refine ⟨List.mem_cons_self, fun i h st b hb => old st b hb, fun i h h' st k => ?_, ?_, ?_, ?_⟩
  · obtain ⟨hi, ⟨od, he⟩, ht, ne⟩ := st
    exact ⟨hi, ⟨od, k e (by simp) _ he⟩, ht.at fun o q => k it (by simp) o q, ne⟩
  · intro X hP hw hK hc i pins s σ H E I hf st hg
    subst hP hw hK
    obtain ⟨xs, x, hq, hl, hx⟩ := hg
    obtain ⟨its, rv, pl, _⟩ := I.list (xs := xs) hq
    have tp := pl.isList
    obtain ⟨u, hu, rel⟩ := rv.get hx
    obtain ⟨n1, n2⟩ := apart st tp
    have len : its.toArray.size = n := by rw [List.size_toArray, ← rv.length, hl]
    have hh : X.A.in1.handled = none := I.ok.hd hc
    have W := GoesN.enumFrom (elts := elts) (x1 := kk) (pos := tpos) ((k0 : Nat) : Int) (Draws.list (prog := X.prog) (w := X.w) (A := X.A.in1) hh it a n1 its.toArray) e st.2.2.2 n2 List.mem_cons_self
    have hi : i < its.toArray.size := by
      rw [len, ← hl]
      exact (List.getElem?_eq_some_iff.mp hx).1
    obtain ⟨od, he⟩ := st.2.1
    have ei : ((k0 : Nat) : Int) + (i : Int) = ((k0 + i : Nat) : Int) := by omega
    refine W.goes i s _ E hi ⟨⟨od, he⟩, st.2.2.1, tp⟩ fun v h' tk hY st' keep htk => ?_
    obtain ⟨T, t, y, rfl, hT, hy, hTup⟩ := hY
    have ey : y = u := by
      have h1 : its.toArray[i]? = some y := hy
      rw [List.getElem?_toArray, hu] at h1
      exact Eq.symm (Option.some.inj h1)
    rw [ey, ei] at hTup
    have new : ObjOk X.prog X.w (upd H T (.tup [.int ((k0 + i : Nat) : Int), x])) h' T (.tup [.int ((k0 + i : Nat) : Int), x]) := ⟨(show 2 ≤ sizeLine by decide), [.int ((k0 + i : Nat) : Int) t, u], .cons ⟨_, rfl⟩ (.cons rel .nil), hTup⟩
    have I1 := I.turnedNew (t' := tk) (ch := [e, it]) keep hf hT new
    refine ⟨.ref T, _, I1, rfl, ⟨T, x, rfl, I.hok.fresh hT, rfl, fun ys hy => by rw [I.list_inj hy hq]; exact hx⟩, ⟨by rw [← len]; exact hi, ?_, st'.2.1, st.2.2.2⟩, fun b hb => ?_⟩
    · obtain ⟨od', he'⟩ := st'.1
      exact ⟨od', he'⟩
    · obtain ⟨o, ho, _⟩ := old st b hb
      rw [upd_ne (Nat.ne_of_lt (Nat.lt_of_lt_of_le (Heap.lt_size ho) hT))]
      exact (hf b hb).1
  · intro X hP hw hK hc i pins s σ H E I hf st hg
    subst hP hw hK
    obtain ⟨xs, hq, hl, hx⟩ := hg
    obtain ⟨its, rv, pl, _⟩ := I.list (xs := xs) hq
    have tp := pl.isList
    obtain ⟨n1, n2⟩ := apart st tp
    have len : its.toArray.size = n := by rw [List.size_toArray, ← rv.length, hl]
    have hh : X.A.in1.handled = none := I.ok.hd hc
    have W := GoesN.enumFrom (elts := elts) (x1 := kk) (pos := tpos) ((k0 : Nat) : Int) (Draws.list (prog := X.prog) (w := X.w) (A := X.A.in1) hh it a n1 its.toArray) e st.2.2.2 n2 List.mem_cons_self
    have ei : i = its.toArray.size := by rw [len]; exact Nat.le_antisymm st.1 hx
    obtain ⟨od, he⟩ := st.2.1
    have st2 := st.2.2.1
    rw [ei] at he st2
    exact W.stops s _ E ⟨⟨od, he⟩, st2, tp⟩ fun h' tk keep htk => I.turnedL (t' := tk) (ch := [e, it]) keep hf
  · intro A i s Q E st h
    obtain ⟨_, ⟨od, he⟩, _⟩ := st
    exact wpAny_pyIter_enum he h
section
variable {M : Model} {A : Around} {s : Shared} {E : Value → Shared → Prop} {env : Env}
/-- a built-in class called with keywords -/
theorem callT_kw {pos : Pos} {T : String} {e : Expr} {kws : List Keyword} {Q : Value → Shared → Prop}
    (h : wpAny M A (spliced (backTo pos (starEach [e] env))) (fun vs s₁ => wpAny M A (evalAll ((backToKw pos (keywordEach kws env)).map (·.2)))
      (fun kvs s₂ => wpAny M A (call (.type T) vs (((backToKw pos (keywordEach kws env)).filterMap (·.1)).zip kvs)) Q E s₂) E s₁) E s)
    (he : backTo pos (starEach [e] env) = (false, eval e env) :: backTo pos (starEach [] env)) (flat : (backTo pos (starEach [e] env)).any (·.1) = false)
    (named : (backToKw pos (keywordEach kws env)).all (·.1.isSome) = true) (nostar : (backToKw pos (keywordEach kws env)).any (·.1.isNone) = false) :
    wpAny M A (callWith pos (.type T) [] (backTo pos (starEach [e] env)) (backToKw pos (keywordEach kws env))) Q E s := by
  have ev : wpAny M A (evalArgs (.type T) true (backTo pos (starEach [e] env)) (backToKw pos (keywordEach kws env))) (fun a s₁ => wpAny M A (call (.type T) ([] ++ a.pos) a.kw) Q E s₁) E s := by
    rw [he] at h ⊢
    exact PyProof.Rows.evalArgs_kwB named h
  unfold callWith
  refine wpAny_bind (wpAny_holding (wpAny_mono ev (fun a s₁ h₁ => wpAny_bind (wpAny_standAt ?_)) fun _ _ x => x))
  simp only [flat, nostar, Bool.or_false]
  refine (wpAny_bind (wpAny_pure ?_))
  exact wpAny_bind (wpAny_mono h₁ (fun r2 s₂ h2 => wpAny_bind (wpAny_holding (wpAny_point (wpAny_pure h2)))) fun _ _ x => x)
end
def iEnumL (K : PySem.W.Frag) (ta : TA) (tb : TE) : TI := fun σ H R => ta σ H fun vs H1 => tb σ H1 fun w H2 => ∃ a xs n, vs = [.ref a] ∧ w = .int ((n : Nat) : Int) ∧ n ≤ 100000 ∧ SqL K H2 a xs ∧ R (IteL K a xs.length n) H2
theorem pi_enumL {X : Cx} {e b : Expr} {ta : TA} {tb : TE} {p pos tpos kp : Pos} {elts : List Expr} {kk : Nat} (hg : Gl X "enumerate") (hm : X.mg "enumerate" = none) (ha : PA X [e] ta) (hb : PE X b tb) (he : backTo pos (starEach [e] X.env) = (false, eval e X.env) :: backTo pos (starEach [] X.env) := by rfl) (flat : (backTo pos (starEach [e] X.env)).any (·.1) = false := by rfl) :
    PI X (.Tuple elts kk tpos) (.Call (.Name "enumerate" p) [e] [⟨some "start", b, kp⟩] pos) (iEnumL X.K ta tb) := by
  refine ⟨fun pins s σ H R I h => wpAny_Call_Name_kw (ld_blt I hg hm boot_enumerate (callT_kw (thn (ha.run pos pins s σ H _ I h) fun us s0 ⟨vs, H0, I0, r1, h0⟩ => ?_) he flat (by rfl) (by rfl)))⟩
  refine wpAny_evalAll_cons (wpAny_bind (thn (hb.run pins s0 σ H0 _ I0 h0) fun w s1 ⟨x, H1, I1, r2, a, xs, n, e1, e2, hn, hq, q⟩ => wpAny_bind (wpAny_standAt (wpAny_pure (wpAny_evalAll_nil ?_)))))
  subst e1
  subst e2
  obtain ⟨t, rfl⟩ := r2
  rw [Vals.ref1 r1]
  show wpAny _ _ (call (.type "enumerate") [.ref a] [(Str.ofString "start", .int ((n : Nat) : Int) t)]) _ _ _
  have new : ∀ b, b ∈ [s1.heap.objs.size + 1, s1.heap.objs.size] → s1.heap.objs.size ≤ b := fun b hb => by
    rcases List.mem_cons.mp hb with z1 | z2
    · rw [z1]
      exact Nat.le_add_right _ _
    · rw [List.mem_singleton.mp z2]
      exact Nat.le_refl _
  obtain ⟨its, rv, pl, hz⟩ := I1.list hq
  refine enum_begins_start (begins_list a its.toArray) pl.isList (by omega) (by omega) fun h' he' hit _ hk => wpAny_pyIter_enum he' ?_
  have I2 : Inv X pins σ H1 { s1 with heap := h' } := Inv.kept (t' := s1.toks) I1 hk
  exact ⟨_, _, _, IteL X.K a xs.length n, H1, rfl, I2, turn_enumL a (s1.heap.objs.size + 1) s1.heap.objs.size xs.length n, ⟨Nat.zero_le _, ⟨_, by rw [show ((n : Nat) : Int) + ((0 : Nat) : Int) = ((n : Nat) : Int) by omega]; exact he'⟩, ⟨_, hit, rfl, rfl⟩, Nat.succ_ne_self _⟩, fun b hb => I1.fpOk (new b hb) (I1.hok.fresh (new b hb)), q⟩
section
variable {X : Cx} {z : Zk} {J : Jx X.K z} {a b : Expr} {es : List Expr} {mb : Ev → W D} {ms : Ev → W (List D)} {pos p : Pos}
theorem wd_enumL {K : PySem.W.Frag} {G : Hp} {p : Addr} {xs : List V} {ds : List D} {k : Nat} (h : G p = some (.lst xs)) (d : Dens K z G xs ds) (lb : ds.length ≤ big) : WalkD K z (IteL K p xs.length k) (enumD k ds) G := by
  have l := d.len
  refine ⟨by rw [enumD_len]; exact lb, fun i H G' s vw hi => ?_, fun H G' s vw => ?_, fun i H G' x H' s vw y hi => ?_⟩
  · rw [enumD_len] at hi
    exact ⟨xs, xs[i]'(by omega), SqL.of (vw.sub _ _ (s _ _ h)), rfl, List.getElem?_eq_getElem _⟩
  · exact ⟨xs, SqL.of (vw.sub _ _ (s _ _ h)), rfl, by rw [enumD_len]; omega⟩
  · obtain ⟨T, u, rfl, nT, rfl, hy⟩ := y
    obtain ⟨e, h1, h2⟩ := d.at (hy xs (SqL.of (vw.sub _ _ (s _ _ h))))
    exact ⟨_, _, .new vw nT, enumD_get (k := k) h1, .tup (.inl upd_same) (.cons (.int _) (.cons ((h2.same s).same (same_new (vw.sub.free nT))) .nil)) (show 2 ≤ big by decide)⟩
/-- where the numbers begin -/
def natOf : D → W Nat
  | .int n => W.bind (W.need (0 ≤ n ∧ n ≤ 100000)) fun _ => W.pure n.toNat
  | _ => W.fail
def lstI : D → W (List D)
  | .lst ds => W.pure ds
  | _ => W.fail
theorem iv_enumL {tpos kp : Pos} {kk : Nat} (hg : Gl X "enumerate") (hm : X.mg "enumerate" = none) (ha : AV X J [a] ms) (hb : EV X J b mb) (he : backTo pos (starEach [a] X.env) = (false, eval a X.env) :: backTo pos (starEach [] X.env) := by rfl) (flat : (backTo pos (starEach [a] X.env)).any (·.1) = false := by rfl) :
    IV X J (.Tuple es kk tpos) (.Call (.Name "enumerate" p) [a] [⟨some "start", b, kp⟩] pos) (fun env => W.bind (W.bind (ms env) (one1 lstI)) fun ds => W.bind (W.bind (mb env) natOf) fun k => W.pure (enumD k ds)) := by
  obtain ⟨t, p, q⟩ := ha
  obtain ⟨tb, pb, qb⟩ := hb
  refine ⟨_, pi_enumL hg hm p pb he flat, fun σ H G env R at_ h => ?_⟩
  refine q σ H G env _ at_ ((ms env).mono (fun d h1 v H1 G1 g1 d1 => ?_) (fun _ q => q) h)
  obtain ⟨v, d, rfl, rfl, a1, h1⟩ := one1_wp d1 h1
  cases a1 with
  | @lst l xs ds q r lb =>
    refine qb σ H1 G1 env _ (at_.grow g1) ((mb env).mono (fun k h2 w H2 G2 g2 d2 => ?_) (fun _ q => q) h1)
    cases d2 with
    | int n =>
      obtain ⟨⟨n0, n1⟩, h3⟩ := h2
      have q2 := g2.gg _ _ q
      exact ⟨l, xs, n.toNat, rfl, by rw [show ((n.toNat : Nat) : Int) = n by omega], by omega, SqL.of (g2.vw.sub _ _ q2), h3 _ _ _ (g1.trans g2) (wd_enumL q2 (r.same g2.gg) lb)⟩
    | _ => exact h2.elim
  | _ => exact h1.elim
end
end Rg

set_option Elab.async false
set_option linter.all false
set_option maxRecDepth 100000
set_option maxHeartbeats 4500000
/-! the rules by data: expressions that make a list that nobody else holds; such a list is changed and let go -/
namespace Rg
open PySem PySem.Spec PyProof.Rows L2
section
variable {X : Cx} {z : Zk} {J : Jx X.K z} {a b e o : Expr} {es : List Expr} {ss : List Stmt} {ma mb mo : Ev → W D} {ms mk me mf : Ev → W (List D)} {pos p p' apos cpos : Pos} {x m : Str}
/-- an expression that makes a list of its own -/
def EO (X : Cx) {z : Zk} (J : Jx X.K z) (e : Expr) (m : Ev → W (List D)) : Prop :=
  ∃ te, PE X e te ∧ ∀ σ H G env Q, At X.K z J.G0 J.H0 σ H G env → (m env).wp (OwnQ X.K z G H Q) J.xQ → te σ H Q
/-- the members of a list or a tuple -/
def seqL : D → W (List D)
  | .lst ds => W.pure ds
  | .tup ds => W.pure ds
  | _ => W.fail
theorem OwnQ.grow {G H G1 H1 : Hp} {Q : VK} {ds : List D} (v : Vw z G H) (g : Grow z G H G1 H1) (h : OwnQ X.K z G H Q ds) : OwnQ X.K z G1 H1 Q ds := fun D H' G' acc g' n gD hD da l => h D H' G' acc (g.trans g') (by
  cases e : H D with
  | none => rfl
  | some o =>
    obtain ⟨o', h'⟩ := g.there e
    rw [n] at h'
    cases h') gD hD da l
theorem own_mk {G H : Hp} {Q : VK} {vs : List V} {ds : List D} {q : Addr} (vw : Vw z G H) (np : H q = none) (r : Dens X.K z G vs ds) (l : ds.length ≤ big) (h : OwnQ X.K z G H Q ds) : Q (.ref q) (upd H q (.lst vs)) :=
  h q _ G vs (.hid vw np) np (vw.sub.free np) upd_same r l
/-- list(e) -/
theorem eo_list (hg : Gl X "list") (hm : X.mg "list" = none) (ha : EV X J a ma) (hv : bootBuiltins "list" = some (.type "list") := by decide +kernel)
    (he : starEach [a] X.env = (false, eval a X.env) :: starEach [] X.env := by rfl) (hpl : (backTo pos (starEach [] X.env)).any (·.1) = false := by rfl) : EO X J (.Call (.Name "list" p) [a] [] pos) (fun env => W.bind (ma env) seqL) := by
  obtain ⟨t, pa, q⟩ := ha
  refine ⟨_, pe_callTy call_list_of hg hm hv (pa_cons pa pa_nil he) (by decide) (by decide) he hpl, fun σ H G env Q at_ h => q σ H G env _ at_ ((ma env).mono (fun d h1 v H1 G1 g1 d1 => ?_) (fun _ q => q) h)⟩
  cases d1 with
  | lst q r l => exact ⟨_, _, rfl, .inl (SqL.of (g1.vw.sub _ _ q)), fun p np => own_mk g1.vw np r l (OwnQ.grow at_.gr.vw g1 h1)⟩
  | tup q r l => exact ⟨_, _, rfl, .inr ((q.to g1.vw.sub)), fun p np => own_mk g1.vw np r l (OwnQ.grow at_.gr.vw g1 h1)⟩
  | _ => exact h1.elim
/-- a body that ends with such a list -/
def SO (X : Cx) {z : Zk} (J : Jx X.K z) (ss : List Stmt) (m : Ev → W (List D)) : Prop :=
  ∃ t, PSs X ss t ∧ ∀ σ H G env N, At X.K z J.G0 J.H0 σ H G env → (m env).wp (OwnQ X.K z J.G0 J.H0 N.rt) J.xQ → t N σ H
theorem so_ret (ha : EO X J a ms) : SO X J [.Return (some a) pos] ms := by
  obtain ⟨t, p, q⟩ := ha
  exact ⟨_, pss_one (ps_ret p), fun σ H G env N at_ h => q σ H G env _ at_ ((ms env).mono (fun ds h1 => OwnQ.grow at_.v0 at_.gr h1) (fun _ q => q) h)⟩
theorem so_expr (ha : EV X J a ma) (hs : SO X J ss ms) (hw : swapsWith a none pos.line X.env = pure false := by rfl) : SO X J (.Expr a pos :: ss) (fun env => W.bind (ma env) fun _ => ms env) := by
  obtain ⟨t, p, q⟩ := ha
  obtain ⟨t', p', q'⟩ := hs
  exact ⟨_, pss_cons (ps_expr p hw) p', fun σ H G env N at_ h => q σ H G env _ at_ ((ma env).mono (fun d h1 v H1 G1 g1 d1 => q' σ H1 G1 env N (at_.grow g1) h1) (fun _ q => q) h)⟩
end
/-- a def that makes a list of its own, by data -/
def spO (K : PySem.W.Frag) (cm : Str → Option Addr) (n : Nat) (m : List D → W (List D)) : Sp := fun vs H Q E => ∃ (bg : Bl) (G : Hp) (ds : List D), Vw ⟨cm, ⟨bg.1, [], bg.2⟩⟩ G H ∧ Dens K ⟨cm, ⟨bg.1, [], bg.2⟩⟩ G vs ds ∧ ds.length = n ∧
  (m ds).wp (OwnQ K ⟨cm, ⟨bg.1, [], bg.2⟩⟩ G H Q) (fun x => ∀ cls dx H' G', Grow ⟨cm, ⟨bg.1, [], bg.2⟩⟩ G H G' H' → XDen K ⟨cm, ⟨bg.1, [], bg.2⟩⟩ G' H' cls dx x → E cls dx H')
abbrev FnO (P : Program) (w : World) (K : PySem.W.Frag) (mg : Str → Option Value) (base : Heap) (cm : Str → Option Addr) (k : Nat) (f : Addr) (fd : FuncData) (ps : List Str) (m : List D → W (List D)) : Prop :=
  FnOk P w K mg base (L2.CX P w) k f fd ps (spO K cm ps.length m)
def runO (n : Nat) (mb : Ev → W (List D)) (ds : List D) : W (List D) := mb (startE n ds)
section
variable {P : Program} {w : World} {K : PySem.W.Frag} {mg : Str → Option Value} {base : Heap} {cm : Str → Option Addr}
theorem fnO {x qual : Str} {st : Stmt} {f : Addr} {fd : FuncData} {N ps : List Str} {k : Nat} {mb : Ev → W (List D)} (F : Fun K x qual st f fd) (S : FnScope N ps (defScope st))
    (body : ∀ (cdv : Value) (A : Around) (outer : List Env) (s : Shared) (H : Hp) (bg : Bl) (J : Jx K ⟨cm, ⟨bg.1, [], bg.2⟩⟩), Room k (A.deeper (envOfC qual (defScope st) s.heap.objs.size f cdv)) →
      Passes (L2.CX P w) (cxOf (L2.CX P w) P w K mg base N qual (defScope st) f cdv A outer s H J.E) J.E → PassesOwn (model P w) (A.deeper (envOfC qual (defScope st) s.heap.objs.size f cdv)) (envOfC qual (defScope st) s.heap.objs.size f cdv) (cxOf (L2.CX P w) P w K mg base N qual (defScope st) f cdv A outer s H J.E).xe →
      SO (cxOf (L2.CX P w) P w K mg base N qual (defScope st) f cdv A outer s H J.E) J (defBody st) mb) : FnO P w K mg base cm (k + 1) f fd ps (runO N.length mb) := by
  refine F.okX S (fun vs H Q E h => ?_) (fun cdv A outer s H vs Q E hr h => ?_)
  · obtain ⟨bg, G, ds, _, h1, h2, _⟩ := h
    rw [h1.len]
    exact h2
  · obtain ⟨bg, G, ds, vw, hd, _, h⟩ := h
    obtain ⟨t, pt, qt⟩ := body cdv A outer s H bg ⟨G, H, E, fun x => ∀ cls dx H' G', Grow ⟨cm, ⟨bg.1, [], bg.2⟩⟩ G H G' H' → XDen K ⟨cm, ⟨bg.1, [], bg.2⟩⟩ G' H' cls dx x → E cls dx H', fun x cls dx H' G' q g d => q cls dx H' G' g d⟩ hr
      (passes_call (takes_of rfl rfl rfl rfl) (fun _ _ _ _ h => h)) (passes_of rfl)
    exact ⟨t, pt, qt (L2.start N vs) H G (startE N.length ds) _ ⟨.refl vw, vw, start_en hd, ⟨fun i ds e => (startE_nomut hd.nomut e).elim, fun i j ds es p _ e => (startE_nomut hd.nomut e).elim⟩⟩ h⟩
end
section
variable {X : Cx} {z : Zk} {J : Jx X.K z} {a b e o : Expr} {es : List Expr} {ss : List Stmt} {ma mb mo : Ev → W D} {ms mk me mf : Ev → W (List D)} {pos p p' apos cpos : Pos} {x m : Str}
theorem Dens.lowO {K : PySem.W.Frag} {z : Zk} {G : Hp} {vs : List V} {ds : List D} (h : Dens K z.low G vs ds) : Dens K z G vs ds := h.up
theorem askO {m : List D → W (List D)} {n : Nat} {σ : L2.St} {H G : Hp} {env : Ev} {vs : List V} {ds : List D} {Q : VK} {H1 G1 : Hp} (at_ : At X.K z J.G0 J.H0 σ H G env) (g : Grow z G H G1 H1) (hd : Dens X.K z G1 vs ds) (hl : ds.length = n)
    (h : (m ds).wp (OwnQ X.K z G H Q) J.xQ) : spO X.K z.cm n m vs H1 Q J.E :=
  ⟨(z.bg.bag, z.bg.lm), G1, ds, g.vw.low, hd.low, hl, (m ds).mono (fun l q D H' G' acc g' n gD hD da hl => OwnQ.grow at_.gr.vw g q D H' G' acc (g'.up g.vw) n gD hD (Dens.lowO da) hl) (fun x q cls dx H' G' g' xd => J.hE x cls dx H' G' q (at_.gr.trans (g.trans (g'.up g.vw))) xd.up) h⟩
def callO (n : Nat) (m : List D → W (List D)) (ds : List D) : W (List D) := W.bind (W.need (ds.length = n)) fun _ => m ds
/-- o.m(..), that makes a list of its own -/
theorem eo_meth {pl : Sem Bool} {c : Str} {C g : Addr} {k : Nat} {fd : FuncData} {ps : List Str} {mm : List D → W (List D)} (hc : z.cm c = some C) (cl : Cls X.K C) (hm : Meth X.K C m g) (F : FnO X.prog X.w X.K X.mg X.base z.cm k g fd ps mm) (hr : Room k X.A) (hb : Binds X.K fd ps []) (hx : Passes (L2.CX X.prog X.w) X J.E)
    (ho : EV X J o mo) (ha : AV X J (e :: es) ms) (hst : starEach (e :: es) X.env = (false, eval e X.env) :: starEach es X.env := by rfl) (hpl : (backTo pos (starEach es X.env)).any (·.1) = false := by rfl)
    (ht : eval (.Call (.Attribute o m apos) (e :: es) [] pos) X.env = (do
      let ov ← eval o X.env
      standAt apos.atName
      let (f, first) ← holding [ov] (getMethod ov m pl)
      callWith pos f first (backTo pos (starEach (e :: es) X.env)) (backToKw pos (keywordEach [] X.env))) := by rfl) {n : Nat} (hn : ps.length = n := by rfl) :
    EO X J (.Call (.Attribute o m apos) (e :: es) [] pos) (fun env => W.bind (mo env) fun d => W.bind (insOf c d) fun gs => W.bind (W.need (gs.lookup m = none)) fun _ => W.bind (ms env) fun ds => callO n mm (d :: ds)) := by
  subst hn
  obtain ⟨t, p, q⟩ := ho
  obtain ⟨ts, pa, qs⟩ := ha
  refine ⟨_, pe_meth p cl hm F hr hb .nil hx pa hst hpl ht, fun σ H G env Q at_ h => q σ H G env _ at_ ((mo env).mono (fun d h1 v H1 G1 g1 d1 => ?_) (fun _ q => q) h)⟩
  obtain ⟨p, dx, fs, gs, rfl, h2, h3, rfl, h4, h5⟩ := insOf_wp hc d1 h1
  refine ⟨p, dx, fs, rfl, g1.vw.sub _ _ h2, h3.none h4, qs σ H1 G1 env _ (at_.grow g1) ((ms env).mono (fun ds h6 vs H2 G2 g2 d2 => ?_) (fun _ q => q) h5)⟩
  show spO X.K z.cm ps.length mm (V.ref p :: (vs ++ [])) H2 Q J.E
  rw [List.append_nil]
  exact askO at_ (g1.trans g2) (.cons (d1.same g2.gg) d2) h6.1 h6.2
theorem eo_meth0 {pl : Sem Bool} {c : Str} {C g : Addr} {k : Nat} {fd : FuncData} {ps : List Str} {mm : List D → W (List D)} (hc : z.cm c = some C) (cl : Cls X.K C) (hm : Meth X.K C m g) (F : FnO X.prog X.w X.K X.mg X.base z.cm k g fd ps mm) (hr : Room k X.A) (hb : Binds X.K fd ps []) (hx : Passes (L2.CX X.prog X.w) X J.E)
    (ho : EV X J o mo)
    (none0 : eval (.Call (.Attribute o m apos) [] [] pos) X.env = (do
      let ov ← eval o X.env
      standAt apos.atName
      let (f, first) ← holding [ov] (getMethod ov m pl)
      callWith pos f first (backTo pos (starEach [] X.env)) (backToKw pos (keywordEach [] X.env))) := by rfl) {n : Nat} (hn : ps.length = n := by rfl) :
    EO X J (.Call (.Attribute o m apos) [] [] pos) (fun env => W.bind (mo env) fun d => W.bind (insOf c d) fun gs => W.bind (W.need (gs.lookup m = none)) fun _ => callO n mm [d]) := by
  subst hn
  obtain ⟨t, p, q⟩ := ho
  refine ⟨_, pe_meth0 p cl hm F hr hb .nil hx none0, fun σ H G env Q at_ h => q σ H G env _ at_ ((mo env).mono (fun d h1 v H1 G1 g1 d1 => ?_) (fun _ q => q) h)⟩
  obtain ⟨p, dx, fs, gs, rfl, h2, h3, rfl, h4, h5⟩ := insOf_wp hc d1 h1
  exact ⟨p, dx, fs, rfl, g1.vw.sub _ _ h2, h3.none h4, askO at_ g1 (.one d1) h5.1 h5.2⟩
/-- e.append(a), where e makes a list of its own -/
theorem sv_appO (he : EO X J e me) (ha : EV X J a ma) (hs : swapsWith (.Call (.Attribute e "append" apos) [a] [] cpos) none pos.line X.env = pure false := by rfl)
    (hbase : attributeBase e "append" X.env (eval e X.env) = eval e X.env := by rfl)
    (hfew : ((backTo cpos (starEach [a] X.env)).all (fun x => !x.1) && (backToKw cpos (keywordEach [] X.env)).all (fun x => x.1.isSome) && decide (([a] : List Expr).length + ([] : List Keyword).length + (if ([] : List Keyword).isEmpty then 0 else 1) < 30)) = true := by rfl)
    (hline : (apos.endLine == cpos.line) = true := by rfl) (hst : starEach [a] X.env = (false, eval a X.env) :: starEach [] X.env := by rfl) (hplain : (backTo cpos (starEach [] X.env)).any (·.1) = false := by rfl) :
    SV X J (.Expr (.Call (.Attribute e "append" apos) [a] [] cpos) pos) (fun env => W.bind (me env) fun ds => W.bind (ma env) fun _ => W.pure (.nx env)) := by
  obtain ⟨te, pe, qe⟩ := he
  obtain ⟨t, p, q⟩ := ha
  refine ⟨_, ps_expr (pe_bm PySem.F.plainAttrs_list PySem.F.slot_list_append PySem.F.type_list_append mt_append pe (pa_cons p pa_nil hst) hbase hfew hline hst hplain) hs, fun σ H G env N at_ h => qe σ H G env _ at_ ((me env).mono (fun ds h1 D H1 G1 acc g1 nD gD hD da l => ?_) (fun _ q => q) h)⟩
  refine ⟨.inl ⟨rfl, acc, SqL.of hD⟩, q σ H1 G1 env _ (at_.grow g1) ((ma env).mono (fun d h2 v H2 G2 g2 d2 => ?_) (fun _ q => q) h1)⟩
  have k2 := g2.fr D _ (at_.gr.vw.out nD) hD
  have gD2 := g2.ap D _ hD (.inr rfl) gD
  refine ⟨D, acc, v, rfl, rfl, k2, ?_, ?_⟩
  · rw [da.len]
    exact Nat.lt_of_le_of_lt l big_lt
  · exact h2 σ _ G2 (at_.grow ((g1.trans g2).put at_.gr.vw nD gD2 k2 (fun _ e => nomatch e) (fun _ e => nomatch e))) (g1.trans g2).gg
/-- e.clear(), where e makes a list of its own -/
theorem sv_clrO (he : EO X J e me) (hs : swapsWith (.Call (.Attribute e "clear" apos) [] [] cpos) none pos.line X.env = pure false := by rfl)
    (hbase : attributeBase e "clear" X.env (eval e X.env) = eval e X.env := by rfl) (hline : (apos.endLine == cpos.line) = true := by rfl) :
    SV X J (.Expr (.Call (.Attribute e "clear" apos) [] [] cpos) pos) (fun env => W.bind (me env) fun _ => W.pure (.nx env)) := by
  obtain ⟨te, pe, qe⟩ := he
  refine ⟨_, ps_expr (pe_bm0 PySem.F.plainAttrs_list PySem.F.slot_list_clear PySem.F.type_list_clear mt_clear pe hbase hline) hs, fun σ H G env N at_ h => qe σ H G env _ at_ ((me env).mono (fun ds h1 D H1 G1 acc g1 nD gD hD da l => ?_) (fun _ q => q) h)⟩
  exact ⟨.inl ⟨rfl, acc, SqL.of hD⟩, D, acc, rfl, rfl, hD, h1 σ _ G1 (at_.grow (g1.put at_.gr.vw nD gD hD (fun _ e => nomatch e) (fun _ e => nomatch e))) g1.gg⟩
/-- x.clear() of a list of one's own -/
theorem sv_clr (i : Nat) (hN : X.N[i]? = some x) (hv : Vis X.env.scope x) (hs : swapsWith (.Call (.Attribute (.Name x p') "clear" apos) [] [] cpos) none pos.line X.env = pure false := by rfl) (hd : (x == ("__debug__" : Str)) = false := by decide) (hcd : (x == ("__classdict__" : Str)) = false := by decide)
    (hbase : attributeBase (.Name x p') "clear" X.env (eval (.Name x p') X.env) = eval (.Name x p') X.env := by rfl) (hline : (apos.endLine == cpos.line) = true := by rfl) :
    SV X J (.Expr (.Call (.Attribute (.Name x p') "clear" apos) [] [] cpos) pos) (fun env => W.bind (ownOf env i) fun _ => W.pure (.nx (env.set i (some (.own []))))) := by
  refine ⟨_, ps_expr (pe_bm0 PySem.F.plainAttrs_list PySem.F.slot_list_clear PySem.F.type_list_clear mt_clear (pe_var hN hv hd hcd) hbase hline) hs, fun σ H G env N at_ h => ?_⟩
  obtain ⟨ds, e, h⟩ := ownOf_wp h
  obtain ⟨l, vs, h1, h2, h3⟩ := at_.mu.at_ i ds e
  exact ⟨.ref l, h1, .inl ⟨rfl, vs, SqL.of h2⟩, l, vs, rfl, rfl, h2, h σ _ G (at_.chg e h1 .nil (Nat.zero_le _)) (Same.refl _)⟩
/-- x, y = a, b: two lists of one's own -/
theorem sv_ownEE (i j : Nat) {y : Str} {px py pt pt2 : Pos} {kt k2 : Nat} (hc : X.calm = true) (hN : X.N.Nodup) (hi : X.N[i]? = some x) (hj : X.N[j]? = some y) (hij : i ≠ j) (hx : X.env.scope.names.lookup x = some .local) (hy : X.env.scope.names.lookup y = some .local) (ha : EO X J a me) (hb : EO X J b mf)
    (hw : swappedStores [.Tuple [.Name x px, .Name y py] kt pt] (.Tuple [a, b] k2 pt2) X.env = pure (some [x, y]) := by rfl) (hs : swapsWithSole [.Tuple [.Name x px, .Name y py] kt pt] (.Tuple [a, b] k2 pt2) pos.line X.env = pure false := by rfl)
    (h1 : starEach [a, b] X.env = (false, eval a X.env) :: starEach [b] X.env := by rfl) (h2 : starEach [b] X.env = (false, eval b X.env) :: starEach [] X.env := by rfl) :
    SV X J (.Assign [.Tuple [.Name x px, .Name y py] kt pt] (.Tuple [a, b] k2 pt2) pos) (fun env => W.bind (me env) fun ds => W.bind (mf env) fun es => W.pure (.nx ((env.set i (some (.own ds))).set j (some (.own es))))) := by
  obtain ⟨ta, pa, qa⟩ := ha
  obtain ⟨tb, pb, qb⟩ := hb
  refine ⟨_, ps_par hc hN hi hj hij hx hy (pa_cons pa (pa_cons pb pa_nil h2) h1) hw hs, fun σ H G env N at_ h => qa σ H G env _ at_ ((me env).mono (fun ds q1 D H1 G1 acc g1 nD gD hD da l => ?_) (fun _ q => q) h)⟩
  refine qb σ H1 G1 env _ (at_.grow g1) ((mf env).mono (fun es q2 D2 H2 G2 acc2 g2 nD2 gD2 hD2 da2 l2 => ⟨_, _, rfl, ?_⟩) (fun _ q => q) q1)
  have kD := g2.fr D _ (at_.gr.vw.out nD) hD
  have gkD := g2.ap D _ hD (.inr rfl) gD
  have a2 := (at_.grow g1).grow g2
  have a3 := a2.setOwn i kD gkD (own_fresh at_.gr nD) (da.same g2.gg) l fun j es c e s => by
    obtain ⟨p2, vs, k1, k2, _⟩ := at_.mu.at_ j es e
    rw [k1] at s
    cases s
    rw [nD] at k2
    cases k2
  have a1 := at_.grow g1
  exact q2 _ H2 G2 (a3.setOwn j hD2 gD2 (own_fresh a1.gr nD2) da2 l2 fun k es c e s => by
    by_cases ci : i = k
    · subst ci
      rcases set_some e with ⟨_, il, _⟩ | ⟨c', _⟩
      · rw [List.getElem?_set_self (by rw [← at_.en.1]; exact il)] at s
        cases s
        rw [nD2] at hD
        cases hD
      · exact c' rfl
    · rw [List.getElem?_set_ne ci] at e s
      obtain ⟨p2, vs, k1, k2, _⟩ := a1.mu.at_ k es e
      rw [k1] at s
      cases s
      rw [nD2] at k2
      cases k2) (g1.trans g2).gg
end
end Rg

set_option Elab.async false
set_option linter.all false
set_option maxRecDepth 100000
set_option maxHeartbeats 4500000
/-! the rules by data: objects made by keywords alone, repr of one's own objects, == with a number -/
namespace Rg
open PySem PySem.Spec PyProof.Rows L2
/-- self first, then what the keywords give, in the order of the parameters -/
def selfK {α : Type} (pl : List Nat) (us ws : List α) : List α := us ++ pick ws pl
theorem selfK_vals (pl : List Nat) {vs zs : List V} {us ws : List Value} (r : Vals vs us) (q : Vals zs ws) : Vals (selfK pl vs zs) (selfK pl us ws) := r.append (pick_vals q pl)
section
variable {X : Cx} {z : Zk} {J : Jx X.K z} {e : Expr} {es : List Expr} {ms mk : Ev → W (List D)} {pos p : Pos} {x : Str}
/-- an object is made, by keywords alone -/
theorem ev_makeK {c : Str} {C f : Addr} {k : Nat} {fd : FuncData} {ps ks : List Str} {m : List D → W (List (Str × D))} {kws : List Keyword} (pl : List Nat) (hc : z.cm c = some C) (M : Mk X.K C f) (F : FnI X.prog X.w X.K X.mg X.base z.cm C k f fd ps m) (hr : Room (k + 1) X.A) (hg : Gl X x) (hm : X.mg x = some (.ref C))
    (hb : KBn X.K fd ps 1 ks (selfK pl) (selfK pl)) (hx : Passes (L2.CX X.prog X.w) X J.E) (ha : KV' X J kws mk)
    (hall : (backToKw pos (keywordEach kws X.env)).all (·.1.isSome) = true := by rfl) (hdb : (x == ("__debug__" : Str)) = false := by decide) (hks : (backToKw pos (keywordEach kws X.env)).filterMap (·.1) = ks := by rfl)
    (hpl : ((backTo pos (starEach [] X.env)).any (·.1) || (backToKw pos (keywordEach kws X.env)).any (·.1.isNone)) = false := by rfl) {n : Nat} (hn : ps.length = n + 1 := by rfl) (hl : ks.length = n := by rfl) :
    EV X J (.Call (.Name x p) [] kws pos) (fun env => W.bind (mk env) fun ds => W.bind (W.need (ds.length = n)) fun _ => makeM c n m (pick ds pl)) := by
  obtain ⟨ts, pa, qs⟩ := ha
  refine ⟨_, pe_makeK0 M F hr hg hm hb hx pa hall hks hdb hpl, fun σ H G env Q at_ h => ?_⟩
  refine qs σ H G env _ at_ ((mk env).mono (fun ds h1 vs H1 G1 g1 d1 => ⟨rfl, by rw [d1.len, h1.1, hl], fun y dx ny nd ne => ?_⟩) (fun _ q => q) h)
  have d2 := pick_dens d1 pl
  refine ⟨(z.bg.bag, z.bg.lm), G1, H1, y, dx, pick vs pl, pick ds pl, rfl, rfl, ny, nd, ne, g1.vw.low, d2.low, by rw [hn, h1.2.1], (m _).mono (fun gs h2 H' G' fs gr gy hy df => ⟨rfl, ?_⟩) (fun e q cls d H' G' g' xd => J.hE e cls d H' G' q (at_.gr.trans (g1.trans (g'.up g1.vw))) xd.up) h1.2.2⟩
  exact h2 _ _ _ (g1.trans ((gr.up g1.vw).shown g1.vw ny gy hy)) (.ins hc upd_same (df.up.same (same_new gy)))
/-- a text as it is -/
def txtO : D → W D
  | .str l => W.pure (.str l)
  | _ => W.fail
def reprO (c : Str) (m : List D → W D) (d : D) : W D := W.bind (insOf c d) fun _ => W.bind (W.noX (m [d])) txtO
theorem ca_reprO {c : Str} {C g : Addr} {k : Nat} {fd : FuncData} {s0 : Str} {m : List D → W D} (hc : z.cm c = some C) (hs : PySem.W.findIn X.K (.ref C) "__repr__" = some (some (.ref g))) (hf : PySem.W.isFn X.K (.ref g) = true) (F : FnM X.prog X.w X.K X.mg X.base z.cm k g fd [s0] m) (hr : Room (k + 1) X.A) (hb : Binds X.K fd [s0] []) :
    CaD X J (.builtin "repr") (one1 (reprO c m)) := by
  refine ⟨fun xs H Q => ∃ q dx fs, xs = [V.ref q] ∧ H q = some (.ins C dx fs) ∧ spM X.K z.cm 1 m [.ref q] H (fun v H' => ∃ t, v = .str t ∧ Q (.str t) H') (fun _ _ _ => False), fun pins s σ H xs us Q I r h => ?_, fun vs ds H G Q vw hd h => ?_⟩
  · obtain ⟨q, dx, fs, rfl, hq, h⟩ := h
    obtain ⟨_, rfl, same⟩ := vals1 r
    cases same
    obtain ⟨mA, O, _⟩ := ins_get I.hok hq
    obtain ⟨od, O, _⟩ := O.look
    obtain ⟨m', hF⟩ := I.fr
    refine PySem.W.repr_K hr.in1.units0 hF I.ok.mod.kin O hs hf (thn (run_in1 (vs := [.ref q]) F hr hb passNo I (.cons rfl .nil) h) fun v s' hv => ?_)
    obtain ⟨y, H', I', ry, t, rfl, qn⟩ := hv
    obtain ⟨u, rfl⟩ := ry
    exact ⟨.str t, H', I', ⟨_, rfl⟩, qn⟩
  · obtain ⟨v, d, rfl, rfl, a1, h⟩ := one1_wp hd h
    obtain ⟨q, dx, fs, gs, rfl, h2, h3, rfl, h4⟩ := insOf_wp hc a1 h
    refine ⟨q, dx, fs, rfl, vw.sub _ _ h2, (z.bg.bag, z.bg.lm), G, _, vw.low, .one a1.low, rfl, (m _).mono (fun r hr v' H' G' g' dv => ?_) (fun _ z => z.elim) h4⟩
    have dv' := dv.up
    cases dv' with
    | str y l q => exact ⟨_, rfl, hr _ _ _ (g'.up vw) (.str y l q)⟩
    | _ => exact hr.elim
/-- isinstance(x, C) of an object or a number -/
def isiN (c : Str) (d e : D) : W D := match d with
  | .int _ => (match e with
    | .cls c' => if c' = c then W.pure (.bl false) else W.fail
    | _ => W.fail)
  | _ => isiC c d e
theorem ca_isiN {c : Str} {C : Addr} (hc : z.cm c = some C) (cl : Cls X.K C) (ic : IsC X.K C) (hk : PySem.W.kitOne X.K (.type "int") (.ref C) = some false) : CaD X J (.builtin "isinstance") (two2 (isiN c)) := by
  refine ⟨rIsi X.K, call_isi, fun vs ds H G Q vw hd h => ?_⟩
  obtain ⟨v, w, d, e, rfl, rfl, a1, a2, h⟩ := two2_wp hd h
  cases a1 with
  | int i =>
    cases a2 with
    | @cls C' c' h1 =>
      by_cases q : c' = c
      · subst q
        rw [hc] at h1
        cases h1
        have h' : (if c' = c' then (W.pure (.bl false) : W D) else W.fail).wp (VQ X.K z G H Q) J.xQ := h
        rw [if_pos rfl] at h'
        exact ⟨_, _, _, _, _, rfl, .own C, .base (.int i), hk, h' _ _ _ (.refl vw) (.bl _)⟩
      · have h' : (if c' = c then (W.pure (.bl false) : W D) else W.fail).wp (VQ X.K z G H Q) J.xQ := h
        rw [if_neg q] at h'
        exact h'.elim
    | _ => exact h.elim
  | ins h1 h2 h3 =>
    cases a2 with
    | @cls C' c' h4 =>
      by_cases q : c' = c
      · subst q
        rw [hc] at h4
        cases h4
        have h' : (if c' = c' then W.bind (insOf c' _) fun _ => W.pure (.bl true) else W.fail).wp (VQ X.K z G H Q) J.xQ := h
        rw [if_pos rfl] at h'
        obtain ⟨q, dx, fs, gs, e1, k2, k3, e2, k4⟩ := insOf_wp hc (.ins h1 h2 h3) h'
        cases e1
        exact ⟨_, _, _, _, _, rfl, .own C, .base (.ins (vw.sub _ _ k2) cl ic.k1 ic.k2 ic.k3 ic.k4), kit_same _, k4 _ _ _ (.refl vw) (.bl _)⟩
      · have h' : (if c' = c then W.bind (insOf c _) fun _ => W.pure (.bl true) else W.fail).wp (VQ X.K z G H Q) J.xQ := h
        rw [if_neg q] at h'
        exact h'.elim
    | _ => exact h.elim
  | _ =>
    cases a2 with
    | @cls C' c' h4 =>
      by_cases q : c' = c
      · subst q
        have h' : (if c' = c' then (W.fail : W D) else W.fail).wp (VQ X.K z G H Q) J.xQ := h
        rw [if_pos rfl] at h'
        exact h'.elim
      · have h' : (if c' = c then (W.fail : W D) else W.fail).wp (VQ X.K z G H Q) J.xQ := h
        rw [if_neg q] at h'
        exact h'.elim
    | _ => exact h.elim
theorem kit_int {K : PySem.W.Frag} {C : Addr} (k4 : PySem.W.mroIn K C (.type "object") = some true) (ty : PySem.W.typeIn K (.ref C) = some (.type "type")) : PySem.W.kitOne K (.type "int") (.ref C) = some false := by
  unfold PySem.W.kitOne
  rw [if_neg (by simp)]
  unfold PySem.W.kitCls
  have h : (PySem.W.clsIn K C).isSome = true := by
    unfold PySem.W.mroIn at k4
    cases e : PySem.W.clsIn K C with
    | none =>
      rw [e] at k4
      cases k4
    | some _ => rfl
  show (if ((PySem.W.clsIn K C).isSome && PySem.W.typeIn K (.ref C) == some (.type "type")) = true then PySem.W.subIn K (.type "int") (.ref C) else none) = _
  rw [if_pos (by rw [h, ty]; simp)]
  unfold PySem.W.subIn
  rfl
/-- == of an object with a number -/
def eqI (c : Str) (m : List D → W D) (d e : D) : W D := W.bind (insOf c d) fun _ => W.bind (int1 e) fun i => W.bind (W.noX (m [d, .int i])) fun r => W.bind (ofB r) fun k => W.pure (.bl (k != false))
theorem od_eqI {c : Str} {C g : Addr} {k : Nat} {fd : FuncData} {s0 s1 : Str} {m : List D → W D} (hc : z.cm c = some C) (hs : PySem.W.findIn X.K (.ref C) "__eq__" = some (some (.ref g))) (hf : PySem.W.isFn X.K (.ref g) = true) (F : FnM X.prog X.w X.K X.mg X.base z.cm k g fd [s0, s1] m) (hr : Room (k + 1) X.A) (hb : Binds X.K fd [s0, s1] []) :
    OpD X J (compareOp .Eq) (eqI c m) := by
  refine ⟨fun x y H Q => ∃ (q dx : Addr) (fs : List (Str × V)) (i : Int), x = .ref q ∧ y = .int i ∧ H q = some (.ins C dx fs) ∧ spM X.K z.cm 2 m [.ref q, .int i] H (fun v H' => ∃ k, v = .bl k ∧ Q (.bl (k != false)) H') (fun _ _ _ => False), fun pins s σ H x y v u Q I rx ry ask => ?_, fun x y d e H G Q vw a1 a2 h => ?_⟩
  · obtain ⟨q, dx, fs, i, rfl, rfl, hx, h⟩ := ask
    cases rx
    obtain ⟨t, rfl⟩ := ry
    obtain ⟨mA, O, _⟩ := ins_get I.hok hx
    obtain ⟨od, O, _⟩ := O.look
    obtain ⟨m', hF⟩ := I.fr
    refine PySem.W.cmp_K (op := .Eq) (tb := .type "int") (hr.mono (Nat.le_succ k)).units0 hF I.ok.mod.kin O (.of_pure rfl) ?_ hs hf (thn (run_at (vs := [.ref q, .int i]) F (hr.mono (Nat.le_succ k)) hb passNo I (.cons rfl (.cons ⟨_, rfl⟩ .nil)) h) fun v s' hv => ?_)
    · unfold PySem.W.notFirst PySem.W.subIn
      rfl
    · obtain ⟨y, H', I', ry, k, rfl, qk⟩ := hv
      cases ry
      rw [xor_ff] at qk
      exact ⟨.bl k, H', I', rfl, qk⟩
  · obtain ⟨q, qx, fs, gs, rfl, h2, h3, rfl, h4⟩ := insOf_wp hc a1 h
    obtain ⟨i, rfl, h5⟩ := int1_wp a2 h4
    refine ⟨q, qx, fs, i, rfl, rfl, vw.sub _ _ h2, (z.bg.bag, z.bg.lm), G, _, vw.low, .cons a1.low (.one (.int i)), rfl, (m _).mono (fun r hr v' H' G' g' dv => ?_) (fun _ z => z.elim) h5⟩
    obtain ⟨k, rfl, rfl, h6⟩ := ofB_wp (H := H) dv.up hr
    exact ⟨k, rfl, h6 _ _ _ (g'.up vw) (.bl _)⟩
/-- the members of a list from its end -/
def revD : D → W D
  | .lst ds => W.pure (.lst ds.reverse)
  | _ => W.fail
theorem Dens.rev {K : PySem.W.Frag} {z : Zk} {G : Hp} : ∀ {vs : List V} {ds : List D}, Dens K z G vs ds → Dens K z G vs.reverse ds.reverse
  | _, _, .nil => .nil
  | _, _, .cons q r => by
    simp only [List.reverse_cons]
    exact (Dens.rev r).app (.one q)
theorem ev_rev {a : Expr} {ma : Ev → W D} {k : Nat} {p1 p2 p3 : Pos} (ha : EV X J a ma) : EV X J (.Subscript a (.Slice none none (some (.UnaryOp .USub (.Constant (.int 1) k p1) p2)) p3) pos) (fun env => W.bind (ma env) revD) := by
  obtain ⟨t, p, q⟩ := ha
  refine ⟨_, pe_revL p, fun σ H G env Q at_ h => q σ H G env _ at_ ((ma env).mono (fun d h1 v H1 G1 g1 d1 => ?_) (fun _ q => q) h)⟩
  cases d1 with
  | lst q r l => exact ⟨_, _, rfl, SqL.of (g1.vw.sub _ _ q), fun p np => h1 _ _ _ (g1.trans (.new g1.vw np)) (.lst upd_same (r.rev.same (same_new (g1.vw.sub.free np))) (by rw [List.length_reverse]; exact l))⟩
  | _ => exact h1.elim
end
end Rg

set_option Elab.async false
set_option linter.all false
set_option maxRecDepth 100000
set_option maxHeartbeats 4500000
/-! the rules by data: o.m(k = e, ..) with more than one keyword, the greatest of a list, is True, w, x, y, z = a, b, [], [] -/
namespace Rg
open PySem PySem.Spec PyProof.Rows L2
section
variable {X : Cx} {z : Zk} {J : Jx X.K z} {a b e o : Expr} {ma mb mo : Ev → W D} {mk : Ev → W (List D)} {pos p apos : Pos} {x y u v m : Str}
def tMethN (C : Addr) (m : Str) (sp : Sp) (E : XK) (pl : List Nat) (n : Nat) (ta : TE) (tk : TA) : TE := fun σ H Q => ta σ H fun x H1 => ∃ a dx fs, x = .ref a ∧ H1 a = some (.ins C dx fs) ∧ fs.lookup m = none ∧ tk σ H1 fun zs H2 => zs.length = n ∧ sp (selfK pl [.ref a] zs) H2 Q E
theorem pe_methN {CX : CXT} {pl : Sem Bool} {C g : Addr} {k : Nat} {fd : FuncData} {ps ks : List Str} {ls : List Nat} {sp : Sp} {E : XK} {ta : TE} {tk : TA} {kws : List Keyword} (he : PE X o ta) (cl : Cls X.K C) (hm : Meth X.K C m g) (F : FnOk X.prog X.w X.K X.mg X.base CX k g fd ps sp) (hr : Room k X.A)
    (hb : KBn X.K fd ps 1 ks (selfK ls) (selfK ls)) (hx : Passes CX X E) (hkw : PK X kws tk)
    (hall : (backToKw pos (keywordEach kws X.env)).all (·.1.isSome) = true := by rfl) (hks : (backToKw pos (keywordEach kws X.env)).filterMap (·.1) = ks := by rfl)
    (bare : ((backTo pos (starEach [] X.env)).any (fun a => a.1) || (backToKw pos (keywordEach kws X.env)).any (fun a => a.1.isNone)) = false := by rfl)
    (ht : eval (.Call (.Attribute o m apos) [] kws pos) X.env = (do
      let ov ← eval o X.env
      standAt apos.atName
      let (f, first) ← holding [ov] (getMethod ov m pl)
      callWith pos f first (backTo pos (starEach [] X.env)) (backToKw pos (keywordEach kws X.env))) := by rfl) :
    PE X (.Call (.Attribute o m apos) [] kws pos) (tMethN C m sp E ls ks.length ta tk) := by
  refine ⟨fun pins s σ H Q I h => PySem.W.methodCall_KW (pl := pl) (thn (he.run pins s σ H _ I h) ?_) ht⟩
  rintro u s1 ⟨x, H1, I1, rx, a, dx, fs, rfl, ea, l, q⟩
  obtain rfl : u = Value.ref a := rx
  refine getmeth_ok I1 ea cl hm l (PySem.W.callWith_KW0 (first := [.ref a]) (h₀ := X.base) I.ok.mod.kin hm.kp hall (thn (hkw.run pos pins s1 σ H1 _ I1 q) ?_) bare)
  rintro ws s2 ⟨zs, H2, I2, rz, l2, q2⟩
  refine ⟨I2.kIn, ?_⟩
  rw [hks]
  exact run_fnN (us := [.ref a]) (vs := [.ref a]) F hr hb hx I2 (.cons rfl .nil) rz rfl l2 q2
theorem ev_methN {pl : Sem Bool} {c : Str} {C g : Addr} {k : Nat} {fd : FuncData} {ps ks : List Str} (ls : List Nat) {mm : List D → W D} {kws : List Keyword} (hc : z.cm c = some C) (cl : Cls X.K C) (hm : Meth X.K C m g) (F : FnM X.prog X.w X.K X.mg X.base z.cm k g fd ps mm) (hr : Room k X.A)
    (hb : KBn X.K fd ps 1 ks (selfK ls) (selfK ls)) (hx : Passes (L2.CX X.prog X.w) X J.E) (ho : EV X J o mo) (ha : KV' X J kws mk)
    (hall : (backToKw pos (keywordEach kws X.env)).all (·.1.isSome) = true := by rfl) (hks : (backToKw pos (keywordEach kws X.env)).filterMap (·.1) = ks := by rfl)
    (bare : ((backTo pos (starEach [] X.env)).any (fun a => a.1) || (backToKw pos (keywordEach kws X.env)).any (fun a => a.1.isNone)) = false := by rfl)
    (ht : eval (.Call (.Attribute o m apos) [] kws pos) X.env = (do
      let ov ← eval o X.env
      standAt apos.atName
      let (f, first) ← holding [ov] (getMethod ov m pl)
      callWith pos f first (backTo pos (starEach [] X.env)) (backToKw pos (keywordEach kws X.env))) := by rfl) {n l : Nat} (hn : ps.length = n := by rfl) (hl : ks.length = l := by rfl) :
    EV X J (.Call (.Attribute o m apos) [] kws pos) (fun env => W.bind (mo env) fun d => W.bind (insOf c d) fun gs => W.bind (W.need (gs.lookup m = none)) fun _ => W.bind (mk env) fun ds => W.bind (W.need (ds.length = l)) fun _ => callM n mm (selfK ls [d] ds)) := by
  subst hn
  obtain ⟨t, p, q⟩ := ho
  obtain ⟨ts, pa, qs⟩ := ha
  refine ⟨_, pe_methN p cl hm F hr hb hx pa hall hks bare ht, fun σ H G env Q at_ h => q σ H G env _ at_ ((mo env).mono (fun d h1 v H1 G1 g1 d1 => ?_) (fun _ q => q) h)⟩
  obtain ⟨p, dx, fs, gs, rfl, h2, h3, rfl, h4, h5⟩ := insOf_wp hc d1 h1
  refine ⟨p, dx, fs, rfl, g1.vw.sub _ _ h2, h3.none h4, qs σ H1 G1 env _ (at_.grow g1) ((mk env).mono (fun ds h6 vs H2 G2 g2 d2 => ⟨by rw [d2.len, h6.1, hl], ?_⟩) (fun _ q => q) h5)⟩
  exact ask at_ (g1.trans g2) ((Dens.one (d1.same g2.gg)).app (pick_dens d2 ls)) h6.2.1 h6.2.2
/-- the numbers of a list -/
def intsOf : List D → Option (List Int)
  | [] => some []
  | .int i :: r => (intsOf r).map (i :: ·)
  | _ :: _ => none
theorem ints_eq : ∀ {ds : List D} {ns : List Int}, intsOf ds = some ns → ds = ns.map D.int
  | [], _, h => by
    cases h
    rfl
  | .int i :: r, ns, h => by
    unfold intsOf at h
    cases e : intsOf r with
    | none =>
      rw [e] at h
      cases h
    | some l =>
      rw [e] at h
      cases h
      rw [ints_eq e]
      rfl
  | .non :: _, _, h => nomatch h
  | .bl _ :: _, _, h => nomatch h
  | .str _ :: _, _, h => nomatch h
  | .lst _ :: _, _, h => nomatch h
  | .tup _ :: _, _, h => nomatch h
  | .ins _ _ :: _, _, h => nomatch h
  | .bag :: _, _, h => nomatch h
  | .ty _ :: _, _, h => nomatch h
  | .cls _ :: _, _, h => nomatch h
  | .lam _ :: _, _, h => nomatch h
  | .own _ :: _, _, h => nomatch h
theorem ints_den {K : PySem.W.Frag} {z : Zk} {G : Hp} : ∀ {vs : List V} (ns : List Int), Dens K z G vs (ns.map D.int) → vs = ns.map V.int
  | _, [], h => by
    cases h
    rfl
  | _, i :: r, h => by
    cases h with
    | cons q s =>
      cases q
      rw [ints_den r s]
      rfl
/-- the greatest of some numbers, the first of which is i -/
def topI (i : Int) (r : List Int) : Int := r.foldl max i
theorem topI_ge (i : Int) : ∀ (r : List Int) (i : Int), i ≤ topI i r ∧ ∀ y ∈ r, y ≤ topI i r
  | [], i => ⟨Int.le_refl _, fun _ h => nomatch h⟩
  | j :: r, i => by
    obtain ⟨h1, h2⟩ := topI_ge i r (max i j)
    have e : topI i (j :: r) = topI (max i j) r := rfl
    rw [e]
    refine ⟨by omega, fun y hy => ?_⟩
    rcases (List.mem_cons).mp hy with rfl | hy
    · omega
    · exact h2 y hy
theorem topI_mem : ∀ (r : List Int) (i : Int), topI i r ∈ i :: r
  | [], i => List.mem_cons_self
  | j :: r, i => by
    have e : topI i (j :: r) = topI (max i j) r := rfl
    rw [e]
    rcases List.mem_cons.mp (topI_mem r (max i j)) with h | h
    · rw [h]
      by_cases c : i ≤ j
      · rw [Int.max_eq_right c]
        exact List.mem_cons_of_mem _ List.mem_cons_self
      · rw [Int.max_eq_left (by omega)]
        exact List.mem_cons_self
    · exact List.mem_cons_of_mem _ (List.mem_cons_of_mem _ h)
/-- the greatest number of a list -/
def maxD : D → W D
  | .lst ds => (match intsOf ds with
    | some (i :: r) => W.pure (.int (topI i r))
    | _ => W.fail)
  | _ => W.fail
theorem ca_max (hc : X.calm = true) : CaD X J (.builtin "max") (one1 maxD) := by
  refine ⟨_, cr_max hc, fun vs ds H G Q vw hd h => ?_⟩
  obtain ⟨v, d, rfl, rfl, a1, h⟩ := one1_wp hd h
  cases a1 with
  | @lst A xs es q r l =>
    have h' : (match intsOf es with
      | some (i :: r) => (W.pure (D.int (topI i r)) : W D)
      | _ => (W.fail : W D)).wp (VQ X.K z G H Q) J.xQ := h
    cases e : intsOf es with
    | none =>
      rw [e] at h'
      exact h'.elim
    | some ns =>
      cases ns with
      | nil =>
        rw [e] at h'
        exact h'.elim
      | cons i t =>
        rw [e] at h'
        have e2 := ints_eq e
        subst e2
        have e3 := ints_den _ r
        refine ⟨A, i :: t, rfl, SqL.of (vw.sub _ _ (by rw [← e3]; exact q)), Nat.succ_pos _, fun m hm hle => ?_⟩
        have : m = topI i t := by
          obtain ⟨t1, t2⟩ := topI_ge i t i
          have t3 := hle _ (topI_mem t i)
          have t4 : m ≤ topI i t := by
            rcases (List.mem_cons).mp hm with rfl | hm
            · exact t1
            · exact t2 m hm
          omega
        subst this
        exact h' _ _ _ (.refl vw) (.int _)
  | _ => exact h.elim
/-- is True -/
def isBlD : D → D → W D
  | .bl a, .bl b => W.pure (.bl (decide (a = b)))
  | _, _ => W.fail
theorem od_isB : OpD X J (compareOp .Is) isBlD := by
  refine ⟨_, op_is_bl, fun x y d e H G Q vw dx dy h => ?_⟩
  cases dx with
  | bl a =>
    cases dy with
    | bl b => exact ⟨a, b, rfl, rfl, h _ _ _ (.refl vw) (.bl _)⟩
    | _ => exact h.elim
  | _ => exact h.elim
theorem sv_own4c (i j l n : Nat) {px py pz pw pt pt2 l1 l2 : Pos} {kt k2 : Nat} (hc : X.calm = true) (hN : X.N.Nodup) (hi : X.N[i]? = some x) (hj : X.N[j]? = some y) (hl : X.N[l]? = some u) (hn : X.N[n]? = some v) (hx : Loc X.env.scope x) (hy : Loc X.env.scope y) (hu : Loc X.env.scope u) (hv : Loc X.env.scope v) (ha : EV X J a ma) (hb : EV X J b mb)
    (hw : swappedStores [.Tuple [.Name x px, .Name y py, .Name u pz, .Name v pw] kt pt] (.Tuple [a, b, .List [] l1, .List [] l2] k2 pt2) X.env = pure none := by rfl) (hs : swapsWithSole [.Tuple [.Name x px, .Name y py, .Name u pz, .Name v pw] kt pt] (.Tuple [a, b, .List [] l1, .List [] l2] k2 pt2) pos.line X.env = pure false := by rfl)
    (hh : (assignEach [.Tuple [.Name x px, .Name y py, .Name u pz, .Name v pw] kt pt] X.env).map (·.2) = [assign (.Tuple [.Name x px, .Name y py, .Name u pz, .Name v pw] kt pt) X.env] := by rfl)
    (e1 : (assignEach [.Name x px, .Name y py, .Name u pz, .Name v pw] X.env).map (·.2) = assign (.Name x px) X.env :: (assignEach [.Name y py, .Name u pz, .Name v pw] X.env).map (·.2) := by rfl) (e2 : (assignEach [.Name y py, .Name u pz, .Name v pw] X.env).map (·.2) = assign (.Name y py) X.env :: (assignEach [.Name u pz, .Name v pw] X.env).map (·.2) := by rfl)
    (e3 : (assignEach [.Name u pz, .Name v pw] X.env).map (·.2) = assign (.Name u pz) X.env :: (assignEach [.Name v pw] X.env).map (·.2) := by rfl) (e4 : (assignEach [.Name v pw] X.env).map (·.2) = assign (.Name v pw) X.env :: (assignEach [] X.env).map (·.2) := by rfl)
    (en : (assignEach [.Name x px, .Name y py, .Name u pz, .Name v pw] X.env).length = 4 := by rfl) (est : (assignEach [.Name x px, .Name y py, .Name u pz, .Name v pw] X.env).findIdx? (·.1) = none := by rfl)
    (fx : X.fn x = true ∨ X.env.scope.names.lookup x = some .local := by first | exact .inl rfl | exact .inr rfl) (fy : X.fn y = true ∨ X.env.scope.names.lookup y = some .local := by first | exact .inl rfl | exact .inr rfl) (fu : X.fn u = true ∨ X.env.scope.names.lookup u = some .local := by first | exact .inl rfl | exact .inr rfl) (fv : X.fn v = true ∨ X.env.scope.names.lookup v = some .local := by first | exact .inl rfl | exact .inr rfl)
    (h00 : starEach [a, b, .List [] l1, .List [] l2] X.env = (false, eval a X.env) :: starEach [b, .List [] l1, .List [] l2] X.env := by rfl) (h0 : starEach [b, .List [] l1, .List [] l2] X.env = (false, eval b X.env) :: starEach [.List [] l1, .List [] l2] X.env := by rfl)
    (h1 : starEach [.List [] l1, .List [] l2] X.env = (false, eval (.List [] l1) X.env) :: starEach [.List [] l2] X.env := by rfl) (h2 : starEach [.List [] l2] X.env = (false, eval (.List [] l2) X.env) :: starEach [] X.env := by rfl) :
    SV X J (.Assign [.Tuple [.Name x px, .Name y py, .Name u pz, .Name v pw] kt pt] (.Tuple [a, b, .List [] l1, .List [] l2] k2 pt2) pos) (fun env => W.bind (ma env) fun d => W.bind (mb env) fun e => W.pure (.nx ((((env.set i (some d)).set j (some e)).set l (some (.own []))).set n (some (.own []))))) := by
  obtain ⟨ta, pa, qa⟩ := ha
  obtain ⟨tb, pb, qb⟩ := hb
  refine ⟨_, ps_asg (pe_tup (pa_cons pa (pa_cons pb (pa_cons (pe_lst pa_nil) (pa_cons (pe_lst pa_nil) pa_nil h2) h1) h0) h00)) (pg_tup hc (pgs_cons (pg_name hN hi hx fx) (pgs_cons (pg_name hN hj hy fy) (pgs_cons (pg_name hN hl hu fu) (pgs_cons (pg_name hN hn hv fv) pgs_nil e4) e3) e2) e1) en est) hs hw hh,
    fun σ H G env N at_ h => qa σ H G env _ at_ ((ma env).mono (fun d h3 v H1 G1 g1 d1 => qb σ H1 G1 env _ (at_.grow g1) ((mb env).mono (fun e h4 w H2 G2 g2 d2 => ⟨Nat.zero_le _, fun p np => ⟨Nat.zero_le _, fun q nq => ⟨(show 4 ≤ sizeLine by decide), fun T nT => ⟨T, [v, w, .ref p, .ref q], rfl, SqU.to (.inl upd_same) (Same.refl _), rfl, v, [w, .ref p, .ref q], rfl, w, [.ref p, .ref q], rfl, .ref p, [.ref q], rfl, .ref q, [], rfl, rfl, ?_⟩⟩⟩⟩) (fun _ q => q) h3)) (fun _ q => q) h)⟩
  have a3 := ((((at_.grow g1).grow g2).set i (d1.same g2.gg)).set j d2).setNew l np |>.setNew n nq
  exact h4 _ _ G2 (a3.grow (.hid a3.gr.vw nT)) (g1.trans g2).gg
end
end Rg

set_option Elab.async false
set_option linter.all false
set_option maxRecDepth 100000
set_option maxHeartbeats 4500000
/-! the rules by data: x, *y = a tuple -/
namespace Rg
open PySem PySem.Spec PyProof.Rows L2
section
variable {prog : Program} {w : World} {A : Around} {E : Value → Shared → Prop} {s : Shared}
/-- a tuple is taken apart: its first, and a new list of the others -/
theorem unpackS {a : Addr} {its : Array Value} {Q : List Value → Shared → Prop} (hh : A.handled = none) (ht : IsTup s.heap a its) (h1 : 1 ≤ its.size) (hz : its.size ≤ 16384)
    (h : ∀ (g : Heap) (tk : Nat), (∀ b o, s.heap.get? b = some o → g.get? b = some o) → Q (its.toList.take 1 ++ [.ref g.objs.size]) { s with heap := g.push { cls := .type "list", data := .seq (its.toList.drop 1).toArray 0 }, toks := tk }) :
    wpAny (model prog w) A (unpackItems (.ref a) 2 (some 1)) Q E s := by
  obtain ⟨oa, ea, _⟩ := id ht
  have la : a < s.heap.objs.size := Heap.lt_size ea
  have na : a ≠ s.heap.objs.size := Nat.ne_of_lt la
  unfold unpackItems notIterableAtAll
  refine wpAny_bind (wpAny_bind (wpAny_specialOf ht.typeIs slot_tuple_iter.lookup (wpAny_pure ?_)))
  simp only [if_false, Bool.false_eq_true]
  refine wpAny_bind (wpAny_holding (iter_tuple ht (wpAny_bind (wpAny_holding (draw_tuple na 1 0 _ _ ⟨_, Heap.get?_push_size _ rfl, rfl, rfl⟩ (ht.push _) (by omega) fun g1 it1 sb => ?_)))))
  have ht1 : IsTup g1 a its := (ht.push _).extBut sb.extBut na
  rw [Nat.zero_add] at it1
  obtain ⟨oi, ei, _⟩ := id it1
  obtain ⟨ob, eb, _⟩ := id ht1
  rw [List.drop_zero]
  have l1 : (its.toList.take 1).length = 1 := by rw [List.length_take, Array.length_toList]; omega
  rw [if_neg (show ¬ ((its.toList.take 1).length < 1) by rw [l1]; omega)]
  refine wpAny_bind (wpAny_holding (PySem.W.kun_collect (s := { s with heap := g1 }) (T := "tuple_iterator") (.inr (.inr (.inr rfl))) (Walks.tuple (A := A.in1) hh s.heap.objs.size a na its) (fun j u st => st.1.typeIs) (k := 1) (by omega) ⟨it1, ht1⟩ (Heap.lt_size ei) (Heap.lt_size eb) (fun g2 tk keep => ?_) (by rw [sizeLine_eq]; omega)))
  have e0 : (its.toList.drop 1).length - (2 - 1 - 1) = (its.toList.drop 1).length := Nat.sub_zero _
  show wpAny _ _ (if (its.toList.drop 1).length < 2 - 1 - 1 then _ else _) _ _ _
  rw [if_neg (Nat.not_lt_zero _)]
  show wpAny _ _ (newList ((its.toList.drop 1).take ((its.toList.drop 1).length - (2 - 1 - 1))) >>= fun d => pure (its.toList.take 1 ++ [d] ++ (its.toList.drop 1).drop ((its.toList.drop 1).length - (2 - 1 - 1)))) _ _ _
  rw [e0, List.take_length, List.drop_length]
  have old : ∀ b o, s.heap.get? b = some o → g2.get? b = some o := fun b o e => keep b o (Nat.ne_of_lt (Heap.lt_size e)) (sb.extBut b o (Nat.ne_of_lt (Heap.lt_size e)) (Heap.get?_push_of_some _ e))
  refine wpAny_bind (wpAny_newList (wpAny_pure ?_) (by rw [List.length_drop, Array.length_toList, sizeLine_eq]; omega))
  rw [List.append_nil]
  exact h g2 tk old
end
section
variable {X : Cx} {z : Zk} {J : Jx X.K z} {a b e : Expr} {ma : Ev → W D} {pos : Pos} {x y : Str}
/-- x, *y = a tuple -/
def gStarT (K : PySem.W.Frag) (t : TGs) : TG := fun v σ H Q => ∃ (A : Addr) (u : V) (xs : List V), v = .ref A ∧ SqT K H A (u :: xs) ∧ xs.length < 16384 ∧ ∀ D, H D = none → t [u, .ref D] σ (upd H D (.lst xs)) Q
theorem pg_starT {k : Nat} {sp : Pos} {t : TGs} (hc : X.calm = true) (h : PGs X [a, b] t) (hm : (assignEach [a, .Starred b sp] X.env).map (·.2) = (assignEach [a, b] X.env).map (·.2) := by rfl) (hn : (assignEach [a, .Starred b sp] X.env).length = 2 := by rfl) (hs : (assignEach [a, .Starred b sp] X.env).findIdx? (·.1) = some 1 := by rfl) :
    PG X (.Tuple [a, .Starred b sp] k pos) (gStarT X.K t) := by
  refine ⟨fun pins s σ H v u Q I r h5 => ?_⟩
  obtain ⟨A, x, xs, rfl, hq, hl, hw⟩ := h5
  cases r
  obtain ⟨its, rv, ht, _⟩ := I.tuple hq
  obtain ⟨u1, us, rfl, r1, r2⟩ : ∃ u1 us, its = u1 :: us ∧ RelV x u1 ∧ Vals xs us := by
    cases rv with
    | cons r1 r2 => exact ⟨_, _, rfl, r1, r2⟩
  have ul : us.length = xs.length := r2.length.symm
  rw [assign_Tuple]
  refine wpAny_bind (wpAny_standAt (?_))
  unfold unpack
  rw [hn, hs]
  refine wpAny_bind (wpAny_holding (unpackS (I.ok.hd hc) ht (by simp) (by simp; omega) fun g tk keep => ?_))
  rw [hm]
  have I1 : Inv X pins σ H { s with heap := g, toks := tk } := I.kept keep
  have hf : H g.objs.size = none := I1.hok.fresh (Nat.le_refl _)
  have I2 : Inv X pins σ (upd H g.objs.size (.lst xs)) { s with heap := g.push { cls := .type "list", data := .seq us.toArray 0 }, toks := tk } :=
    I1.laid (t' := tk) (fun b o e => Heap.get?_push_of_some _ e) (Nat.le_refl _) ⟨by rw [sizeLine_eq]; omega, us, 0, r2, Heap.get?_push_size _ rfl⟩
  exact h.run pins _ σ _ [x, .ref g.objs.size] [u1, .ref g.objs.size] Q I2 (.cons r1 (.cons rfl .nil)) (hw _ hf)
/-- the first of a tuple, and the list of the others -/
def headT : D → W (D × List D)
  | .tup (d :: r) => W.bind (W.need (r.length ≤ 1000)) fun _ => W.pure (d, r)
  | _ => W.fail
theorem sv_starU (i j : Nat) {px py sp pt : Pos} {kt : Nat} (hc : X.calm = true) (hN : X.N.Nodup) (hi : X.N[i]? = some x) (hj : X.N[j]? = some y) (hx : Loc X.env.scope x) (hy : Loc X.env.scope y) (ha : EV X J e ma)
    (hw : swappedStores [.Tuple [.Name x px, .Starred (.Name y py) sp] kt pt] e X.env = pure none := by rfl) (hs : swapsWithSole [.Tuple [.Name x px, .Starred (.Name y py) sp] kt pt] e pos.line X.env = pure false := by rfl)
    (hh : (assignEach [.Tuple [.Name x px, .Starred (.Name y py) sp] kt pt] X.env).map (·.2) = [assign (.Tuple [.Name x px, .Starred (.Name y py) sp] kt pt) X.env] := by rfl)
    (e1 : (assignEach [.Name x px, .Name y py] X.env).map (·.2) = assign (.Name x px) X.env :: (assignEach [.Name y py] X.env).map (·.2) := by rfl) (e2 : (assignEach [.Name y py] X.env).map (·.2) = assign (.Name y py) X.env :: (assignEach [] X.env).map (·.2) := by rfl)
    (hm : (assignEach [.Name x px, .Starred (.Name y py) sp] X.env).map (·.2) = (assignEach [.Name x px, .Name y py] X.env).map (·.2) := by rfl) (hn : (assignEach [.Name x px, .Starred (.Name y py) sp] X.env).length = 2 := by rfl) (hst : (assignEach [.Name x px, .Starred (.Name y py) sp] X.env).findIdx? (·.1) = some 1 := by rfl)
    (fx : X.fn x = true ∨ X.env.scope.names.lookup x = some .local := by first | exact .inl rfl | exact .inr rfl) (fy : X.fn y = true ∨ X.env.scope.names.lookup y = some .local := by first | exact .inl rfl | exact .inr rfl) :
    SV X J (.Assign [.Tuple [.Name x px, .Starred (.Name y py) sp] kt pt] e pos) (fun env => W.bind (ma env) fun d => W.bind (headT d) fun p => W.pure (.nx ((env.set i (some p.1)).set j (some (.lst p.2))))) := by
  obtain ⟨ta, pa, qa⟩ := ha
  refine ⟨_, ps_asg pa (pg_starT hc (pgs_cons (pg_name hN hi hx fx) (pgs_cons (pg_name hN hj hy fy) pgs_nil e2) e1) hm hn hst) hs hw hh, fun σ H G env N at_ h => qa σ H G env _ at_ ((ma env).mono (fun d h1 v H1 G1 g1 d1 => ?_) (fun _ q => q) h)⟩
  cases d1 with
  | @tup A xs ds q r l =>
    cases r with
    | nil => exact h1.elim
    | @cons u us d0 dr r1 r2 =>
      obtain ⟨hl, h2⟩ := h1
      refine ⟨A, u, us, rfl, q.to g1.vw.sub, by rw [r2.len]; omega, fun D nD => ⟨u, [.ref D], rfl, .ref D, [], rfl, rfl, ?_⟩⟩
      have a1 := (at_.grow g1).set i r1
      have gD := a1.gr.vw.sub.free nD
      have g2 : Grow z G1 H1 (upd G1 D (.lst us)) (upd H1 D (.lst us)) := .new g1.vw nD
      have a2 := (a1.grow g2).set j (.lst upd_same (r2.same (same_new gD)) (by show dr.length ≤ 100000; omega))
      exact h2 _ _ _ a2 (g1.trans g2).gg
  | _ => exact h1.elim
end
end Rg

set_option Elab.async false
set_option linter.all false
set_option maxRecDepth 100000
set_option maxHeartbeats 4500000
/-! the rules by data: C.m(a, ..) of a staticmethod m(a, *rest); operators of own objects -/
namespace Rg
open PySem PySem.Spec PyProof.Rows L2
/-- C.m is a staticmethod: its record at p, its def at g -/
structure SMet (K : PySem.W.Frag) (C : Addr) (m : Str) (p g : Addr) : Prop where
  rd : ClX.CRead K C (.type "type")
  at_ : PySem.W.findCls K (.ref C) (.type "type") m = some (.get (.builtin "staticmethod.__get__") (.ref p) .none (.ref C))
  rc : ∃ rest, PySem.W.recIn K p "staticmethod" = some (.ref g :: rest)
section
variable {X : Cx} {CX : CXT} {k : Nat} {C p g : Addr} {sp : Sp} {E : XK} {o e : Expr} {es : List Expr} {f m : Str} {pos apos : Pos} {ta : TE} {t : TA} {pl : Sem Bool}
def tSMeth (C : Addr) (sp : Sp) (E : XK) (ta : TE) (t : TA) : TE := fun σ H Q => ta σ H fun x H1 => x = .ref C ∧ t σ H1 fun vs H2 => sp vs H2 Q E
theorem pe_smeth (he : PE X o ta) (c : SMet X.K C m p g) (hk : PySem.W.keepIn X.K (.ref g) = true) (F : FnR X.prog X.w X.K X.mg X.base CX k g sp) (hr : Room k X.A) (hx : Passes CX X E) (ha : PA X (e :: es) t)
    (hst : starEach (e :: es) X.env = (false, eval e X.env) :: starEach es X.env := by rfl) (hpl : (backTo pos (starEach es X.env)).any (·.1) = false := by rfl)
    (ht : eval (.Call (.Attribute o m apos) (e :: es) [] pos) X.env = (do
      let ov ← eval o X.env
      standAt apos.atName
      let (f, first) ← holding [ov] (getMethod ov m pl)
      callWith pos f first (backTo pos (starEach (e :: es) X.env)) (backToKw pos (keywordEach [] X.env))) := by rfl) :
    PE X (.Call (.Attribute o m apos) (e :: es) [] pos) (tSMeth C sp E ta t) := by
  refine ⟨fun pins s σ H Q I h => PySem.W.methodCall_KW (pl := pl) (thn (he.run pins s σ H _ I h) fun u s1 ⟨x, H1, I1, rx, ex, q⟩ => ?_) ht⟩
  subst ex
  obtain rfl : u = .ref C := rx
  obtain ⟨rest, hp⟩ := c.rc
  refine PySem.W.method_cls I1.kIn c.rd.ga (PySem.W.cls_bind I1.kIn c.rd.rd c.at_ (wpAny_call (PySem.W.sm_get (s := { s1 with toks := s1.toks + 1 }) I1.kIn hp (PySem.W.handed_on rfl ?_))))
  have I2 := I1.tok (s1.toks + 1)
  exact PySem.W.callWith_K (h₀ := X.base) I2.ok.mod.kin hk (thn (ha.run pos pins _ σ H1 _ I2 q) fun us s2 ⟨vs, H2, I3, r, q2⟩ => ⟨I3.kIn, wpAny_call (run_fnR F hr hx I3 r q2)⟩) hst hpl
end
/-- what is promised of a def f(a, *rest) -/
def spS1 (K : PySem.W.Frag) (cm : Str → Option Addr) (m : List D → W D) : Sp := fun vs H Q E => ∃ (bg : Bl) (G : Hp) (d : D) (ds : List D), Vw ⟨cm, ⟨bg.1, [], bg.2⟩⟩ G H ∧ Dens K ⟨cm, ⟨bg.1, [], bg.2⟩⟩ G vs (d :: ds) ∧ ds.length ≤ big ∧
  (m [d, .tup ds]).wp (VQ K ⟨cm, ⟨bg.1, [], bg.2⟩⟩ G H Q) (fun x => ∀ cls dx H' G', Grow ⟨cm, ⟨bg.1, [], bg.2⟩⟩ G H G' H' → XDen K ⟨cm, ⟨bg.1, [], bg.2⟩⟩ G' H' cls dx x → E cls dx H')
abbrev FnS1 (P : Program) (w : World) (K : PySem.W.Frag) (mg : Str → Option Value) (base : Heap) (cm : Str → Option Addr) (k : Nat) (f : Addr) (m : List D → W D) : Prop := FnR P w K mg base (L2.CX P w) k f (spS1 K cm m)
section
variable {P : Program} {w : World} {K : PySem.W.Frag} {mg : Str → Option Value} {base : Heap} {cm : Str → Option Addr}
theorem fnS1 {x qual p1 pv : Str} {st : Stmt} {f : Addr} {fd : FuncData} {N : List Str} {k : Nat} {mb : Ev → W Fl} (F : Fun K x qual st f fd) (S : FnScope N [p1, pv] (defScope st))
    (hb : ∀ (kV doc pm : Value) (an : Option Addr) (cdv ct : Value) (a : Value) (rest : List Value), bindArgs (PySem.W.fnOf x qual (defArgs st) (defBody st) (defScope st) .none kV doc pm an cdv ct) ⟨a :: rest, []⟩ = (newTuple rest >>= fun t => pure [(p1, a), (pv, t)]))
    (body : ∀ (cdv : Value) (A : Around) (outer : List Env) (s : Shared) (H : Hp) (bg : Bl) (J : Jx K ⟨cm, ⟨bg.1, [], bg.2⟩⟩), Room k (A.deeper (envOfC qual (defScope st) s.heap.objs.size f cdv)) →
      Passes (L2.CX P w) (cxOf (L2.CX P w) P w K mg base N qual (defScope st) f cdv A outer s H J.E) J.E → PassesOwn (model P w) (A.deeper (envOfC qual (defScope st) s.heap.objs.size f cdv)) (envOfC qual (defScope st) s.heap.objs.size f cdv) (cxOf (L2.CX P w) P w K mg base N qual (defScope st) f cdv A outer s H J.E).xe →
      SVs (cxOf (L2.CX P w) P w K mg base N qual (defScope st) f cdv A outer s H J.E) J (defBody st) mb) : FnS1 P w K mg base cm (k + 1) f (runF N.length mb) := by
  obtain ⟨oc, od, kV, doc, pm, an, cdv, ct, os0, rfl, lk, hcd⟩ := F.ex
  have all := StX.fn_star (ps := [p1]) (pv := pv) (sp := spM K cm 2 (runF N.length mb)) (k := k) lk hcd S StX.cxUp (fun us rest hl => by
    match us, hl with
    | [a], _ => exact hb kV doc pm an cdv ct a rest) (fun A outer s H vs Q E hr h => by
    obtain ⟨bg, G, ds, vw, hd, _, h⟩ := h
    obtain ⟨t, pt, qt⟩ := body cdv A outer s H bg ⟨G, H, E, fun x => ∀ cls dx H' G', Grow ⟨cm, ⟨bg.1, [], bg.2⟩⟩ G H G' H' → XDen K ⟨cm, ⟨bg.1, [], bg.2⟩⟩ G' H' cls dx x → E cls dx H', fun x cls dx H' G' q g d => q cls dx H' G' g d⟩ hr
      (passes_call (takes_of rfl rfl rfl rfl) (fun _ _ _ _ h => h)) (passes_of rfl)
    refine ⟨t, pt, qt (L2.start N vs) H G (startE N.length ds) _ ⟨.refl vw, vw, start_en hd, ⟨fun i ds e => (startE_nomut hd.nomut e).elim, fun i j ds es p _ e => (startE_nomut hd.nomut e).elim⟩⟩ ((mb _).mono (fun fl h1 => ?_) (fun _ q => q) h)⟩
    cases fl with
    | nx env => exact fun σ H' G' at' _ => h1 .non H' G' at'.gr .non
    | rt d => exact fun v H' G' g dv => h1 v H' G' g dv
    | bk _ => exact h1.elim
    | ct _ => exact h1.elim)
  refine all.imp fun vs H Q E h => ?_
  obtain ⟨bg, G, d, ds, vw, hd, hl, h⟩ := h
  match vs, hd with
  | v :: ws, .cons d1 d2 =>
    have len := d2.len
    refine ⟨[v], ws, rfl, rfl, by rw [len]; exact Nat.le_trans hl big_line, fun p np => ?_⟩
    have g1 := Grow.new (o := .tup ws) vw np
    refine ⟨bg, upd G p (.tup ws), [d, .tup ds], g1.vw, .cons (d1.same g1.gg) (.one (.tup (.inl upd_same) (d2.same g1.gg) hl)), rfl, (runF N.length mb [d, .tup ds]).mono (fun d q v H' G' g dv => q v H' G' (g1.trans g) dv) (fun x q cls dx H' G' g xd => q cls dx H' G' (g1.trans g) xd) h⟩
end
section
variable {X : Cx} {z : Zk} {J : Jx X.K z} {o e : Expr} {es : List Expr} {mo : Ev → W D} {ms : Ev → W (List D)} {pos apos : Pos} {x m : Str}
/-- m(a, *rest) with what is given -/
def callS1 (m : List D → W D) : List D → W D
  | d :: ds => W.bind (W.need (ds.length ≤ big)) fun _ => m [d, .tup ds]
  | [] => W.fail
theorem ev_smeth {pl : Sem Bool} {c : Str} {C p g : Addr} {k : Nat} {mm : List D → W D} (hc : z.cm c = some C) (cc : SMet X.K C m p g) (hk : PySem.W.keepIn X.K (.ref g) = true) (F : FnS1 X.prog X.w X.K X.mg X.base z.cm k g mm) (hr : Room k X.A) (hx : Passes (L2.CX X.prog X.w) X J.E) (hg : Gl X x) (hm : X.mg x = some (.ref C)) (ha : AV X J (e :: es) ms)
    {po : Pos} (hd : (x == ("__debug__" : Str)) = false := by decide)
    (hst : starEach (e :: es) X.env = (false, eval e X.env) :: starEach es X.env := by rfl) (hpl : (backTo pos (starEach es X.env)).any (·.1) = false := by rfl)
    (ht : eval (.Call (.Attribute (.Name x po) m apos) (e :: es) [] pos) X.env = (do
      let ov ← eval (.Name x po) X.env
      standAt apos.atName
      let (f, first) ← holding [ov] (getMethod ov m pl)
      callWith pos f first (backTo pos (starEach (e :: es) X.env)) (backToKw pos (keywordEach [] X.env))) := by rfl) :
    EV X J (.Call (.Attribute (.Name x po) m apos) (e :: es) [] pos) (fun env => W.bind (ms env) (callS1 mm)) := by
  obtain ⟨ts, pa, qs⟩ := ha
  refine ⟨_, pe_smeth (pe_glob (v := .ref C) hg hm rfl hd) cc hk F hr hx pa hst hpl ht, fun σ H G env Q at_ h => ⟨rfl, qs σ H G env _ at_ ((ms env).mono (fun ds h1 vs H1 G1 g1 d1 => ?_) (fun _ q => q) h)⟩⟩
  match ds, h1, d1 with
  | [], h1, _ => exact h1.elim
  | d :: ds, h1, d1 =>
    obtain ⟨hl, h2⟩ := h1
    exact ⟨(z.bg.bag, z.bg.lm), G1, d, ds, g1.vw.low, d1.low, hl, (mm _).mono (fun d q v H' G' g' dv => q v H' G' (g1.trans (g'.up g1.vw)) dv.up) (fun x q cls dx H' G' g' xd => J.hE x cls dx H' G' q (at_.gr.trans (g1.trans (g'.up g1.vw))) xd.up) h2⟩
/-- an operator of two objects of one class that makes a third -/
theorem op_ownO {op : Operator} {C g : Addr} {k : Nat} {fd : FuncData} {s0 s1 : Str} {m : List D → W D} {cm : Str → Option Addr} {E : XK} (sf : PySem.W.selfFirst X.K C = true) (hs : PySem.W.findIn X.K (.ref C) (PySem.dunder op.info.2) = some (some (.ref g))) (hf : PySem.W.isFn X.K (.ref g) = true) (F : FnM X.prog X.w X.K X.mg X.base cm k g fd [s0, s1] m) (hr : Room k X.A) (hb : Binds X.K fd [s0, s1] []) (hx : Passes (L2.CX X.prog X.w) X E) :
    OpR X (binaryOp op) (rAddO X.K cm C m E) := by
  intro pins s σ H x y v u Q I rx ry ask
  obtain ⟨q, p, dx, dy, fs, gs, rfl, rfl, hq, hp, h⟩ := ask
  cases rx
  cases ry
  obtain ⟨mA, O, _⟩ := ins_get I.hok hq
  obtain ⟨mB, O', _⟩ := ins_get I.hok hp
  obtain ⟨od, O, _⟩ := O.look
  obtain ⟨od', O', _⟩ := O'.look
  obtain ⟨m', hF⟩ := I.fr
  refine PySem.W.binop_K (op := op) hF I.ok.mod.kin O O'.type sf hs hf (thn (run_at (vs := [.ref q, .ref p]) F hr hb hx I (.cons rfl (.cons rfl .nil)) h) fun v s' hv => ?_)
  obtain ⟨y, H', I', ry, ⟨r, rfl⟩, qk⟩ := hv
  cases ry
  exact ⟨.ref r, H', I', rfl, qk⟩
theorem ev_opO {op : Operator} {a b : Expr} {ma mb : Ev → W D} {c : Str} {C g : Addr} {k : Nat} {fd : FuncData} {s0 s1 : Str} {m : List D → W D} (hc : z.cm c = some C) (sf : PySem.W.selfFirst X.K C = true) (hs : PySem.W.findIn X.K (.ref C) (PySem.dunder op.info.2) = some (some (.ref g))) (hf : PySem.W.isFn X.K (.ref g) = true) (F : FnM X.prog X.w X.K X.mg X.base z.cm k g fd [s0, s1] m) (hr : Room k X.A) (hb : Binds X.K fd [s0, s1] []) (hx : Passes (L2.CX X.prog X.w) X J.E)
    (ha : EV X J a ma) (hb' : EV X J b mb) : EV X J (.BinOp a op b pos) (fun env => W.bind (ma env) fun d => W.bind (mb env) fun e => addO c m d e) := by
  obtain ⟨ta, pa, qa⟩ := ha
  obtain ⟨tb, pb, qb⟩ := hb'
  refine ⟨_, pe_op (op_ownO sf hs hf F hr hb hx) pa pb, fun σ H G env Q at_ h => ?_⟩
  refine qa σ H G env _ at_ ((ma env).mono (fun d h1 v H1 G1 g1 d1 => ?_) (fun _ q => q) h)
  refine qb σ H1 G1 env _ (at_.grow g1) ((mb env).mono (fun e h2 u H2 G2 g2 d2 => ?_) (fun _ q => q) h1)
  exact addO_wp hc v u d e H2 G2 Q g2.vw (d1.same g2.gg) d2 ((addO c m d e).mono (fun r q v3 H3 G3 g3 e3 => q v3 H3 G3 (g1.trans (g2.trans g3)) e3) (fun x q cls dx H' G' g' xd => J.hE x cls dx H' G' q (at_.gr.trans (g1.trans (g2.trans g'))) xd) h2)
end
end Rg

set_option Elab.async false
set_option linter.all false
set_option maxRecDepth 100000
set_option maxHeartbeats 4500000
/-! the rules by data: ~ of own objects, in own objects, own objects called -/
namespace Rg
open PySem PySem.Spec PyProof.Rows L2
section
variable {X : Cx} {z : Zk} {J : Jx X.K z} {a b e o : Expr} {es : List Expr} {ma mb mo : Ev → W D} {ms mk : Ev → W (List D)} {pos : Pos}
/-- ~a -/
def invO (c : Str) (m : List D → W D) (d : D) : W D := W.bind (insOf c d) fun _ => m [d]
theorem ev_invO {c : Str} {C g : Addr} {k : Nat} {fd : FuncData} {s0 : Str} {m : List D → W D} (hc : z.cm c = some C) (hs : PySem.W.findIn X.K (.ref C) "__invert__" = some (some (.ref g))) (hf : PySem.W.isFn X.K (.ref g) = true) (F : FnM X.prog X.w X.K X.mg X.base z.cm k g fd [s0] m) (hr : Room k X.A) (hb : Binds X.K fd [s0] []) (hx : Passes (L2.CX X.prog X.w) X J.E)
    (ha : EV X J a ma) : EV X J (.UnaryOp .Invert a pos) (fun env => W.bind (ma env) (invO c m)) := by
  obtain ⟨ta, pa, qa⟩ := ha
  have un : UnR X (unaryOp .Invert) (fun x H Q => ∃ (q dx : Addr) (fs : List (Str × V)), x = .ref q ∧ H q = some (.ins C dx fs) ∧ spM X.K z.cm 1 m [.ref q] H Q J.E) := by
    intro pins s σ H x v Q I rx ask
    obtain ⟨q, dx, fs, rfl, hq, h⟩ := ask
    cases rx
    obtain ⟨mA, O, _⟩ := ins_get I.hok hq
    obtain ⟨od, O, _⟩ := O.look
    obtain ⟨m', hF⟩ := I.fr
    exact PySem.W.ksp_inv hF I.ok.mod.kin O hs hf (run_at (vs := [.ref q]) F hr hb hx I (.cons rfl .nil) h)
  refine ⟨_, pe_un un pa, fun σ H G env Q at_ h => qa σ H G env _ at_ ((ma env).mono (fun d h1 v H1 G1 g1 d1 => ?_) (fun _ q => q) h)⟩
  obtain ⟨q, dx, fs, gs, rfl, h2, h3, rfl, h4⟩ := insOf_wp hc d1 h1
  exact ⟨q, dx, fs, rfl, g1.vw.sub _ _ h2, ask at_ g1 (.one d1) rfl h4⟩
/-- a in b, b an object of one's own -/
def inO (c : Str) (m : List D → W D) (d e : D) : W D := W.bind (insOf c e) fun _ => W.bind (m [e, d]) fun r => W.bind (ofB r) fun k => W.pure (.bl k)
theorem ev_inO {c : Str} {C g : Addr} {k : Nat} {fd : FuncData} {s0 s1 : Str} {m : List D → W D} (hc : z.cm c = some C) (hs : PySem.W.findIn X.K (.ref C) "__contains__" = some (some (.ref g))) (hf : PySem.W.isFn X.K (.ref g) = true) (F : FnM X.prog X.w X.K X.mg X.base z.cm k g fd [s0, s1] m) (hr : Room k X.A) (hb : Binds X.K fd [s0, s1] []) (hx : Passes (L2.CX X.prog X.w) X J.E)
    (ha : EV X J a ma) (hb' : EV X J b mb) (hm : behindInMarks .In b = false := by rfl) : EV X J (.Compare a [.In] [b] pos) (fun env => W.bind (ma env) fun d => W.bind (mb env) fun e => inO c m d e) := by
  obtain ⟨ta, pa, qa⟩ := ha
  obtain ⟨tb, pb, qb⟩ := hb'
  have op : OpR X (compareOp .In) (fun x y H Q => ∃ (q dx : Addr) (fs : List (Str × V)), y = .ref q ∧ H q = some (.ins C dx fs) ∧ spM X.K z.cm 2 m [.ref q, x] H (fun v H' => ∃ k, v = .bl k ∧ Q (.bl k) H') J.E) := by
    intro pins s σ H x y v u Q I rx ry h0
    obtain ⟨q, dx, fs, rfl, hq, h⟩ := h0
    cases ry
    obtain ⟨mA, O, _⟩ := ins_get I.hok hq
    obtain ⟨od, O, _⟩ := O.look
    obtain ⟨m', hF⟩ := I.fr
    refine PySem.W.in_K hF I.ok.mod.kin O hs hf (thn (run_at (vs := [.ref q, x]) F hr hb hx I (.cons rfl (.cons rx .nil)) h) fun w s' hv => ?_)
    obtain ⟨y, H', I', ry, k, rfl, qk⟩ := hv
    cases ry
    exact wpAny_truthy_bool ⟨.bl k, H', I', rfl, qk⟩
  refine ⟨_, pe_cmpR op pa pb hm, fun σ H G env Q at_ h => ?_⟩
  refine qa σ H G env _ at_ ((ma env).mono (fun d h1 v H1 G1 g1 d1 => ?_) (fun _ q => q) h)
  refine qb σ H1 G1 env _ (at_.grow g1) ((mb env).mono (fun e h2 u H2 G2 g2 d2 => ?_) (fun _ q => q) h1)
  obtain ⟨q, dx, fs, gs, rfl, h3, h4, rfl, h5⟩ := insOf_wp hc d2 h2
  refine ⟨q, dx, fs, rfl, g2.vw.sub _ _ h3, (z.bg.bag, z.bg.lm), G2, _, g2.vw.low, .cons d2.low (.one (d1.same g2.gg).low), rfl, (m _).mono (fun r hr v' H' G' g' dv => ?_) (fun x q cls dx H' G' g' xd => J.hE x cls dx H' G' q (at_.gr.trans (g1.trans (g2.trans (g'.up g2.vw)))) xd.up) h5⟩
  obtain ⟨k, rfl, rfl, h6⟩ := ofB_wp (H := H) dv.up hr
  exact ⟨k, rfl, h6 _ _ _ (g1.trans (g2.trans (g'.up g2.vw))) (.bl _)⟩
theorem fun_fnIn {K : PySem.W.Frag} {x qual : Str} {st : Stmt} {f : Addr} {fd : FuncData} (F : Fun K x qual st f fd) : PySem.W.fnIn K f = true := by
  obtain ⟨_, _, _, _, _, _, _, _, _, rfl, lk, _⟩ := F.ex
  unfold PySem.W.fnIn
  rw [lk]
/-- o(e, ..), o an object of one's own -/
theorem ev_callO {c : Str} {C g : Addr} {k : Nat} {fd : FuncData} {ps : List Str} {mm : List D → W D} (hc : z.cm c = some C) (cc : StX.CallO X.K C g) (F : FnM X.prog X.w X.K X.mg X.base z.cm k g fd ps mm) (hr : Room k X.A) (hb : Binds X.K fd ps []) (hx : Passes (L2.CX X.prog X.w) X J.E) (ho : EV X J o mo) (ha : AV X J (e :: es) ms)
    (ht : eval (.Call o (e :: es) [] pos) X.env = (do callWith pos (← eval o X.env) [] (backTo pos (starEach (e :: es) X.env)) (backToKw pos (keywordEach [] X.env))) := by rfl)
    (he : starEach (e :: es) X.env = (false, eval e X.env) :: starEach es X.env := by rfl) (hpl : (backTo pos (starEach es X.env)).any (·.1) = false := by rfl) {n : Nat} (hn : ps.length = n := by rfl) :
    EV X J (.Call o (e :: es) [] pos) (fun env => W.bind (mo env) fun d => W.bind (insOf c d) fun _ => W.bind (ms env) fun ds => callM n mm (d :: ds)) := by
  subst hn
  obtain ⟨t, p, q⟩ := ho
  obtain ⟨ts, pa, qs⟩ := ha
  have F' : FnR X.prog X.w X.K X.mg X.base (L2.CX X.prog X.w) k g (spM X.K z.cm ps.length mm) := (F.raw hb .nil).imp fun vs H Q E h => by rw [List.append_nil]; exact h
  refine ⟨_, StX.pe_callO p cc F' hr hx pa ht he hpl, fun σ H G env Q at_ h => q σ H G env _ at_ ((mo env).mono (fun d h1 v H1 G1 g1 d1 => ?_) (fun _ q => q) h)⟩
  obtain ⟨p, dx, fs, gs, rfl, h2, h3, rfl, h4⟩ := insOf_wp hc d1 h1
  refine ⟨p, rfl, qs σ H1 G1 env _ (at_.grow g1) ((ms env).mono (fun ds h6 vs H2 G2 g2 d2 => ?_) (fun _ q => q) h4)⟩
  exact ⟨.inr ⟨dx, fs, g2.vw.sub _ _ (g2.gg _ _ h2)⟩, ask at_ (g1.trans g2) (.cons (d1.same g2.gg) d2) h6.1 h6.2⟩
/-- o(k = e, ..) -/
def tCallOK (X : Cx) (C : Addr) (sp : Sp) (E : XK) (ls : List Nat) (n : Nat) (tf : TE) (t : TA) : TE := fun σ H Q => tf σ H fun y H1 => ∃ a, y = V.ref a ∧ t σ H1 fun zs H2 => StX.InsC X H2 a C ∧ zs.length = n ∧ sp (selfK ls [V.ref a] zs) H2 Q E
theorem pe_callOK {CX : CXT} {C g : Addr} {k : Nat} {fd : FuncData} {ps ks : List Str} {ls : List Nat} {sp : Sp} {E : XK} {tf : TE} {t : TA} {kws : List Keyword} (hf : PE X o tf) (c : StX.CallO X.K C g) (F : FnOk X.prog X.w X.K X.mg X.base CX k g fd ps sp) (hr : Room k X.A) (hb : KBn X.K fd ps 1 ks (selfK ls) (selfK ls)) (hx : Passes CX X E) (hkw : PK X kws t)
    (hall : (backToKw pos (keywordEach kws X.env)).all (·.1.isSome) = true := by rfl) (hks : (backToKw pos (keywordEach kws X.env)).filterMap (·.1) = ks := by rfl)
    (bare : ((backTo pos (starEach [] X.env)).any (fun a => a.1) || (backToKw pos (keywordEach kws X.env)).any (fun a => a.1.isNone)) = false := by rfl)
    (ht : eval (.Call o [] kws pos) X.env = (do callWith pos (← eval o X.env) [] (backTo pos (starEach [] X.env)) (backToKw pos (keywordEach kws X.env))) := by rfl) :
    PE X (.Call o [] kws pos) (tCallOK X C sp E ls ks.length tf t) := by
  refine ⟨fun pins s σ H Q I h => ?_⟩
  rw [ht]
  refine wpAny_bind (thn (hf.run pins s σ H _ I h) fun u s1 ⟨y, H1, I1, ry, a, ey, q⟩ => ?_)
  subst ey
  obtain rfl : u = .ref a := ry
  unfold callWith
  refine wpAny_bind (wpAny_holding (evalArgs_kw2_nil hall (thn (hkw.run pos pins s1 σ H1 _ I1 q) fun ws s2 ⟨zs, H2, I2, rz, hi, l2, q2⟩ => wpAny_bind (wpAny_standAt ?_))))
  obtain ⟨ox, od, J0, hd⟩ := StX.insC_at I2 hi
  simp only [bare]
  refine wpAny_bind ((PySem.W.kco_keeper (M := model X.prog X.w) J0 hd).here ?_)
  rw [hks]
  have core : wpAny (model X.prog X.w) X.A (call (.ref a) ([] ++ []) (ks.zip ws)) (EP X pins σ Q) X.xe s2 := by
    have r2 := hb.rel (vs := [V.ref a]) (us := [.ref a]) (.cons rfl .nil) rz
    refine wpAny_call (PySem.W.kco_code (a := ⟨[], ks.zip ws⟩) I2.kIn J0 hd c.at_ c.fn c.fi (codeAny_mono (F.run X.A X.stack s2 H2 ⟨[.ref a], ks.zip ws⟩ (selfK ls [.ref a] ws) (selfK ls [.ref a] zs) Q E hr I2.env0 (hb.to s2 [.ref a] ws I2.kIn rfl (rz.length.symm.trans l2)) r2 q2) fun r s' hq => ?_))
    cases r with
    | error e => exact hx pins σ H2 s2 e s' I2 hq
    | ok fl =>
      cases fl with
      | ret u => exact I2.after hq
      | _ => exact False.elim hq
  exact wpAny_bind (wpAny_mono (wpAny_operateT core) (fun r s3 hr => wpAny_bind (wpAny_holding (wpAny_point (wpAny_pure hr)))) fun _ _ y => y)
theorem ev_callOK {c : Str} {C g : Addr} {k : Nat} {fd : FuncData} {ps ks : List Str} (ls : List Nat) {mm : List D → W D} {kws : List Keyword} (hc : z.cm c = some C) (cc : StX.CallO X.K C g) (F : FnM X.prog X.w X.K X.mg X.base z.cm k g fd ps mm) (hr : Room k X.A) (hb : KBn X.K fd ps 1 ks (selfK ls) (selfK ls)) (hx : Passes (L2.CX X.prog X.w) X J.E) (ho : EV X J o mo) (ha : KV' X J kws mk)
    (hall : (backToKw pos (keywordEach kws X.env)).all (·.1.isSome) = true := by rfl) (hks : (backToKw pos (keywordEach kws X.env)).filterMap (·.1) = ks := by rfl)
    (bare : ((backTo pos (starEach [] X.env)).any (fun a => a.1) || (backToKw pos (keywordEach kws X.env)).any (fun a => a.1.isNone)) = false := by rfl)
    (ht : eval (.Call o [] kws pos) X.env = (do callWith pos (← eval o X.env) [] (backTo pos (starEach [] X.env)) (backToKw pos (keywordEach kws X.env))) := by rfl) {n l : Nat} (hn : ps.length = n := by rfl) (hl : ks.length = l := by rfl) :
    EV X J (.Call o [] kws pos) (fun env => W.bind (mo env) fun d => W.bind (insOf c d) fun _ => W.bind (mk env) fun ds => W.bind (W.need (ds.length = l)) fun _ => callM n mm (selfK ls [d] ds)) := by
  subst hn
  obtain ⟨t, p, q⟩ := ho
  obtain ⟨ts, pa, qs⟩ := ha
  refine ⟨_, pe_callOK p cc F hr hb hx pa hall hks bare ht, fun σ H G env Q at_ h => q σ H G env _ at_ ((mo env).mono (fun d h1 v H1 G1 g1 d1 => ?_) (fun _ q => q) h)⟩
  obtain ⟨p, dx, fs, gs, rfl, h2, h3, rfl, h4⟩ := insOf_wp hc d1 h1
  refine ⟨p, rfl, qs σ H1 G1 env _ (at_.grow g1) ((mk env).mono (fun ds h6 vs H2 G2 g2 d2 => ?_) (fun _ q => q) h4)⟩
  exact ⟨.inr ⟨dx, fs, g2.vw.sub _ _ (g2.gg _ _ h2)⟩, by rw [d2.len, h6.1, hl], ask at_ (g1.trans g2) ((Dens.one (d1.same g2.gg)).app (pick_dens d2 ls)) h6.2.1 h6.2.2⟩
end
end Rg

set_option Elab.async false
set_option linter.all false
set_option maxRecDepth 100000
set_option maxHeartbeats 4500000
/-! the rules by data: a text backwards -/
namespace Rg
open PySem PySem.Spec PyProof.Rows L2
section
variable {X : Cx} {z : Zk} {J : Jx X.K z} {pos : Pos}
def revSD : D → W D
  | .str t => W.bind (W.need (revS (sOf t) = sOf t.reverse)) fun _ => W.pure (.str t.reverse)
  | _ => W.fail
theorem ev_revS {a : Expr} {ma : Ev → W D} {k : Nat} {p1 p2 p3 : Pos} (ha : EV X J a ma) : EV X J (.Subscript a (.Slice none none (some (.UnaryOp .USub (.Constant (.int 1) k p1) p2)) p3) pos) (fun env => W.bind (ma env) revSD) := by
  obtain ⟨t, p, q⟩ := ha
  refine ⟨_, pe_revS p, fun σ H G env Q at_ h => q σ H G env _ at_ ((ma env).mono (fun d h1 v H1 G1 g1 d1 => ?_) (fun _ q => q) h)⟩
  cases d1 with
  | str t l m =>
    obtain ⟨e, h2⟩ := h1
    refine ⟨_, rfl, by rw [len_sOf]; exact Nat.le_trans l (by decide), ?_⟩
    rw [e]
    exact h2 _ _ _ g1 (.str _ (by rw [List.length_reverse]; exact l) fun c hc => m c (List.mem_reverse.mp hc))
  | _ => exact h1.elim
end
end Rg

set_option Elab.async false
set_option linter.all false
set_option maxRecDepth 100000
set_option maxHeartbeats 4500000
/-! reckoning with mirrors -/
namespace Rg
open PySem PySem.Spec PyProof.Rows L2
theorem compW_all {α : Type} {f : D → W (Option D)} (h g : α → D) : ∀ (l : List α), (∀ a ∈ l, f (h a) = W.pure (some (g a))) → compW f (l.map h) = W.pure (l.map g)
  | [], _ => rfl
  | a :: r, hf => by
    show W.bind (f (h a)) _ = _
    rw [hf a List.mem_cons_self, W.pure_bind, compW_all h g r fun x hx => hf x (List.mem_cons_of_mem _ hx), W.pure_bind]
    rfl
theorem compW_some {α : Type} {f : D → W (Option D)} (h : α → D) (g : α → Option D) : ∀ (l : List α), (∀ a ∈ l, f (h a) = W.pure (g a)) → compW f (l.map h) = W.pure (l.filterMap g)
  | [], _ => rfl
  | a :: r, hf => by
    show W.bind (f (h a)) _ = _
    rw [hf a List.mem_cons_self, W.pure_bind, compW_some h g r fun x hx => hf x (List.mem_cons_of_mem _ hx), W.pure_bind, List.filterMap_cons]
    cases g a <;> rfl
/-- each item on its own -/
theorem compW_id {f : D → W (Option D)} (g : D → D) (l : List D) (h : ∀ a ∈ l, f a = W.pure (some (g a))) : compW f l = W.pure (l.map g) := by
  have := compW_all (f := f) (fun x => x) g l h
  rwa [List.map_id'] at this
theorem bls_map {α : Type} (g : α → Bool) : ∀ l : List α, blsOf (l.map fun a => D.bl (g a)) = some (l.map g)
  | [] => rfl
  | a :: r => by
    show (blsOf (r.map fun a => D.bl (g a))).map _ = _
    rw [bls_map g r]
    rfl
theorem need_T {α : Type} (f : Unit → W α) : W.bind (W.need True) f = f () := W.need_true trivial f
theorem callM_1 (m : List D → W D) (a : D) : callM 1 m [a] = m [a] := W.need_true rfl _
theorem callM_2 (m : List D → W D) (a b : D) : callM 2 m [a, b] = m [a, b] := W.need_true rfl _
theorem callM_3 (m : List D → W D) (a b c : D) : callM 3 m [a, b, c] = m [a, b, c] := W.need_true rfl _
theorem callM_4 (m : List D → W D) (a b c d : D) : callM 4 m [a, b, c, d] = m [a, b, c, d] := W.need_true rfl _
theorem callM_5 (m : List D → W D) (a b c d e : D) : callM 5 m [a, b, c, d, e] = m [a, b, c, d, e] := W.need_true rfl _
theorem startE_0 (n : Nat) : startE (n + 1) [] = none :: startE n [] := by
  unfold startE
  simp [List.replicate_succ]
theorem startE_1 (n : Nat) (d : D) (r : List D) : startE (n + 1) (d :: r) = some d :: startE n r := by
  unfold startE
  simp
theorem startE_z : startE 0 [] = [] := rfl
theorem iteW_t {α : Type} (m n : W α) : iteW true m n = m := rfl
theorem iteW_f {α : Type} (m n : W α) : iteW false m n = n := rfl
theorem seqF_nx (env : Ev) (f : Ev → W Fl) : seqF (W.pure (.nx env)) f = f env := rfl
theorem seqF_rt (d : D) (f : Ev → W Fl) : seqF (W.pure (.rt d)) f = W.pure (.rt d) := rfl
theorem isi_eq {d : D} {t u : String} (hd : tyOf d = some t) (hu : u ∈ kinds) : isiD d (.ty u) = W.pure (.bl (isSub t u)) := by
  show W.bind (W.need (u ∈ kinds)) _ = _
  rw [W.need_true hu, hd]
  rfl
theorem isi_two {d : D} {t : String} (hd : tyOf d = some t) : isiD d (.tup [.ty "list", .ty "tuple"]) = W.pure (.bl (isSub t "list" || isSub t "tuple")) := by
  have e : isiD d (.tup [.ty "list", .ty "tuple"]) = ofO ((tyOf d).map fun t => .bl (["list", "tuple"].any (isSub t))) := rfl
  rw [e, hd]
  show W.pure (D.bl (isSub t "list" || (isSub t "tuple" || false))) = _
  rw [Bool.or_false]
theorem mkTup_2 (a b : D) : mkTup [a, b] = W.pure (.tup [a, b]) := W.need_true (show 2 ≤ big by decide) _
theorem mkTup_1 (a : D) : mkTup [a] = W.pure (.tup [a]) := W.need_true (show 1 ≤ big by decide) _
theorem mkTup_3 (a b c : D) : mkTup [a, b, c] = W.pure (.tup [a, b, c]) := W.need_true (show 3 ≤ big by decide) _
theorem mkLst_1 (a : D) : mkLst [a] = W.pure (.lst [a]) := W.need_true (show 1 ≤ big by decide) _
theorem mkLst_2 (a b : D) : mkLst [a, b] = W.pure (.lst [a, b]) := W.need_true (show 2 ≤ big by decide) _
theorem one1_eq {α : Type} (f : D → W α) (d : D) : one1 f [d] = f d := rfl
theorem two2_eq {α : Type} (f : D → D → W α) (d e : D) : two2 f [d, e] = f d e := rfl
theorem eqD_of {d e : D} (h : plain 60 d = true) (h' : plain 60 e = true) : eqD d e = W.pure (.bl (eqvD d e)) := W.need_true ⟨h, h'⟩ _
theorem neD_of {d e : D} (h : plain 60 d = true) (h' : plain 60 e = true) : neD d e = W.pure (.bl (!eqvD d e)) := W.need_true ⟨h, h'⟩ _
theorem eqD_bl (a b : Bool) : eqD (.bl a) (.bl b) = W.pure (.bl (a == b)) := eqD_of rfl rfl
theorem neD_bl (a b : Bool) : neD (.bl a) (.bl b) = W.pure (.bl (!(a == b))) := neD_of rfl rfl
theorem eqD_int (a b : Int) : eqD (.int a) (.int b) = W.pure (.bl (a == b)) := eqD_of rfl rfl
theorem neD_int (a b : Int) : neD (.int a) (.int b) = W.pure (.bl (!(a == b))) := neD_of rfl rfl
theorem eqD_str (a b : List Nat) : eqD (.str a) (.str b) = W.pure (.bl (a == b)) := eqD_of rfl rfl
theorem neD_str (a b : List Nat) : neD (.str a) (.str b) = W.pure (.bl (!(a == b))) := neD_of rfl rfl
theorem isN_f (d : D) : isNoneD false d .non = W.pure (.bl (isNon d)) := by
  show W.pure (D.bl (isNon d != false)) = _
  rw [xor_ff]
theorem isN_t (d : D) : isNoneD true d .non = W.pure (.bl (!isNon d)) := by
  show W.pure (D.bl (isNon d != true)) = _
  rw [xor_tt]
/-- zip of a list with itself -/
theorem zip_self : ∀ l : List D, zipD l l = l.map fun d => .tup [d, d]
  | [] => rfl
  | d :: r => congrArg (_ :: ·) (zip_self r)
end Rg

set_option Elab.async false
set_option linter.all false
set_option maxRecDepth 100000
set_option maxHeartbeats 4500000
namespace Rg
open PySem PySem.Spec PyProof.Rows L2
def topS (i : Nat) : Stmt := PySem.Challenge.pw_relitgoals_k05_goals_hold.main.body.getD i (.Pass ⟨0, 0, 0, 0⟩)
def inCls (s : Stmt) (j : Nat) : Stmt := match s with
  | .ClassDef (body := b) .. => b.getD j (.Pass ⟨0, 0, 0, 0⟩)
  | _ => .Pass ⟨0, 0, 0, 0⟩
abbrev s_l_bag : Stmt := topS 39
theorem sc_l_bag : FnScope ["_law_script"] ["_law_script"] (defScope s_l_bag) := ⟨rfl, rfl, rfl, by decide +kernel, rfl, by decide +kernel, by decide +kernel⟩

abbrev s_l_pull : Stmt := topS 40
theorem sc_l_pull : FnScope ["_law_bag_here", "_law_many", "_law_cell", "_law_digit"] ["_law_bag_here", "_law_many"] (defScope s_l_pull) := ⟨rfl, rfl, rfl, by decide +kernel, rfl, by decide +kernel, by decide +kernel⟩

abbrev s_l_part_of : Stmt := topS 44
theorem sc_l_part_of : FnScope ["_law_one"] ["_law_one"] (defScope s_l_part_of) := ⟨rfl, rfl, rfl, by decide +kernel, rfl, by decide +kernel, by decide +kernel⟩

abbrev s_l_last_field : Stmt := topS 45
theorem sc_l_last_field : FnScope ["_law_one"] ["_law_one"] (defScope s_l_last_field) := ⟨rfl, rfl, rfl, by decide +kernel, rfl, by decide +kernel, by decide +kernel⟩

abbrev s_l_field : Stmt := topS 43
theorem sc_l_field : FnScope ["_law_one"] ["_law_one"] (defScope s_l_field) := ⟨rfl, rfl, rfl, by decide +kernel, rfl, by decide +kernel, by decide +kernel⟩

abbrev s_l_why : Stmt := topS 46
theorem sc_l_why : FnScope ["_law_ask", "e"] ["_law_ask"] (defScope s_l_why) := ⟨rfl, rfl, rfl, by decide +kernel, rfl, by decide +kernel, by decide +kernel⟩

abbrev s_l_whys : Stmt := topS 47
theorem sc_l_whys : FnScope ["_law_asks", "_law_ask"] ["_law_asks"] (defScope s_l_whys) := ⟨rfl, rfl, rfl, by decide +kernel, rfl, by decide +kernel, by decide +kernel⟩

abbrev s_copied : Stmt := topS 2
theorem sc_copied : FnScope ["value", "item"] ["value"] (defScope s_copied) := ⟨rfl, rfl, rfl, by decide +kernel, rfl, by decide +kernel, by decide +kernel⟩

abbrev s_is_number : Stmt := topS 12
theorem sc_is_number : FnScope ["value"] ["value"] (defScope s_is_number) := ⟨rfl, rfl, rfl, by decide +kernel, rfl, by decide +kernel, by decide +kernel⟩

abbrev s_is_ascending : Stmt := topS 16
theorem sc_is_ascending : FnScope ["text", "at"] ["text"] (defScope s_is_ascending) := ⟨rfl, rfl, rfl, by decide +kernel, rfl, by decide +kernel, by decide +kernel⟩

abbrev s_is_within : Stmt := topS 17
theorem sc_is_within : FnScope ["one", "other", "letter"] ["one", "other"] (defScope s_is_within) := ⟨rfl, rfl, rfl, by decide +kernel, rfl, by decide +kernel, by decide +kernel⟩

abbrev s_is_set : Stmt := topS 18
theorem sc_is_set : FnScope ["value", "lamps"] ["value", "lamps"] (defScope s_is_set) := ⟨rfl, rfl, rfl, by decide +kernel, rfl, by decide +kernel, by decide +kernel⟩

abbrev s_is_lamps : Stmt := topS 19
theorem sc_is_lamps : FnScope ["value"] ["value"] (defScope s_is_lamps) := ⟨rfl, rfl, rfl, by decide +kernel, rfl, by decide +kernel, by decide +kernel⟩

abbrev s_check_lamps : Stmt := topS 20
theorem sc_check_lamps : FnScope ["value"] ["value"] (defScope s_check_lamps) := ⟨rfl, rfl, rfl, by decide +kernel, rfl, by decide +kernel, by decide +kernel⟩

abbrev s_listed_sets : Stmt := topS 22
theorem sc_listed_sets : FnScope ["lamps", "sets", "letter", "kept"] ["lamps"] (defScope s_listed_sets) := ⟨rfl, rfl, rfl, by decide +kernel, rfl, by decide +kernel, by decide +kernel⟩

abbrev s_inner_sentences : Stmt := topS 31
theorem sc_inner_sentences : FnScope ["part"] ["part"] (defScope s_inner_sentences) := ⟨rfl, rfl, rfl, by decide +kernel, rfl, by decide +kernel, by decide +kernel⟩

abbrev s_next_parts : Stmt := topS 30
theorem sc_next_parts : FnScope ["waiting"] ["waiting"] (defScope s_next_parts) := ⟨rfl, rfl, rfl, by decide +kernel, rfl, by decide +kernel, by decide +kernel⟩

abbrev s_is_count : Stmt := topS 32
theorem sc_is_count : FnScope ["value"] ["value"] (defScope s_is_count) := ⟨rfl, rfl, rfl, by decide +kernel, rfl, by decide +kernel, by decide +kernel⟩

abbrev s_has_form : Stmt := topS 33
theorem sc_has_form : FnScope ["lamps", "value", "word", "rest", "item"] ["lamps", "value"] (defScope s_has_form) := ⟨rfl, rfl, rfl, by decide +kernel, rfl, by decide +kernel, by decide +kernel⟩

abbrev s_check_sentence : Stmt := topS 34
theorem sc_check_sentence : FnScope ["lamps", "value", "waiting", "number"] ["lamps", "value"] (defScope s_check_sentence) := ⟨rfl, rfl, rfl, by decide +kernel, rfl, by decide +kernel, by decide +kernel⟩

abbrev s_sentence_holds : Stmt := topS 35
theorem sc_sentence_holds : FnScope ["sentence", "kept", "word", "rest", "inner", "part", "letter"] ["sentence", "kept"] (defScope s_sentence_holds) := ⟨rfl, rfl, rfl, by decide +kernel, rfl, by decide +kernel, by decide +kernel⟩

abbrev s_M_Goal_init : Stmt := inCls (topS 37) 0
theorem sc_M_Goal_init : FnScope ["self", "lamps", "sentence", "kept"] ["self", "lamps", "sentence"] (defScope s_M_Goal_init) := ⟨rfl, rfl, rfl, by decide +kernel, rfl, by decide +kernel, by decide +kernel⟩

abbrev s_M_Goal_lamps : Stmt := inCls (topS 37) 2
theorem sc_M_Goal_lamps : FnScope ["self"] ["self"] (defScope s_M_Goal_lamps) := ⟨rfl, rfl, rfl, by decide +kernel, rfl, by decide +kernel, by decide +kernel⟩

abbrev s_M_Goal_sentence : Stmt := inCls (topS 37) 3
theorem sc_M_Goal_sentence : FnScope ["self"] ["self"] (defScope s_M_Goal_sentence) := ⟨rfl, rfl, rfl, by decide +kernel, rfl, by decide +kernel, by decide +kernel⟩

abbrev s_M_Goal_sets : Stmt := inCls (topS 37) 4
theorem sc_M_Goal_sets : FnScope ["self"] ["self"] (defScope s_M_Goal_sets) := ⟨rfl, rfl, rfl, by decide +kernel, rfl, by decide +kernel, by decide +kernel⟩

abbrev s_M_Goal_holds_for : Stmt := inCls (topS 37) 5
theorem sc_M_Goal_holds_for : FnScope ["self", "kept"] ["self", "kept"] (defScope s_M_Goal_holds_for) := ⟨rfl, rfl, rfl, by decide +kernel, rfl, by decide +kernel, by decide +kernel⟩

abbrev s_M_Goal_call : Stmt := inCls (topS 37) 7
theorem sc_M_Goal_call : FnScope ["self", "kept"] ["self", "kept"] (defScope s_M_Goal_call) := ⟨rfl, rfl, rfl, by decide +kernel, rfl, by decide +kernel, by decide +kernel⟩

abbrev s_M_Goal_contains : Stmt := inCls (topS 37) 8
theorem sc_M_Goal_contains : FnScope ["self", "kept"] ["self", "kept"] (defScope s_M_Goal_contains) := ⟨rfl, rfl, rfl, by decide +kernel, rfl, by decide +kernel, by decide +kernel⟩

abbrev s_M_Goal_len : Stmt := inCls (topS 37) 13
theorem sc_M_Goal_len : FnScope ["self"] ["self"] (defScope s_M_Goal_len) := ⟨rfl, rfl, rfl, by decide +kernel, rfl, by decide +kernel, by decide +kernel⟩

abbrev s_M_Goal_repr : Stmt := inCls (topS 37) 14
theorem sc_M_Goal_repr : FnScope ["self"] ["self"] (defScope s_M_Goal_repr) := ⟨rfl, rfl, rfl, by decide +kernel, rfl, by decide +kernel, by decide +kernel⟩

abbrev s_l_of : Stmt := topS 41
theorem sc_l_of : FnScope ["_law_bag_here", "_law_some"] ["_law_bag_here", "_law_some"] (defScope s_l_of) := ⟨rfl, rfl, rfl, by decide +kernel, rfl, by decide +kernel, by decide +kernel⟩

abbrev s_l_same : Stmt := topS 42
theorem sc_l_same : FnScope ["_law_found", "_law_due", "_law_one", "_law_other"] ["_law_found", "_law_due"] (defScope s_l_same) := ⟨rfl, rfl, rfl, by decide +kernel, rfl, by decide +kernel, by decide +kernel⟩

abbrev s_l_sets : Stmt := topS 48
theorem sc_l_sets : FnScope ["_law_lamps_z", "_law_found", "_law_lamp", "_law_lit"] ["_law_lamps_z"] (defScope s_l_sets) := ⟨rfl, rfl, rfl, by decide +kernel, rfl, by decide +kernel, by decide +kernel⟩

abbrev s_l_lamps : Stmt := topS 49
theorem sc_l_lamps : FnScope ["_law_bag_here", "_law_most"] ["_law_bag_here", "_law_most"] (defScope s_l_lamps) := ⟨rfl, rfl, rfl, by decide +kernel, rfl, by decide +kernel, by decide +kernel⟩

abbrev s_l_lits : Stmt := topS 50
theorem sc_l_lits : FnScope ["_law_bag_here", "_law_lamps_z", "_law_lamp"] ["_law_bag_here", "_law_lamps_z"] (defScope s_l_lits) := ⟨rfl, rfl, rfl, by decide +kernel, rfl, by decide +kernel, by decide +kernel⟩

abbrev s_l_sentence : Stmt := topS 51
theorem sc_l_sentence : FnScope ["_law_bag_here", "_law_lamps_z", "_law_deep", "_law_way", "_law_word", "_law_many", "_law_k"] ["_law_bag_here", "_law_lamps_z", "_law_deep"] (defScope s_l_sentence) := ⟨rfl, rfl, rfl, by decide +kernel, rfl, by decide +kernel, by decide +kernel⟩

abbrev s_l_holds : Stmt := topS 52
theorem sc_l_holds : FnScope ["_law_sentence_z", "_law_lit", "_law_word", "_law_told", "_law_part", "_law_lamp"] ["_law_sentence_z", "_law_lit"] (defScope s_l_holds) := ⟨rfl, rfl, rfl, by decide +kernel, rfl, by decide +kernel, by decide +kernel⟩

abbrev s_l_aim : Stmt := topS 53
theorem sc_l_aim : FnScope ["_law_bag_here", "_law_lamps_z", "_law_sentence_z", "_law_lit"] ["_law_bag_here", "_law_lamps_z"] (defScope s_l_aim) := ⟨rfl, rfl, rfl, by decide +kernel, rfl, by decide +kernel, by decide +kernel⟩

abbrev s_law : Stmt := topS 54
theorem sc_law : FnScope ["_law_script", "_law_bag_here", "_law_turn", "_law_lamps_z", "_law_sentence_z", "_law_true", "_law_goal", "_law_lit", "_law_told", "_law_odd", "_law_some"] ["_law_script"] (defScope s_law) := ⟨rfl, rfl, rfl, by decide +kernel, rfl, by decide +kernel, by decide +kernel⟩

abbrev s_M_InvalidSet_init : Stmt := inCls (topS 5) 0
theorem sc_M_InvalidSet_init : ExScope ["self", "given"] ["self", "given"] (defScope s_M_InvalidSet_init) := ⟨rfl, rfl, rfl, by decide +kernel, rfl, by decide +kernel, by decide +kernel, by decide +kernel, rfl, rfl⟩

/-- what the top leaves -/
structure Top (P : Program) (K : PySem.W.Frag) (mg : Str → Option Value) where
  a_l_bag : Addr
  fd_l_bag : FuncData
  F_l_bag : Fun K "_law_bag" "_law_bag" s_l_bag a_l_bag fd_l_bag
  g_l_bag : mg "_law_bag" = some (.ref a_l_bag)
  a_l_pull : Addr
  fd_l_pull : FuncData
  F_l_pull : Fun K "_law_pull" "_law_pull" s_l_pull a_l_pull fd_l_pull
  g_l_pull : mg "_law_pull" = some (.ref a_l_pull)
  a_l_part_of : Addr
  fd_l_part_of : FuncData
  F_l_part_of : Fun K "_law_part_of" "_law_part_of" s_l_part_of a_l_part_of fd_l_part_of
  g_l_part_of : mg "_law_part_of" = some (.ref a_l_part_of)
  a_l_last_field : Addr
  fd_l_last_field : FuncData
  F_l_last_field : Fun K "_law_last_field" "_law_last_field" s_l_last_field a_l_last_field fd_l_last_field
  g_l_last_field : mg "_law_last_field" = some (.ref a_l_last_field)
  a_l_field : Addr
  fd_l_field : FuncData
  F_l_field : Fun K "_law_field" "_law_field" s_l_field a_l_field fd_l_field
  g_l_field : mg "_law_field" = some (.ref a_l_field)
  a_l_why : Addr
  fd_l_why : FuncData
  F_l_why : Fun K "_law_why" "_law_why" s_l_why a_l_why fd_l_why
  g_l_why : mg "_law_why" = some (.ref a_l_why)
  a_l_whys : Addr
  fd_l_whys : FuncData
  F_l_whys : Fun K "_law_whys" "_law_whys" s_l_whys a_l_whys fd_l_whys
  g_l_whys : mg "_law_whys" = some (.ref a_l_whys)
  a_copied : Addr
  fd_copied : FuncData
  F_copied : Fun K "copied" "copied" s_copied a_copied fd_copied
  g_copied : mg "copied" = some (.ref a_copied)
  a_is_number : Addr
  fd_is_number : FuncData
  F_is_number : Fun K "is_number" "is_number" s_is_number a_is_number fd_is_number
  g_is_number : mg "is_number" = some (.ref a_is_number)
  a_is_ascending : Addr
  fd_is_ascending : FuncData
  F_is_ascending : Fun K "is_ascending" "is_ascending" s_is_ascending a_is_ascending fd_is_ascending
  g_is_ascending : mg "is_ascending" = some (.ref a_is_ascending)
  a_is_within : Addr
  fd_is_within : FuncData
  F_is_within : Fun K "is_within" "is_within" s_is_within a_is_within fd_is_within
  g_is_within : mg "is_within" = some (.ref a_is_within)
  a_is_set : Addr
  fd_is_set : FuncData
  F_is_set : Fun K "is_set" "is_set" s_is_set a_is_set fd_is_set
  g_is_set : mg "is_set" = some (.ref a_is_set)
  a_is_lamps : Addr
  fd_is_lamps : FuncData
  F_is_lamps : Fun K "is_lamps" "is_lamps" s_is_lamps a_is_lamps fd_is_lamps
  g_is_lamps : mg "is_lamps" = some (.ref a_is_lamps)
  a_check_lamps : Addr
  fd_check_lamps : FuncData
  F_check_lamps : Fun K "check_lamps" "check_lamps" s_check_lamps a_check_lamps fd_check_lamps
  g_check_lamps : mg "check_lamps" = some (.ref a_check_lamps)
  a_listed_sets : Addr
  fd_listed_sets : FuncData
  F_listed_sets : Fun K "listed_sets" "listed_sets" s_listed_sets a_listed_sets fd_listed_sets
  g_listed_sets : mg "listed_sets" = some (.ref a_listed_sets)
  a_inner_sentences : Addr
  fd_inner_sentences : FuncData
  F_inner_sentences : Fun K "inner_sentences" "inner_sentences" s_inner_sentences a_inner_sentences fd_inner_sentences
  g_inner_sentences : mg "inner_sentences" = some (.ref a_inner_sentences)
  a_next_parts : Addr
  fd_next_parts : FuncData
  F_next_parts : Fun K "next_parts" "next_parts" s_next_parts a_next_parts fd_next_parts
  g_next_parts : mg "next_parts" = some (.ref a_next_parts)
  a_is_count : Addr
  fd_is_count : FuncData
  F_is_count : Fun K "is_count" "is_count" s_is_count a_is_count fd_is_count
  g_is_count : mg "is_count" = some (.ref a_is_count)
  a_has_form : Addr
  fd_has_form : FuncData
  F_has_form : Fun K "has_form" "has_form" s_has_form a_has_form fd_has_form
  g_has_form : mg "has_form" = some (.ref a_has_form)
  a_check_sentence : Addr
  fd_check_sentence : FuncData
  F_check_sentence : Fun K "check_sentence" "check_sentence" s_check_sentence a_check_sentence fd_check_sentence
  g_check_sentence : mg "check_sentence" = some (.ref a_check_sentence)
  a_sentence_holds : Addr
  fd_sentence_holds : FuncData
  F_sentence_holds : Fun K "sentence_holds" "sentence_holds" s_sentence_holds a_sentence_holds fd_sentence_holds
  g_sentence_holds : mg "sentence_holds" = some (.ref a_sentence_holds)
  a_M_Goal_init : Addr
  fd_M_Goal_init : FuncData
  F_M_Goal_init : Fun K "__init__" "Goal.__init__" s_M_Goal_init a_M_Goal_init fd_M_Goal_init
  a_M_Goal_lamps : Addr
  fd_M_Goal_lamps : FuncData
  F_M_Goal_lamps : Fun K "lamps" "Goal.lamps" s_M_Goal_lamps a_M_Goal_lamps fd_M_Goal_lamps
  a_M_Goal_sentence : Addr
  fd_M_Goal_sentence : FuncData
  F_M_Goal_sentence : Fun K "sentence" "Goal.sentence" s_M_Goal_sentence a_M_Goal_sentence fd_M_Goal_sentence
  a_M_Goal_sets : Addr
  fd_M_Goal_sets : FuncData
  F_M_Goal_sets : Fun K "sets" "Goal.sets" s_M_Goal_sets a_M_Goal_sets fd_M_Goal_sets
  a_M_Goal_holds_for : Addr
  fd_M_Goal_holds_for : FuncData
  F_M_Goal_holds_for : Fun K "holds_for" "Goal.holds_for" s_M_Goal_holds_for a_M_Goal_holds_for fd_M_Goal_holds_for
  a_M_Goal_call : Addr
  fd_M_Goal_call : FuncData
  F_M_Goal_call : Fun K "__call__" "Goal.__call__" s_M_Goal_call a_M_Goal_call fd_M_Goal_call
  a_M_Goal_contains : Addr
  fd_M_Goal_contains : FuncData
  F_M_Goal_contains : Fun K "__contains__" "Goal.__contains__" s_M_Goal_contains a_M_Goal_contains fd_M_Goal_contains
  a_M_Goal_len : Addr
  fd_M_Goal_len : FuncData
  F_M_Goal_len : Fun K "__len__" "Goal.__len__" s_M_Goal_len a_M_Goal_len fd_M_Goal_len
  a_M_Goal_repr : Addr
  fd_M_Goal_repr : FuncData
  F_M_Goal_repr : Fun K "__repr__" "Goal.__repr__" s_M_Goal_repr a_M_Goal_repr fd_M_Goal_repr
  a_l_of : Addr
  fd_l_of : FuncData
  F_l_of : Fun K "_law_of" "_law_of" s_l_of a_l_of fd_l_of
  g_l_of : mg "_law_of" = some (.ref a_l_of)
  a_l_same : Addr
  fd_l_same : FuncData
  F_l_same : Fun K "_law_same" "_law_same" s_l_same a_l_same fd_l_same
  g_l_same : mg "_law_same" = some (.ref a_l_same)
  a_l_sets : Addr
  fd_l_sets : FuncData
  F_l_sets : Fun K "_law_sets" "_law_sets" s_l_sets a_l_sets fd_l_sets
  g_l_sets : mg "_law_sets" = some (.ref a_l_sets)
  a_l_lamps : Addr
  fd_l_lamps : FuncData
  F_l_lamps : Fun K "_law_lamps" "_law_lamps" s_l_lamps a_l_lamps fd_l_lamps
  g_l_lamps : mg "_law_lamps" = some (.ref a_l_lamps)
  a_l_lits : Addr
  fd_l_lits : FuncData
  F_l_lits : Fun K "_law_lits" "_law_lits" s_l_lits a_l_lits fd_l_lits
  g_l_lits : mg "_law_lits" = some (.ref a_l_lits)
  a_l_sentence : Addr
  fd_l_sentence : FuncData
  F_l_sentence : Fun K "_law_sentence" "_law_sentence" s_l_sentence a_l_sentence fd_l_sentence
  g_l_sentence : mg "_law_sentence" = some (.ref a_l_sentence)
  a_l_holds : Addr
  fd_l_holds : FuncData
  F_l_holds : Fun K "_law_holds" "_law_holds" s_l_holds a_l_holds fd_l_holds
  g_l_holds : mg "_law_holds" = some (.ref a_l_holds)
  a_l_aim : Addr
  fd_l_aim : FuncData
  F_l_aim : Fun K "_law_aim" "_law_aim" s_l_aim a_l_aim fd_l_aim
  g_l_aim : mg "_law_aim" = some (.ref a_l_aim)
  a_law : Addr
  fd_law : FuncData
  F_law : Fun K "law" "law" s_law a_law fd_law
  g_law : mg "law" = some (.ref a_law)
  m_len : mg "len" = none
  m_all : mg "all" = none
  m_any : mg "any" = none
  m_range : mg "range" = none
  m_isinstance : mg "isinstance" = none
  m_str : mg "str" = none
  m_int : mg "int" = none
  m_bool : mg "bool" = none
  m_list : mg "list" = none
  m_tuple : mg "tuple" = none
  m_abs : mg "abs" = none
  m_zip : mg "zip" = none
  m_super : mg "super" = none
  m_sorted : mg "sorted" = none
  m_repr : mg "repr" = none
  tk_LETTERS : Tok
  c_LETTERS : mg "LETTERS" = some (.str "abcdefghijklmnopqrstuvwxyz" tk_LETTERS)
  tk_MOST_LAMPS : Tok
  c_MOST_LAMPS : mg "MOST_LAMPS" = some (.int 4 tk_MOST_LAMPS)
  tk_MOST_PARTS : Tok
  c_MOST_PARTS : mg "MOST_PARTS" = some (.int 20 tk_MOST_PARTS)
  tk_MOST_COUNT : Tok
  c_MOST_COUNT : mg "MOST_COUNT" = some (.int 4 tk_MOST_COUNT)
  tk_MOST_LISTED : Tok
  c_MOST_LISTED : mg "MOST_LISTED" = some (.int 16 tk_MOST_LISTED)
  tk_FEWEST_JOINED : Tok
  c_FEWEST_JOINED : mg "FEWEST_JOINED" = some (.int 2 tk_FEWEST_JOINED)
  tk_MOST_JOINED : Tok
  c_MOST_JOINED : mg "MOST_JOINED" = some (.int 4 tk_MOST_JOINED)
  a_JOINING_WORDS : Addr
  c_JOINING_WORDS : mg "JOINING_WORDS" = some (.ref a_JOINING_WORDS)
  q_JOINING_WORDS : SqTK K a_JOINING_WORDS [.str "and", .str "or"]
  C_Goal : Addr
  c_Goal : mg "Goal" = some (.ref C_Goal)
  cl_Goal : Cls K C_Goal
  M_Goal : Mk K C_Goal a_M_Goal_init
  me_Goal_sets : Meth K C_Goal "sets" a_M_Goal_sets
  me_Goal_holds_for : Meth K C_Goal "holds_for" a_M_Goal_holds_for
  me_Goal___call__ : Meth K C_Goal "__call__" a_M_Goal_call
  me_Goal___contains__ : Meth K C_Goal "__contains__" a_M_Goal_contains
  me_Goal___len__ : Meth K C_Goal "__len__" a_M_Goal_len
  me_Goal___repr__ : Meth K C_Goal "__repr__" a_M_Goal_repr
  pa_Goal_lamps : Addr
  pr_Goal_lamps : PropOf K C_Goal "lamps" pa_Goal_lamps a_M_Goal_lamps
  pa_Goal_sentence : Addr
  pr_Goal_sentence : PropOf K C_Goal "sentence" pa_Goal_sentence a_M_Goal_sentence
  na_Goal_letters : NoAttr K C_Goal "letters"
  na_Goal_wording : NoAttr K C_Goal "wording"
  na_Goal_held : NoAttr K C_Goal "held"
  C_InvalidSet : Addr
  c_InvalidSet : mg "InvalidSet" = some (.ref C_InvalidSet)
  a_InvalidSet : Addr
  fd_InvalidSet : FuncData
  cda_InvalidSet : Addr
  cc_InvalidSet : Addr
  er_InvalidSet : ErrC P K C_InvalidSet a_InvalidSet cda_InvalidSet cc_InvalidSet "InvalidSet.__init__" (defArgs s_M_InvalidSet_init) (defBody s_M_InvalidSet_init) (defScope s_M_InvalidSet_init) fd_InvalidSet
  iC_InvalidSet : PySem.W.findIn K (.ref C_InvalidSet) "__init__" = some (some (.ref a_InvalidSet))
  tI_InvalidSet : PySem.W.typeIn K (.ref a_InvalidSet) = some (.type "function")
  nt_InvalidSet : PySem.W.findIn K (.ref C_InvalidSet) "tag" = some none
  nf_InvalidSet : PySem.W.findIn K (.ref C_InvalidSet) "given" = some none
  ek_InvalidSet : ErrK K C_InvalidSet
  N_GoalError : Addr
  n_GoalError : mg "GoalError" = some (.ref N_GoalError)
  N_UnknownName : Addr
  n_UnknownName : mg "UnknownName" = some (.ref N_UnknownName)
  N_NothingLeft : Addr
  n_NothingLeft : mg "NothingLeft" = some (.ref N_NothingLeft)
  ex_InvalidSet : PySem.W.exmAny K (.ref C_InvalidSet) [.ref N_GoalError, .ref N_UnknownName, .ref N_NothingLeft] = some true
  cd_law : Addr
  tb_law : Addr
  lw : ∃ (oc : Value) (od : Option Addr) (kV doc pm : Value) (an : Option Addr) (ct : Value) (osl : Array (Option Value)), fd_law = PySem.W.fnOf "law" "law" (defArgs s_law) (defBody s_law) (defScope s_law) .none kV doc pm an (.ref cd_law) ct ∧ K.lookup a_law = some ⟨oc, od, .func fd_law, osl⟩ ∧ PySem.W.codeIn K (.ref cd_law) "law" = true
  cd_l_sets : Addr
  tb_l_sets : Addr
  lt_l_sets : ∃ (oc : Value) (od : Option Addr) (kV doc pm : Value) (an : Option Addr) (ct : Value) (osl : Array (Option Value)), fd_l_sets = PySem.W.fnOf "_law_sets" "_law_sets" (defArgs s_l_sets) (defBody s_l_sets) (defScope s_l_sets) .none kV doc pm an (.ref cd_l_sets) ct ∧ K.lookup a_l_sets = some ⟨oc, od, .func fd_l_sets, osl⟩ ∧ PySem.W.codeIn K (.ref cd_l_sets) "_law_sets" = true
  tn_l_sets : tb_law ≠ tb_l_sets
section
variable {P : Program} {K : PySem.W.Frag} {mg : Str → Option Value} (T : Top P K mg)
@[irreducible] def Top.cm {P : Program} {K : PySem.W.Frag} {mg : Str → Option Value} (T : Top P K mg) : Str → Option Addr := fun c => if c = "Goal" then some T.C_Goal else if c = "InvalidSet" then some T.C_InvalidSet else none
theorem Top.cm_Goal : T.cm "Goal" = some T.C_Goal := by
  unfold Top.cm
  rw [if_pos rfl]
theorem Top.cm_InvalidSet : T.cm "InvalidSet" = some T.C_InvalidSet := by
  unfold Top.cm
  rw [if_neg (id (by decide)), if_pos rfl]
abbrev Top.tbs {P : Program} {K : PySem.W.Frag} {mg : Str → Option Value} (T : Top P K mg) : List (Addr × Str) := [(T.tb_l_sets, (envOfC "_law_sets" (defScope s_l_sets) 0 T.a_l_sets (.ref T.cd_l_sets)).qual ++ "<lambda>")]
theorem Top.ne_tbs : ∀ q ∈ T.tbs, T.tb_law ≠ q.1 := fun q hq => by
  rw [List.mem_singleton.mp hq]
  exact T.tn_l_sets
theorem Top.b_l_bag : Binds K T.fd_l_bag ["_law_script"] [] := T.F_l_bag.binds (ps := ["_law_script"]) fun _ _ _ _ _ _ us hl => match us, hl with | [_], _ => rfl
theorem Top.b_l_pull : Binds K T.fd_l_pull ["_law_bag_here", "_law_many"] [] := T.F_l_pull.binds (ps := ["_law_bag_here", "_law_many"]) fun _ _ _ _ _ _ us hl => match us, hl with | [_, _], _ => rfl
theorem Top.b_l_part_of : Binds K T.fd_l_part_of ["_law_one"] [] := T.F_l_part_of.binds (ps := ["_law_one"]) fun _ _ _ _ _ _ us hl => match us, hl with | [_], _ => rfl
theorem Top.b_l_last_field : Binds K T.fd_l_last_field ["_law_one"] [] := T.F_l_last_field.binds (ps := ["_law_one"]) fun _ _ _ _ _ _ us hl => match us, hl with | [_], _ => rfl
theorem Top.b_l_field : Binds K T.fd_l_field ["_law_one"] [] := T.F_l_field.binds (ps := ["_law_one"]) fun _ _ _ _ _ _ us hl => match us, hl with | [_], _ => rfl
theorem Top.b_l_why : Binds K T.fd_l_why ["_law_ask"] [] := T.F_l_why.binds (ps := ["_law_ask"]) fun _ _ _ _ _ _ us hl => match us, hl with | [_], _ => rfl
theorem Top.b_l_whys : Binds K T.fd_l_whys ["_law_asks"] [] := T.F_l_whys.binds (ps := ["_law_asks"]) fun _ _ _ _ _ _ us hl => match us, hl with | [_], _ => rfl
theorem Top.b_copied : Binds K T.fd_copied ["value"] [] := T.F_copied.binds (ps := ["value"]) fun _ _ _ _ _ _ us hl => match us, hl with | [_], _ => rfl
theorem Top.b_is_number : Binds K T.fd_is_number ["value"] [] := T.F_is_number.binds (ps := ["value"]) fun _ _ _ _ _ _ us hl => match us, hl with | [_], _ => rfl
theorem Top.b_is_ascending : Binds K T.fd_is_ascending ["text"] [] := T.F_is_ascending.binds (ps := ["text"]) fun _ _ _ _ _ _ us hl => match us, hl with | [_], _ => rfl
theorem Top.b_is_within : Binds K T.fd_is_within ["one", "other"] [] := T.F_is_within.binds (ps := ["one", "other"]) fun _ _ _ _ _ _ us hl => match us, hl with | [_, _], _ => rfl
theorem Top.b_is_set : Binds K T.fd_is_set ["value", "lamps"] [] := T.F_is_set.binds (ps := ["value", "lamps"]) fun _ _ _ _ _ _ us hl => match us, hl with | [_, _], _ => rfl
theorem Top.b_is_lamps : Binds K T.fd_is_lamps ["value"] [] := T.F_is_lamps.binds (ps := ["value"]) fun _ _ _ _ _ _ us hl => match us, hl with | [_], _ => rfl
theorem Top.b_check_lamps : Binds K T.fd_check_lamps ["value"] [] := T.F_check_lamps.binds (ps := ["value"]) fun _ _ _ _ _ _ us hl => match us, hl with | [_], _ => rfl
theorem Top.b_listed_sets : Binds K T.fd_listed_sets ["lamps"] [] := T.F_listed_sets.binds (ps := ["lamps"]) fun _ _ _ _ _ _ us hl => match us, hl with | [_], _ => rfl
theorem Top.b_inner_sentences : Binds K T.fd_inner_sentences ["part"] [] := T.F_inner_sentences.binds (ps := ["part"]) fun _ _ _ _ _ _ us hl => match us, hl with | [_], _ => rfl
theorem Top.b_next_parts : Binds K T.fd_next_parts ["waiting"] [] := T.F_next_parts.binds (ps := ["waiting"]) fun _ _ _ _ _ _ us hl => match us, hl with | [_], _ => rfl
theorem Top.b_is_count : Binds K T.fd_is_count ["value"] [] := T.F_is_count.binds (ps := ["value"]) fun _ _ _ _ _ _ us hl => match us, hl with | [_], _ => rfl
theorem Top.b_has_form : Binds K T.fd_has_form ["lamps", "value"] [] := T.F_has_form.binds (ps := ["lamps", "value"]) fun _ _ _ _ _ _ us hl => match us, hl with | [_, _], _ => rfl
theorem Top.b_check_sentence : Binds K T.fd_check_sentence ["lamps", "value"] [] := T.F_check_sentence.binds (ps := ["lamps", "value"]) fun _ _ _ _ _ _ us hl => match us, hl with | [_, _], _ => rfl
theorem Top.b_sentence_holds : Binds K T.fd_sentence_holds ["sentence", "kept"] [] := T.F_sentence_holds.binds (ps := ["sentence", "kept"]) fun _ _ _ _ _ _ us hl => match us, hl with | [_, _], _ => rfl
theorem Top.b_M_Goal_init : Binds K T.fd_M_Goal_init ["self", "lamps", "sentence"] [] := T.F_M_Goal_init.binds (ps := ["self", "lamps", "sentence"]) fun _ _ _ _ _ _ us hl => match us, hl with | [_, _, _], _ => rfl
theorem Top.b_M_Goal_lamps : Binds K T.fd_M_Goal_lamps ["self"] [] := T.F_M_Goal_lamps.binds (ps := ["self"]) fun _ _ _ _ _ _ us hl => match us, hl with | [_], _ => rfl
theorem Top.b_M_Goal_sentence : Binds K T.fd_M_Goal_sentence ["self"] [] := T.F_M_Goal_sentence.binds (ps := ["self"]) fun _ _ _ _ _ _ us hl => match us, hl with | [_], _ => rfl
theorem Top.b_M_Goal_sets : Binds K T.fd_M_Goal_sets ["self"] [] := T.F_M_Goal_sets.binds (ps := ["self"]) fun _ _ _ _ _ _ us hl => match us, hl with | [_], _ => rfl
theorem Top.b_M_Goal_holds_for : Binds K T.fd_M_Goal_holds_for ["self", "kept"] [] := T.F_M_Goal_holds_for.binds (ps := ["self", "kept"]) fun _ _ _ _ _ _ us hl => match us, hl with | [_, _], _ => rfl
theorem Top.b_M_Goal_call : Binds K T.fd_M_Goal_call ["self", "kept"] [] := T.F_M_Goal_call.binds (ps := ["self", "kept"]) fun _ _ _ _ _ _ us hl => match us, hl with | [_, _], _ => rfl
theorem Top.b_M_Goal_contains : Binds K T.fd_M_Goal_contains ["self", "kept"] [] := T.F_M_Goal_contains.binds (ps := ["self", "kept"]) fun _ _ _ _ _ _ us hl => match us, hl with | [_, _], _ => rfl
theorem Top.b_M_Goal_len : Binds K T.fd_M_Goal_len ["self"] [] := T.F_M_Goal_len.binds (ps := ["self"]) fun _ _ _ _ _ _ us hl => match us, hl with | [_], _ => rfl
theorem Top.b_M_Goal_repr : Binds K T.fd_M_Goal_repr ["self"] [] := T.F_M_Goal_repr.binds (ps := ["self"]) fun _ _ _ _ _ _ us hl => match us, hl with | [_], _ => rfl
theorem Top.b_l_of : Binds K T.fd_l_of ["_law_bag_here", "_law_some"] [] := T.F_l_of.binds (ps := ["_law_bag_here", "_law_some"]) fun _ _ _ _ _ _ us hl => match us, hl with | [_, _], _ => rfl
theorem Top.b_l_same : Binds K T.fd_l_same ["_law_found", "_law_due"] [] := T.F_l_same.binds (ps := ["_law_found", "_law_due"]) fun _ _ _ _ _ _ us hl => match us, hl with | [_, _], _ => rfl
theorem Top.b_l_sets : Binds K T.fd_l_sets ["_law_lamps_z"] [] := T.F_l_sets.binds (ps := ["_law_lamps_z"]) fun _ _ _ _ _ _ us hl => match us, hl with | [_], _ => rfl
theorem Top.b_l_lamps : Binds K T.fd_l_lamps ["_law_bag_here", "_law_most"] [] := T.F_l_lamps.binds (ps := ["_law_bag_here", "_law_most"]) fun _ _ _ _ _ _ us hl => match us, hl with | [_, _], _ => rfl
theorem Top.b_l_lits : Binds K T.fd_l_lits ["_law_bag_here", "_law_lamps_z"] [] := T.F_l_lits.binds (ps := ["_law_bag_here", "_law_lamps_z"]) fun _ _ _ _ _ _ us hl => match us, hl with | [_, _], _ => rfl
theorem Top.b_l_sentence : Binds K T.fd_l_sentence ["_law_bag_here", "_law_lamps_z", "_law_deep"] [] := T.F_l_sentence.binds (ps := ["_law_bag_here", "_law_lamps_z", "_law_deep"]) fun _ _ _ _ _ _ us hl => match us, hl with | [_, _, _], _ => rfl
theorem Top.b_l_holds : Binds K T.fd_l_holds ["_law_sentence_z", "_law_lit"] [] := T.F_l_holds.binds (ps := ["_law_sentence_z", "_law_lit"]) fun _ _ _ _ _ _ us hl => match us, hl with | [_, _], _ => rfl
theorem Top.b_l_aim : Binds K T.fd_l_aim ["_law_bag_here", "_law_lamps_z"] [] := T.F_l_aim.binds (ps := ["_law_bag_here", "_law_lamps_z"]) fun _ _ _ _ _ _ us hl => match us, hl with | [_, _], _ => rfl
theorem Top.b_law : Binds K T.fd_law ["_law_script"] [] := T.F_law.binds (ps := ["_law_script"]) fun _ _ _ _ _ _ us hl => match us, hl with | [_], _ => rfl
theorem Top.bI_InvalidSet : Binds K T.fd_InvalidSet ["self", "given"] [] := T.er_InvalidSet.binds (fun _ _ _ _ _ _ u w => rfl)
theorem Top.kn_M_Goal_init_1_0 : KBn K T.fd_M_Goal_init ["self", "lamps", "sentence"] 1 ["sentence", "lamps"] (selfK [1, 0]) (selfK [1, 0]) := by
  obtain ⟨_, _, _, _, _, _, _, _, _, e, _, _⟩ := T.F_M_Goal_init.ex
  rw [e]
  refine ⟨fun s us ws _ h1 h2 => ?_, fun r q => selfK_vals [1, 0] r q⟩
  match us, h1, ws, h2 with
  | [_], _, [_, _], _ => exact .of_eq rfl
theorem Top.kn_M_Goal_call_0 : KBn K T.fd_M_Goal_call ["self", "kept"] 1 ["kept"] (selfK [0]) (selfK [0]) := by
  obtain ⟨_, _, _, _, _, _, _, _, _, e, _, _⟩ := T.F_M_Goal_call.ex
  rw [e]
  refine ⟨fun s us ws _ h1 h2 => ?_, fun r q => selfK_vals [0] r q⟩
  match us, h1, ws, h2 with
  | [_], _, [_], _ => exact .of_eq rfl
theorem Top.den_JOINING_WORDS {z : Zk} (G : Hp) : Den K z G (.ref T.a_JOINING_WORDS) (.tup [.str [97, 110, 100], .str [111, 114]]) := .tup (.inr T.q_JOINING_WORDS) (.cons (.str [97, 110, 100] (by decide) (by decide)) (.cons (.str [111, 114] (by decide) (by decide)) .nil)) (by decide)
end
end Rg

set_option Elab.async false
set_option linter.all false
set_option maxRecDepth 100000
set_option maxHeartbeats 4500000
/-! drawing -/
namespace Rg
open PySem PySem.Spec PyProof.Rows L2
section
variable {P : Program} {w : World} {K : PySem.W.Frag} {mg : Str → Option Value} {base : Heap}
def sp_pull : Sp := fun vs H Q _ => ∃ (B L : Addr) (m : Int), vs = [.ref B, .int m] ∧ Bag H B L ∧ 0 < m ∧ m < 1000000 ∧ ∀ H' r, SameB B H H' → Bag H' B L → 0 ≤ r → r < m → Q (.int r) H'
theorem ok_pull {f : Addr} {fd : FuncData} {k : Nat} (F : Fun K "_law_pull" "_law_pull" s_l_pull f fd) (m_len : mg "len" = none) (m_abs : mg "abs" = none) (m_int : mg "int" = none) : FnOk P w K mg base CX0 (k + 1) f fd ["_law_bag_here", "_law_many"] sp_pull := by
  refine F.ok sc_l_pull (fun vs H Q E h => ?_) (fun cdv A outer s H vs Q E hr h => ?_)
  · obtain ⟨B, L, m, rfl, _⟩ := h
    rfl
  · obtain ⟨B, L, m, rfl, hB, m0, m1, q⟩ := h
    obtain ⟨t2, h2, r2⟩ : ∃ t2, PSs (cxOf CX0 P w K mg base ["_law_bag_here", "_law_many", "_law_cell", "_law_digit"] "_law_pull" (defScope s_l_pull) f cdv A outer s H E).nox ((defBody s_l_pull).drop 1) t2 ∧
        ∀ (c : Option V) (H1 : Hp), SameB B H H1 → Bag H1 B L → t2 { nx := fun _ H' => Q .non H', rt := Q } [some (.ref B), some (.int m), c, none] H1 := by
      refine ⟨_, (pss_cons (ps_if (pt_cmpR op_gt (pe_ix ix_list (pv 0) pe_int (fun _ _ => rfl)) pe_int (nomark _)) (pss_cons (ps_set (i := 3) sc_l_pull.nd rfl (Or.inl rfl) (pe_op op_modN (pe_callTy call_int1 (by rfl) m_int (by decide +kernel) (pa_cons (pe_ix ix_list (pv 0) pe_int (fun _ _ => rfl)) pa_nil)) (pv 1))) (pss_cons (ps_asg (pe_op op_fdivN (pe_ix ix_list (pv 0) pe_int (fun _ _ => rfl)) (pv 1)) (pg_sub (pv 0) pe_int set_list)) (pss_one (ps_ret (pv 3))))) pss_nil) (pss_cons (ps_asg (pe_op op_modN (pe_callTy call_int1 (by rfl) m_int (by decide +kernel) (pa_cons (pe_op op_add (pe_op op_add (pe_op op_pow (pe_ix ix_list (pv 0) pe_int (fun _ _ => rfl)) pe_int) (pe_op op_mul (pe_ix ix_list (pv 0) pe_int (fun _ _ => rfl)) pe_int)) pe_int) pa_nil)) pe_int) (pg_sub (pv 0) pe_int set_list)) (pss_one (ps_ret (pe_op op_modN (pe_callTy call_int1 (by rfl) m_int (by decide +kernel) (pa_cons (pe_op op_add (pe_op op_fdivN (pe_ix ix_list (pv 0) pe_int (fun _ _ => rfl)) pe_int) (pe_op op_mul (pe_op op_modN (pe_callTy call_int1 (by rfl) m_int (by decide +kernel) (pa_cons (pe_ix ix_list (pv 0) pe_int (fun _ _ => rfl)) pa_nil)) pe_int) pe_int)) pa_nil)) (pv 1)))))), fun c H1 sm hb => ?_⟩
      obtain ⟨ns, i, d, z, e1, e2, nL, i0, d0, z0, z1⟩ := hb
      have nm : m ≠ 0 := by omega
      have nm2 : m.natAbs < 1073741824 := by omega
      refine ⟨.ref B, rfl, B, _, 2, _, rfl, rfl, SqL.of e1, rfl, d, 0, rfl, rfl, _, rfl, ite2 (fun e => ?_) (fun e => ?_)⟩
      · refine ⟨.ref B, rfl, B, _, 2, _, rfl, rfl, SqL.of e1, rfl, .inl ⟨d, rfl, .int m, rfl, d, m, rfl, rfl, nm, ?_⟩⟩
        refine ⟨.ref B, rfl, B, _, 2, _, rfl, rfl, SqL.of e1, rfl, .int m, rfl, d, m, rfl, rfl, ⟨nm, nm2⟩, .ref B, rfl, B, _, 2, 2, rfl, rfl, e1, rfl, ?_⟩
        refine ⟨_, rfl, q _ _ sm.upd ⟨ns, i, d.fdiv m, z, upd_same, ?_, nL, i0, fdiv_lo m0 d0, z0, z1⟩ (fmod_lo m0) (fmod_hi m0)⟩
        rw [upd_ne nL]
        exact e2
      · refine ⟨.ref B, rfl, B, _, 3, _, rfl, rfl, SqL.of e1, rfl, z, 3, rfl, rfl, ⟨by decide, by decide, by omega⟩, .ref B, rfl, B, _, 3, _, rfl, rfl, SqL.of e1, rfl, z, 40503, rfl, rfl, .inl ⟨by omega, by omega⟩, _, _, rfl, rfl, _, _, rfl, rfl, .inl ⟨_, rfl, _, _, rfl, rfl, (show (2147483629 : Int) ≠ 0 by decide), .ref B, rfl, B, _, 3, 3, rfl, rfl, e1, rfl, ?_⟩⟩
        refine ⟨.ref B, rfl, B, _, 3, _, rfl, rfl, SqL.of upd_same, rfl, _, 61, rfl, rfl, ⟨by decide, by decide⟩, .ref B, rfl, B, _, 3, _, rfl, rfl, SqL.of upd_same, rfl, .inl ⟨_, rfl, _, 8209, rfl, rfl, (show (8209 : Int) ≠ 0 by decide), _, 29, rfl, rfl, .inr ⟨by decide, by decide⟩, _, _, rfl, rfl, .inl ⟨_, rfl, .int m, rfl, _, m, rfl, rfl, nm, ?_⟩⟩⟩
        refine q _ _ sm.upd ⟨ns, i, d, _, upd_same, ?_, nL, i0, d0, fmod_lo (by decide), fmod_hi (by decide)⟩ (fmod_lo m0) (fmod_hi m0)
        rw [upd_ne nL]
        exact e2
    refine ⟨_, pss_cons (ps_if (PW.pt (pw_and (pt_cmpR op_eq (pe_ix ix_list (pv 0) pe_int (fun _ _ => rfl)) pe_int (nomark _)) (pw_and1 (pt_cmpR op_lt (pe_ix ix_list (pv 0) pe_int (fun _ _ => rfl)) (pe_callB call_len_seq (by rfl) m_len PySem.boot_len (pa_cons (pe_ix ix_list (pv 0) pe_int (fun _ _ => rfl)) pa_nil)) (nomark _))))) (pss_cons (ps_set (i := 2) sc_l_pull.nd rfl (Or.inl rfl) (pe_ix ix_list (pe_ix ix_list (pv 0) pe_int (fun _ _ => rfl)) (pe_ix ix_list (pv 0) pe_int (fun _ _ => rfl)) (fun _ _ => rfl))) (pss_cons (ps_asg (pe_op op_add (pe_ix ix_list (pv 0) pe_int (fun _ _ => rfl)) pe_int) (pg_sub (pv 0) pe_int set_list)) (pss_one (ps_if (pt_cmpR op_ge (pe_callB call_abs (by rfl) m_abs (by decide +kernel) (pa_cons (pv 2) pa_nil)) (pe_op op_pow pe_int pe_int) (nomark _)) (pss_one (ps_asg (pe_callB call_abs (by rfl) m_abs (by decide +kernel) (pa_cons (pv 2) pa_nil)) (pg_sub (pv 0) pe_int set_list))) (pss_one (ps_asg (pe_op op_modN (pe_callTy call_int1 (by rfl) m_int (by decide +kernel) (pa_cons (pe_op op_add (pe_op op_add (pe_op op_mul (pe_ix ix_list (pv 0) pe_int (fun _ _ => rfl)) pe_int) (pe_op op_mul (pe_op op_modN (pe_callTy call_int1 (by rfl) m_int (by decide +kernel) (pa_cons (pv 2) pa_nil)) pe_int) pe_int)) pe_int) pa_nil)) pe_int) (pg_sub (pv 0) pe_int set_list))))))) pss_nil) h2, ?_⟩
    obtain ⟨ns, i, d, z, e1, e2, nL, i0, d0, z0, z1⟩ := hB
    refine ⟨.ref B, rfl, B, _, 2, _, rfl, rfl, SqL.of e1, rfl, rfl, _, rfl, ite2 (fun e => ?_) (fun e => ?_)⟩
    · refine ⟨.ref B, rfl, B, _, 1, _, rfl, rfl, SqL.of e1, rfl, .ref B, rfl, B, _, 0, _, rfl, rfl, SqL.of e1, rfl, L, _, rfl, .inl (SqL.of e2), i, _, rfl, rfl, _, rfl, ite2 (fun e => ?_) (fun e => ?_)⟩
      · have hi : i.toNat < ns.length := by
          have := of_decide_eq_true e
          rw [List.length_map] at this
          omega
        have ei : i = (i.toNat : Int) := by omega
        refine ⟨.ref B, rfl, B, _, 0, _, rfl, rfl, SqL.of e1, rfl, .ref B, rfl, B, _, 1, _, rfl, rfl, SqL.of e1, rfl, L, _, i, .int ns[i.toNat], rfl, rfl, SqL.of e2, at_of ei ?_, ?_⟩
        · rw [List.getElem?_map, List.getElem?_eq_getElem hi]
          rfl
        generalize ns[i.toNat] = c
        refine ⟨.ref B, rfl, B, _, 1, _, rfl, rfl, SqL.of e1, rfl, i, 1, rfl, rfl, .ref B, rfl, B, _, 1, 1, rfl, rfl, e1, rfl, ?_⟩
        refine ⟨.int c, rfl, c, rfl, 10, 18, rfl, rfl, ⟨by decide, by decide, by decide⟩, _, _, rfl, rfl, _, rfl, ite2 (fun e => ?_) (fun e => ?_)⟩
        · refine ⟨.int c, rfl, c, rfl, .ref B, rfl, B, _, 2, 2, rfl, rfl, upd_same, rfl, ?_⟩
          refine r2 _ _ (SameB.upd (SameB.upd (SameB.refl _ _))) ⟨ns, i + 1, _, z, upd_same, ?_, nL, by omega, ?_, z0, z1⟩
          · rw [upd_ne nL, upd_ne nL]
            exact e2
          · split <;> omega
        · refine ⟨.ref B, rfl, B, _, 3, _, rfl, rfl, SqL.of upd_same, rfl, z, 69069, rfl, rfl, .inl ⟨by omega, by omega⟩, .int c, rfl, .inl ⟨c, rfl, c, 1000000007, rfl, rfl, (show (1000000007 : Int) ≠ 0 by decide), _, 40503, rfl, rfl, .inr ⟨by decide, by decide⟩, _, _, rfl, rfl, _, 17, rfl, rfl, .inl ⟨_, rfl, _, 2147483629, rfl, rfl, (show (2147483629 : Int) ≠ 0 by decide), .ref B, rfl, B, _, 3, 3, rfl, rfl, upd_same, rfl, ?_⟩⟩⟩
          refine r2 _ _ (SameB.upd (SameB.upd (SameB.refl _ _))) ⟨ns, i + 1, d, _, upd_same, ?_, nL, by omega, d0, fmod_lo (by decide), fmod_hi (by decide)⟩
          rw [upd_ne nL, upd_ne nL]
          exact e2
      · exact r2 _ _ (SameB.refl _ _) ⟨ns, i, d, z, e1, e2, nL, i0, d0, z0, z1⟩
    · exact r2 _ _ (SameB.refl _ _) ⟨ns, i, d, z, e1, e2, nL, i0, d0, z0, z1⟩
theorem cut_map (ns : List Int) (lo hi : Option Int) : ∃ ms : List Int, cutV (ns.map V.int) lo hi = ms.map V.int := by
  refine ⟨(ns.drop (HT.sIx (ns.map V.int).length 0 lo)).take (HT.sIx (ns.map V.int).length (ns.map V.int).length hi - HT.sIx (ns.map V.int).length 0 lo), ?_⟩
  simp only [List.map_take, List.map_drop]
  rfl
def sp_bag (K : PySem.W.Frag) : Sp := fun vs H Q _ => ∃ (a : Addr) (ns : List Int), vs = [.ref a] ∧ SqL K H a (ns.map V.int) ∧ ∀ H' B L, Same H H' → H B = none → H L = none → Bag H' B L → Q (.ref B) H'
theorem ok_bag {f : Addr} {fd : FuncData} {k : Nat} (F : Fun K "_law_bag" "_law_bag" s_l_bag f fd) (m_list : mg "list" = none) : FnOk P w K mg base CX0 (k + 1) f fd ["_law_script"] (sp_bag K) := by
  refine F.ok sc_l_bag (fun vs H Q E h => ?_) (fun cdv A outer s H vs Q E hr h => ?_)
  · obtain ⟨a, ns, rfl, _⟩ := h
    rfl
  · obtain ⟨a, ns, rfl, hS, q⟩ := h
    obtain ⟨ms, em⟩ := cut_map ns none (some 63)
    refine ⟨_, (pss_one (ps_ret (pe_lst (pa_cons (pe_callTy call_list_of (by rfl) m_list (by decide +kernel) (pa_cons (pe_slice sl_list (pv 0) po_none (po_some pe_int)) pa_nil)) (pa_cons pe_int (pa_cons pe_int (pa_cons pe_int pa_nil))))))), ?_⟩
    refine ⟨.ref a, rfl, 63, rfl, a, _, rfl, hS, fun p np => ⟨p, _, rfl, .inl (SqL.of upd_same), fun l nl => ⟨(show 4 ≤ sizeLine by decide), fun B nB => ?_⟩⟩⟩
    have s1 := same_new (o := .lst (cutV (ns.map V.int) none (some 63))) np
    have s2 := same_new (o := .lst (cutV (ns.map V.int) none (some 63))) nl
    have s3 := same_new (o := .lst [.ref l, .int 0, .int 0, .int 5601]) nB
    have nlB : l ≠ B := ne_of_none upd_same nB
    refine q _ B l (s1.trans (s2.trans s3)) (s1.free (s2.free nB)) (s1.free nl) ⟨ms, 0, 0, 5601, upd_same, ?_, nlB, by decide, by decide, by decide, by decide⟩
    rw [upd_ne nlB, upd_same, em]

/-- a def that lets nothing out -/
theorem toCX {k : Nat} {f : Addr} {fd : FuncData} {ps : List Str} {sp : Sp} (F : FnOk P w K mg base CX0 k f fd ps sp) : FnOk P w K mg base (L2.CX P w) k f fd ps sp :=
  ⟨F.len, fun A outer s H args us vs Q E hr he hb hv hs => codeAny_mono (F.run A outer s H args us vs Q E hr he hb hv hs) fun r s' h => by
    cases r with
    | ok fl => cases fl <;> exact h
    | error e => exact h.elim⟩
def bagOf : D → W Unit
  | .bag => W.pure ()
  | _ => W.fail
def pullD (b n : D) : W D := W.bind (bagOf b) fun _ => W.bind (int1 n) fun m => W.bind (W.need (0 < m ∧ m < 1000000)) fun _ => W.any fun d => ∃ r : Int, d = .int r ∧ 0 ≤ r ∧ r < m
def m_l_pull : List D → W D := two2 pullD
theorem ok_l_pull (T : Top P K mg) : FnM P w K mg base T.cm 1 T.a_l_pull T.fd_l_pull ["_law_bag_here", "_law_many"] m_l_pull := by
  refine FnOk.imp (toCX (ok_pull (k := 0) T.F_l_pull T.m_len T.m_abs T.m_int)) fun vs H Q E h => ?_
  obtain ⟨bg, G, ds, vw, hd, _, h⟩ := h
  obtain ⟨v, u, d, e, rfl, rfl, a1, a2, h⟩ := two2_wp hd h
  cases a1 with
  | @bag B L q =>
    obtain ⟨m, rfl, ⟨m0, m1⟩, h⟩ := int1_wp a2 h
    obtain ⟨hB, g1, g2⟩ := vw.bag B L q
    refine ⟨B, L, m, rfl, hB, m0, m1, fun H' r sm hb r0 r1 => h (.int r) ⟨r, rfl, r0, r1⟩ _ _ G ⟨fun a o n e => sm a o (n.1 B L q) e, Same.refl _, fun _ _ _ _ g => g, ⟨fun a o e => sm a o (fun z => by subst z; rw [g1] at e; cases e) (vw.sub _ _ e), fun B' L' q' => ?_, ⟨fun _ z => (nomatch z), fun _ z => (nomatch z)⟩⟩⟩ (.int r)⟩
    rw [q] at q'
    cases q'
    exact ⟨hb, g1, g2⟩
  | _ => exact h.elim
end
end Rg

set_option Elab.async false
set_option linter.all false
set_option maxRecDepth 100000
set_option maxHeartbeats 4500000
/-! what an error told: the law's why and got, by data -/
namespace Rg
open PySem PySem.Spec PyProof.Rows LamX L2
/-- which field of an error is asked, by its tag -/
def fldP (t : Str) : Option Str := if t = "InvalidSentence" then some "part" else if t = "InvalidPlan" then some "table" else some "room"
def fldL (t : Str) : Option Str := if t = "DeadEnd" then some "origin" else if t = "NotesEnough" then some "many" else if t = "InvalidCommand" then some "word" else if t = "ParseError" then some "line" else none
def fld (t : Str) : Option Str :=
  if inV (.str t) [.str "InvalidLamps", .str "InvalidSet", .str "InvalidHand", .str "InvalidPlace", .str "InvalidLimit"] = true then some "given"
  else if inV (.str t) [.str "InvalidOwner", .str "InvalidArrow", .str "InvalidWalk"] = true then some "index"
  else if inV (.str t) [.str "InvalidName", .str "DuplicateName", .str "WrongKind", .str "UnknownName"] = true then some "name"
  else if inV (.str t) [.str "TooMany", .str "CapacityExceeded"] = true then (if t = "TooMany" then some "most" else some "limit")
  else if inV (.str t) [.str "InvalidSentence", .str "InvalidPlan", .str "InvalidStep"] = true then fldP t
  else fldL t
/-- what a def reads of the error at a -/
def sp_fld (K : PySem.W.Frag) (g : Str → Option Str) (a : Addr) (cls : Value) (d : Option Addr) : Sp := fun vs H Q _ => ∃ (fs : List (Str × V)) (t : Str), vs = [.ref a] ∧ ErrF K H cls d fs ∧ fs.lookup ("tag" : Str) = some (V.str t) ∧
  ((∃ n v, g t = some n ∧ fs.lookup n = some v ∧ ∀ H', Same H H' → Q v H') ∨ (g t = none ∧ ∀ H', Same H H' → Q .non H'))
theorem fld_len {K : PySem.W.Frag} {g : Str → Option Str} {y : Str} : ∀ a cls d vs H Q E, sp_fld K g a cls d vs H Q E → vs.length = ([y] : List Str).length := fun a cls d vs H Q E h => by
  obtain ⟨fs, t, rfl, _⟩ := h
  rfl
theorem ifEq {a b : Str} {A B : Prop} (h1 : a = b → A) (h2 : a ≠ b → B) : if decide (V.str a = V.str b) = true then A else B := by
  by_cases h : a = b
  · rw [if_pos (decide_eq_true (congrArg V.str h))]
    exact h1 h
  · rw [if_neg (fun z => h (V.str.inj (of_decide_eq_true z)))]
    exact h2 h
theorem ifIn {b : Bool} {A B : Prop} (h1 : b = true → A) (h2 : ¬ b = true → B) : if (if false = true then !b else b) = true then A else B := by
  show if b = true then A else B
  exact ite2 h1 h2
theorem fld_got {g : Str → Option Str} {t n : Str} {H : Hp} {Q : VK} {fs : List (Str × V)} (h : (∃ n v, g t = some n ∧ fs.lookup n = some v ∧ ∀ H', Same H H' → Q v H') ∨ (g t = none ∧ ∀ H', Same H H' → Q .non H')) (e : g t = some n) :
    ∃ v, fs.lookup n = some v ∧ ∀ H', Same H H' → Q v H' := by
  rcases h with ⟨m, v, e1, l, q⟩ | ⟨e1, _⟩
  · rw [e] at e1
    cases e1
    exact ⟨v, l, q⟩
  · rw [e] at e1
    cases e1
theorem fld_non {g : Str → Option Str} {t : Str} {H : Hp} {Q : VK} {fs : List (Str × V)} (h : (∃ n v, g t = some n ∧ fs.lookup n = some v ∧ ∀ H', Same H H' → Q v H') ∨ (g t = none ∧ ∀ H', Same H H' → Q .non H')) (e : g t = none) : ∀ H', Same H H' → Q .non H' := by
  rcases h with ⟨m, v, e1, l, q⟩ | ⟨_, q⟩
  · rw [e] at e1
    cases e1
  · exact q
section
variable {P : Program} {w : World} {K : PySem.W.Frag} {mg : Str → Option Value} {base : Heap}
theorem ok_part {f : Addr} {fd : FuncData} {k : Nat} (F : Fun K "_law_part_of" "_law_part_of" s_l_part_of f fd) : FnQ P w K mg base (k + 1) f fd ["_law_one"] (sp_fld K fldP) := by
  refine Fun_okQ F sc_l_part_of fld_len (fun cdv A outer s H vs Q E p cls d hr hp h => ?_)
  obtain ⟨fs, t, rfl, hE, ht, h⟩ := h
  refine ⟨_, (pss_cons (ps_if (pt_cmpR op_eq (pe_xq hp (pv 0)) pe_str (nomark _)) (pss_one (ps_ret (pe_xq hp (pv 0)))) pss_nil) (pss_one (ps_ret (pe_ifExp (pt_cmpR op_eq (pe_xq hp (pv 0)) pe_str (nomark _)) (pe_xq hp (pv 0)) (pe_xq hp (pv 0)))))), ?_⟩
  refine ⟨.ref p.1, rfl, rfl, fs, .str t, hE, by decide, ht, rfl, _, rfl, ifEq (fun e => ?_) (fun e => ?_)⟩
  · obtain ⟨v, l, q⟩ := fld_got (n := "part") h (by rw [e]; rfl)
    exact ⟨.ref p.1, rfl, rfl, fs, v, hE, by decide, l, q _ (Same.refl _)⟩
  refine ⟨.ref p.1, rfl, rfl, fs, .str t, hE, by decide, ht, rfl, _, rfl, ifEq (fun e2 => ?_) (fun e2 => ?_)⟩
  · obtain ⟨v, l, q⟩ := fld_got (n := "table") h (by rw [e2]; rfl)
    exact ⟨.ref p.1, rfl, rfl, fs, v, hE, by decide, l, q _ (Same.refl _)⟩
  · obtain ⟨v, l, q⟩ := fld_got (n := "room") h (by unfold fldP; rw [if_neg e, if_neg e2])
    exact ⟨.ref p.1, rfl, rfl, fs, v, hE, by decide, l, q _ (Same.refl _)⟩
theorem ok_last {f : Addr} {fd : FuncData} {k : Nat} (F : Fun K "_law_last_field" "_law_last_field" s_l_last_field f fd) : FnQ P w K mg base (k + 1) f fd ["_law_one"] (sp_fld K fldL) := by
  refine Fun_okQ F sc_l_last_field fld_len (fun cdv A outer s H vs Q E p cls d hr hp h => ?_)
  obtain ⟨fs, t, rfl, hE, ht, h⟩ := h
  refine ⟨_, (pss_cons (ps_if (pt_cmpR op_eq (pe_xq hp (pv 0)) pe_str (nomark _)) (pss_one (ps_ret (pe_xq hp (pv 0)))) pss_nil) (pss_cons (ps_if (pt_cmpR op_eq (pe_xq hp (pv 0)) pe_str (nomark _)) (pss_one (ps_ret (pe_xq hp (pv 0)))) pss_nil) (pss_cons (ps_if (pt_cmpR op_eq (pe_xq hp (pv 0)) pe_str (nomark _)) (pss_one (ps_ret (pe_xq hp (pv 0)))) pss_nil) (pss_one (ps_ret (pe_ifExp (pt_cmpR op_eq (pe_xq hp (pv 0)) pe_str (nomark _)) (pe_xq hp (pv 0)) pe_non)))))), ?_⟩
  refine ⟨.ref p.1, rfl, rfl, fs, .str t, hE, by decide, ht, rfl, _, rfl, ifEq (fun e => ?_) (fun e => ?_)⟩
  · obtain ⟨v, l, q⟩ := fld_got (n := "origin") h (by rw [e]; rfl)
    exact ⟨.ref p.1, rfl, rfl, fs, v, hE, by decide, l, q _ (Same.refl _)⟩
  refine ⟨.ref p.1, rfl, rfl, fs, .str t, hE, by decide, ht, rfl, _, rfl, ifEq (fun e2 => ?_) (fun e2 => ?_)⟩
  · obtain ⟨v, l, q⟩ := fld_got (n := "many") h (by rw [e2]; rfl)
    exact ⟨.ref p.1, rfl, rfl, fs, v, hE, by decide, l, q _ (Same.refl _)⟩
  refine ⟨.ref p.1, rfl, rfl, fs, .str t, hE, by decide, ht, rfl, _, rfl, ifEq (fun e3 => ?_) (fun e3 => ?_)⟩
  · obtain ⟨v, l, q⟩ := fld_got (n := "word") h (by rw [e3]; rfl)
    exact ⟨.ref p.1, rfl, rfl, fs, v, hE, by decide, l, q _ (Same.refl _)⟩
  refine ⟨.ref p.1, rfl, rfl, fs, .str t, hE, by decide, ht, rfl, _, rfl, ifEq (fun e4 => ?_) (fun e4 => ?_)⟩
  · obtain ⟨v, l, q⟩ := fld_got (n := "line") h (by rw [e4]; rfl)
    exact ⟨.ref p.1, rfl, rfl, fs, v, hE, by decide, l, q _ (Same.refl _)⟩
  · exact fld_non h (by unfold fldL; rw [if_neg e, if_neg e2, if_neg e3, if_neg e4]) _ (Same.refl _)
theorem ErrF.same {H H' : Hp} {cls : Value} {d : Option Addr} {fs : List (Str × V)} (h : ErrF K H cls d fs) (e : Same H H') : ErrF K H' cls d fs := by
  obtain ⟨C, dd, h1, h2, h3, h4⟩ := h
  exact ⟨C, dd, h1, h2, h3, e _ _ h4⟩
theorem fld_sub {g g' : Str → Option Str} {t : Str} {H H1 : Hp} {Q : VK} {fs : List (Str × V)} (h : (∃ n v, g t = some n ∧ fs.lookup n = some v ∧ ∀ H', Same H H' → Q v H') ∨ (g t = none ∧ ∀ H', Same H H' → Q .non H')) (e : g t = g' t) (sm : Same H H1) :
    (∃ n v, g' t = some n ∧ fs.lookup n = some v ∧ ∀ H', Same H1 H' → Q v H') ∨ (g' t = none ∧ ∀ H', Same H1 H' → Q .non H') := by
  rcases h with ⟨n, v, e1, l, q⟩ | ⟨e1, q⟩
  · exact .inl ⟨n, v, by rw [← e, e1], l, fun H' s' => q _ (sm.trans s')⟩
  · exact .inr ⟨by rw [← e, e1], fun H' s' => q _ (sm.trans s')⟩
theorem ok_field {f : Addr} {fd : FuncData} {k : Nat} {f_l_part_of : Addr} {fd_l_part_of : FuncData} {f_l_last_field : Addr} {fd_l_last_field : FuncData} (F : Fun K "_law_field" "_law_field" s_l_field f fd)
    (F_l_part_of : Fun K "_law_part_of" "_law_part_of" s_l_part_of f_l_part_of fd_l_part_of) (b_l_part_of : Binds K fd_l_part_of ["_law_one"] []) (g_l_part_of : mg "_law_part_of" = some (.ref f_l_part_of))
    (F_l_last_field : Fun K "_law_last_field" "_law_last_field" s_l_last_field f_l_last_field fd_l_last_field) (b_l_last_field : Binds K fd_l_last_field ["_law_one"] []) (g_l_last_field : mg "_law_last_field" = some (.ref f_l_last_field)) :
    FnQ P w K mg base (k + 2) f fd ["_law_one"] (sp_fld K fld) := by
  have G_l_part_of := ok_part (P := P) (w := w) (mg := mg) (base := base) (k := k) F_l_part_of
  have G_l_last_field := ok_last (P := P) (w := w) (mg := mg) (base := base) (k := k) F_l_last_field
  refine Fun_okQ F sc_l_field fld_len (fun cdv A outer s H vs Q E p cls d hr hp h => ?_)
  obtain ⟨fs, t, rfl, hE, ht, h⟩ := h
  refine ⟨_, (pss_cons (ps_if (pt_cmpR op_in_seq (pe_xq hp (pv 0)) (pe_tup (pa_cons pe_str (pa_cons pe_str (pa_cons pe_str (pa_cons pe_str (pa_cons pe_str pa_nil)))))) (by rfl)) (pss_one (ps_ret (pe_xq hp (pv 0)))) pss_nil) (pss_cons (ps_if (pt_cmpR op_in_seq (pe_xq hp (pv 0)) (pe_tup (pa_cons pe_str (pa_cons pe_str (pa_cons pe_str pa_nil)))) (by rfl)) (pss_one (ps_ret (pe_xq hp (pv 0)))) pss_nil) (pss_cons (ps_if (pt_cmpR op_in_seq (pe_xq hp (pv 0)) (pe_tup (pa_cons pe_str (pa_cons pe_str (pa_cons pe_str (pa_cons pe_str pa_nil))))) (by rfl)) (pss_one (ps_ret (pe_xq hp (pv 0)))) pss_nil) (pss_cons (ps_if (pt_cmpR op_in_seq (pe_xq hp (pv 0)) (pe_tup (pa_cons pe_str (pa_cons pe_str pa_nil))) (by rfl)) (pss_one (ps_ret (pe_ifExp (pt_cmpR op_eq (pe_xq hp (pv 0)) pe_str (nomark _)) (pe_xq hp (pv 0)) (pe_xq hp (pv 0))))) pss_nil) (pss_cons (ps_if (pt_cmpR op_in_seq (pe_xq hp (pv 0)) (pe_tup (pa_cons pe_str (pa_cons pe_str (pa_cons pe_str pa_nil)))) (by rfl)) (pss_one (ps_ret (pe_callQ G_l_part_of (hr.mono (by omega)) hp (by rfl) g_l_part_of F_l_part_of.kp b_l_part_of (pa_cons (pv 0) pa_nil)))) pss_nil) (pss_one (ps_ret (pe_callQ G_l_last_field (hr.mono (by omega)) hp (by rfl) g_l_last_field F_l_last_field.kp b_l_last_field (pa_cons (pv 0) pa_nil))))))))), ?_⟩
  refine ⟨.ref p.1, rfl, rfl, fs, .str t, hE, by decide, ht, by decide, fun q1 n1 => ⟨q1, _, rfl, .inr (SqT.of upd_same), rfl, rfl, _, rfl, ifIn (fun e1 => ?_) (fun e1 => ?_)⟩⟩
  · obtain ⟨v, l, q⟩ := fld_got (n := "given") h (by unfold fld; rw [if_pos e1])
    exact ⟨.ref p.1, rfl, rfl, fs, v, hE.same (same_new n1), by decide, l, q _ (same_new n1)⟩
  have s1 := same_new (o := .tup [.str "InvalidLamps", .str "InvalidSet", .str "InvalidHand", .str "InvalidPlace", .str "InvalidLimit"]) n1
  refine ⟨.ref p.1, rfl, rfl, fs, .str t, hE.same s1, by decide, ht, by decide, fun q2 n2 => ⟨q2, _, rfl, .inr (SqT.of upd_same), rfl, rfl, _, rfl, ifIn (fun e2 => ?_) (fun e2 => ?_)⟩⟩
  · obtain ⟨v, l, q⟩ := fld_got (n := "index") h (by unfold fld; rw [if_neg e1, if_pos e2])
    exact ⟨.ref p.1, rfl, rfl, fs, v, hE.same (s1.trans (same_new n2)), by decide, l, q _ (s1.trans (same_new n2))⟩
  have s2 := s1.trans (same_new (o := .tup [.str "InvalidOwner", .str "InvalidArrow", .str "InvalidWalk"]) n2)
  refine ⟨.ref p.1, rfl, rfl, fs, .str t, hE.same s2, by decide, ht, by decide, fun q3 n3 => ⟨q3, _, rfl, .inr (SqT.of upd_same), rfl, rfl, _, rfl, ifIn (fun e3 => ?_) (fun e3 => ?_)⟩⟩
  · obtain ⟨v, l, q⟩ := fld_got (n := "name") h (by unfold fld; rw [if_neg e1, if_neg e2, if_pos e3])
    exact ⟨.ref p.1, rfl, rfl, fs, v, hE.same (s2.trans (same_new n3)), by decide, l, q _ (s2.trans (same_new n3))⟩
  have s3 := s2.trans (same_new (o := .tup [.str "InvalidName", .str "DuplicateName", .str "WrongKind", .str "UnknownName"]) n3)
  refine ⟨.ref p.1, rfl, rfl, fs, .str t, hE.same s3, by decide, ht, by decide, fun q4 n4 => ⟨q4, _, rfl, .inr (SqT.of upd_same), rfl, rfl, _, rfl, ifIn (fun e4 => ?_) (fun e4 => ?_)⟩⟩
  · have s4 := s3.trans (same_new (o := .tup [.str "TooMany", .str "CapacityExceeded"]) n4)
    refine ⟨.ref p.1, rfl, rfl, fs, .str t, hE.same s4, by decide, ht, rfl, _, rfl, ifEq (fun e => ?_) (fun e => ?_)⟩
    · obtain ⟨v, l, q⟩ := fld_got (n := "most") h (by unfold fld; rw [if_neg e1, if_neg e2, if_neg e3, if_pos e4, if_pos e])
      exact ⟨.ref p.1, rfl, rfl, fs, v, hE.same s4, by decide, l, q _ s4⟩
    · obtain ⟨v, l, q⟩ := fld_got (n := "limit") h (by unfold fld; rw [if_neg e1, if_neg e2, if_neg e3, if_pos e4, if_neg e])
      exact ⟨.ref p.1, rfl, rfl, fs, v, hE.same s4, by decide, l, q _ s4⟩
  have s4 := s3.trans (same_new (o := .tup [.str "TooMany", .str "CapacityExceeded"]) n4)
  refine ⟨.ref p.1, rfl, rfl, fs, .str t, hE.same s4, by decide, ht, by decide, fun q5 n5 => ⟨q5, _, rfl, .inr (SqT.of upd_same), rfl, rfl, _, rfl, ifIn (fun e5 => ?_) (fun e5 => ?_)⟩⟩
  · exact ⟨.ref p.1, rfl, fs, t, rfl, hE.same (s4.trans (same_new n5)), ht, fld_sub h (by unfold fld; rw [if_neg e1, if_neg e2, if_neg e3, if_neg e4, if_pos e5]) (s4.trans (same_new n5))⟩
  · exact ⟨.ref p.1, rfl, fs, t, rfl, hE.same (s4.trans (same_new n5)), ht, fld_sub h (by unfold fld; rw [if_neg e1, if_neg e2, if_neg e3, if_neg e4, if_neg e5]) (s4.trans (same_new n5))⟩
end
/-- what the error told: its tag and the field that is asked -/
def Told (K : PySem.W.Frag) (H : Hp) (cls : Value) (d : Option Addr) (t : Str) (v : V) : Prop := ∃ fs, ErrF K H cls d fs ∧ fs.lookup ("tag" : Str) = some (V.str t) ∧ ((∃ n, fld t = some n ∧ fs.lookup n = some v) ∨ (fld t = none ∧ v = .non))
/-- why: the lambda's reading tl is asked; what it raises is told by its tag and field -/
def TWhy (K : PySem.W.Frag) (cs : List Value) : (XK → Hp → VK → Prop) → Hp → VK → Prop := fun tl H Q =>
  tl (fun cls d H' => PySem.W.exmAny K cls cs = some true ∧ ∃ t v, Told K H' cls d t v ∧ ∀ H'' p, Same H' H'' → H'' p = none → Q (.ref p) (upd H'' p (.tup [.str t, v]))) H
    (fun _ H' => ([.str "", .non] : List V).length ≤ sizeLine ∧ ∀ p, H' p = none → Q (.ref p) (upd H' p (.tup [.str "", .non])))
theorem takes_len {X : Cx} {W : WX} (tk : Takes X W) : Takes X (fun cls d σ H => σ.length = X.N.length → W cls d σ H) := fun u s' x => by
  obtain ⟨a, B, sI, pins, σ, H, cls, d, e, I, nb, up, sky, na, os, ag, w⟩ := x
  exact tk u s' ⟨a, B, sI, pins, σ, H, cls, d, e, I, nb, up, sky, na, os, ag, w I.len⟩
theorem why_gives {X : Cx} {q : Str} {g : Addr} {cdg : Value} {f_l_field : Addr} {fd_l_field : FuncData} {CA CB CC : Addr} {k : Nat} (hr : Room (k + 3) X.A)
    (G_l_field : FnQ X.prog X.w X.K X.mg X.base (k + 2) f_l_field fd_l_field ["_law_one"] (sp_fld X.K fld)) (kp_l_field : PySem.W.keepIn X.K (.ref f_l_field) = true) (b_l_field : Binds X.K fd_l_field ["_law_one"] []) (g_l_field : X.mg "_law_field" = some (.ref f_l_field))
    (mA : X.mg "GoalError" = some (.ref CA)) (mB : X.mg "UnknownName" = some (.ref CB)) (mC : X.mg "NothingLeft" = some (.ref CC)) :
    GivesTo X ["_law_ask", "e"] "_law_why" (defScope s_l_why) g cdg (defBody s_l_why) "_law_ask" q (TWhy X.K [.ref CA, .ref CB, .ref CC]) := by
  intro f c' s H Q tl act hc h
  have hrH : L2H.RoomH (k + 2) (X.A.deeper (envOfC "_law_why" (defScope s_l_why) s.heap.objs.size g cdg)) := (L2H.roomH_of hr).deeper _
  have G1 := G_l_field
  refine ⟨_, pss_cons (ps_try_as3 (X := (cxOf C8.CX0 X.prog X.w X.K X.mg X.base ["_law_ask", "e"] "_law_why" (defScope s_l_why) g cdg X.A X.stack s H C8.E0).nox) (i := 1) (c1 := .ref CA) (c2 := .ref CB) (c3 := .ref CC)
      (tb := fun W D σ H => ∃ Ech : XK, (∀ cls d σ' H', Ech cls d H' → σ'.length = 2 → W cls d σ' H') ∧ σ[0]? = some (some (.ref f)) ∧ H c' = some (CodeO c' q) ∧ tl Ech H (fun _ H' => D.nx σ H'))
      (ts := fun a cls d => tRet (tTup (tCons (tXq X.K a cls d "tag" (tVar 1)) (tCons (tCallS (sp_fld X.K fld a cls d) (fun _ => C8.E0) (tCons (tVar 1) tNil)) tNil))))
      (Wout := fun _ _ _ _ => False) rfl rfl sc_l_why.nd rfl rfl ⟨rfl, by decide, .inl mA⟩ ⟨rfl, by decide, .inl mB⟩ ⟨rfl, by decide, .inl mC⟩ L2.takes0 (fun W pn xe tk _ => ?_)
      (fun a oe cls d pn hz hd => ?_))
    (pss_one (ps_ret (pe_tup (pa_cons pe_str (pa_cons pe_non pa_nil))))), ?_⟩
  · constructor
    intro pins s2 σ2 H2 D I ask
    obtain ⟨Er, hW, r1, r2, r3⟩ := ask
    exact (pss_one (ps_expr (act _ pn xe Er _ _ (takes_len tk) hW))).run pins s2 σ2 H2 D I ⟨r1, r2, r3⟩
  · have hp : HasE ((cxOf C8.CX0 X.prog X.w X.K X.mg X.base ["_law_ask", "e"] "_law_why" (defScope s_l_why) g cdg X.A X.stack s H C8.E0).nox.suite a ((a, oe) :: pn)) a cls d := ⟨(a, oe), List.mem_cons_self, rfl, hz, hd⟩
    exact pss_one (ps_ret (pe_tup (pa_cons (pe_xq hp (pv 1)) (pa_cons (pe_callQ G1 ⟨hrH.dp, hrH.un⟩ hp (by rfl) g_l_field kp_l_field b_l_field (pa_cons (pv 1) pa_nil)) pa_nil))))
  · refine ⟨_, fun cls d σ' H' hx hl => ?_, rfl, hc, h⟩
    obtain ⟨hany, t, v, ⟨fs, hF, ht, hv⟩, q⟩ := hx
    refine ⟨true, hany, fun _ a na => ?_, fun z => nomatch z⟩
    have e1 : (σ'.set 1 (some (V.ref a)))[1]? = some (some (V.ref a)) := List.getElem?_set_self (by omega)
    refine ⟨.ref a, e1, rfl, fs, .str t, hF, by decide, ht, .ref a, e1, fs, t, rfl, hF, ht, ?_⟩
    rcases hv with ⟨n, hn, hl2⟩ | ⟨hn, rfl⟩
    · exact .inl ⟨n, v, hn, hl2, fun H2 s2 => ⟨show 2 ≤ sizeLine by decide, fun p hp => q H2 p s2 hp⟩⟩
    · exact .inr ⟨hn, fun H2 s2 => ⟨show 2 ≤ sizeLine by decide, fun p hp => q H2 p s2 hp⟩⟩
/-- got: what the lambda gives, or what its error told -/
def TGot (K : PySem.W.Frag) (cs : List Value) : (XK → Hp → VK → Prop) → Hp → VK → Prop := fun tl H Q =>
  tl (fun cls d H' => PySem.W.exmAny K cls cs = some true ∧ ∃ t v, Told K H' cls d t v ∧ ∀ H'' p, Same H' H'' → H'' p = none → Q (.ref p) (upd H'' p (.tup [.str t, v]))) H
    (fun y H' => ([.str "value", y] : List V).length ≤ sizeLine ∧ ∀ p, H' p = none → Q (.ref p) (upd H' p (.tup [.str "value", y])))
/-! by data -/
/-- the tag and the field that an error tells -/
def toldD (x : ExD) : Option (List Nat × D) := match x.fs.lookup ("tag" : Str) with
  | some (.str t) => match fld (sOf t) with
    | some n => (x.fs.lookup n).map fun d => (t, d)
    | none => some (t, .non)
  | _ => none
def whyW (errs : List Str) (m : W D) : W D := ⟨fun Q _ => m.wp (fun _ => Q (.tup [.str [], .non])) (fun x => x.cls ∈ errs ∧ ∃ t v, toldD x = some (t, v) ∧ Q (.tup [.str t, v])), fun h _ q => m.mono (fun _ z => h _ z) (fun x ⟨z1, t, v, z2, z3⟩ => ⟨z1, t, v, z2, h _ z3⟩) q⟩
def gotW (errs : List Str) (m : W D) : W D := ⟨fun Q _ => m.wp (fun d => Q (.tup [.str [118, 97, 108, 117, 101], d])) (fun x => x.cls ∈ errs ∧ ∃ t v, toldD x = some (t, v) ∧ Q (.tup [.str t, v])), fun h _ q => m.mono (fun _ z => h _ z) (fun x ⟨z1, t, v, z2, z3⟩ => ⟨z1, t, v, z2, h _ z3⟩) q⟩
section
variable {K : PySem.W.Frag} {z : Zk} {cs : List Value} {errs : List Str}
theorem told_den {G H : Hp} {cls : Value} {dx : Option Addr} {x : ExD} {t : List Nat} {d : D} (hk : ∀ c ∈ errs, ∀ C, z.cm c = some C → ErrK K C ∧ PySem.W.exmAny K (.ref C) cs = some true) (hx : x.cls ∈ errs) (h : toldD x = some (t, d)) (xd : XDen K z G H cls dx x) :
    PySem.W.exmAny K cls cs = some true ∧ ∃ v, Told K H cls dx (sOf t) v ∧ Den K z G v d ∧ Den K z G (.str (sOf t)) (.str t) := by
  obtain ⟨C, a, fs, hC, rfl, rfl, ha, df⟩ := xd
  obtain ⟨k1, k2⟩ := hk _ hx C hC
  refine ⟨k2, ?_⟩
  unfold toldD at h
  cases ht : x.fs.lookup ("tag" : Str) with
  | none =>
    rw [ht] at h
    cases h
  | some dt =>
    rw [ht] at h
    cases dt with
    | str t1 =>
      obtain ⟨vt, l1, d1⟩ := df.look ht
      cases d1 with
      | str _ s1 s2 =>
        have h' : (match fld (sOf t1) with
          | some n => (x.fs.lookup n).map fun d => (t1, d)
          | none => some (t1, D.non)) = some (t, d) := h
        cases hf : fld (sOf t1) with
        | some n =>
          rw [hf] at h'
          obtain ⟨d2, h2, h3⟩ := Option.map_eq_some_iff.mp h'
          cases h3
          obtain ⟨v, l2, dv⟩ := df.look h2
          exact ⟨v, ⟨fs, ⟨C, a, rfl, k1, rfl, ha⟩, l1, .inl ⟨n, hf, l2⟩⟩, dv, .str _ s1 s2⟩
        | none =>
          rw [hf] at h'
          cases h'
          exact ⟨.non, ⟨fs, ⟨C, a, rfl, k1, rfl, ha⟩, l1, .inr ⟨hf, rfl⟩⟩, .non, .str _ s1 s2⟩
    | _ => cases h
theorem told_ends {G H G' H' H'' : Hp} {p : Addr} {t : List Nat} {v : V} {d : D} {Q : VK} (g : Grow z G H G' H') (q : VQ K z G H Q (.tup [.str t, d])) (dt : Den K z G' (.str (sOf t)) (.str t)) (dv : Den K z G' v d) (s : Same H' H'') (np : H'' p = none) : Q (.ref p) (upd H'' p (.tup [.str (sOf t), v])) := by
  have g2 := g.trans (Grow.same g.vw s)
  exact q _ _ _ (g2.trans (.new g2.vw np)) (.tup (.inl upd_same) (.cons (dt.same (same_new (g2.vw.sub.free np))) (.one (dv.same (same_new (g2.vw.sub.free np))))) (show 2 ≤ big by decide))
theorem conv_why (hk : ∀ c ∈ errs, ∀ C, z.cm c = some C → ErrK K C ∧ PySem.W.exmAny K (.ref C) cs = some true) : Conv K z (TWhy K cs) (whyW errs) := by
  intro tl m G H Q vw ask h
  refine ask _ (fun x => x.cls ∈ errs ∧ ∃ t v, toldD x = some (t, v) ∧ VQ K z G H Q (.tup [.str t, v])) _ (fun x cls dx H' G' hx g xd => ?_) (m.mono (fun d q v H' G' g dv => ⟨show 2 ≤ sizeLine by decide, fun p np => ?_⟩) (fun _ q => q) h)
  · obtain ⟨h1, t, d, h2, q⟩ := hx
    obtain ⟨k1, v, k2, k3, k4⟩ := told_den hk h1 h2 xd
    exact ⟨k1, sOf t, v, k2, fun H'' p s np => told_ends g q k4 k3 s np⟩
  · exact told_ends g q (.str [] (Nat.zero_le _) fun _ z => (nomatch z)) .non (Same.refl _) np
theorem conv_got (hk : ∀ c ∈ errs, ∀ C, z.cm c = some C → ErrK K C ∧ PySem.W.exmAny K (.ref C) cs = some true) : Conv K z (TGot K cs) (gotW errs) := by
  intro tl m G H Q vw ask h
  refine ask _ (fun x => x.cls ∈ errs ∧ ∃ t v, toldD x = some (t, v) ∧ VQ K z G H Q (.tup [.str t, v])) _ (fun x cls dx H' G' hx g xd => ?_) (m.mono (fun d q v H' G' g dv => ⟨show 2 ≤ sizeLine by decide, fun p np => ?_⟩) (fun _ q => q) h)
  · obtain ⟨h1, t, d, h2, q⟩ := hx
    obtain ⟨k1, v, k2, k3, k4⟩ := told_den hk h1 h2 xd
    exact ⟨k1, sOf t, v, k2, fun H'' p s np => told_ends g q k4 k3 s np⟩
  · exact told_ends g q (.str [118, 97, 108, 117, 101] (by decide) (by decide)) dv (Same.refl _) np
end
end Rg

set_option Elab.async false
set_option linter.all false
set_option maxRecDepth 100000
set_option maxHeartbeats 4500000
namespace Rg
open PySem PySem.Spec PyProof.Rows LamX L2
def whysM (ms : Nat → W D) : List D → W D := runF 2 fun env => W.bind (W.bind (W.bind (lk env 0) seqOf) fun ds => W.bind (compW (turnW [1] (fun d env => W.pure (env.set 1 (some d))) (fun _ => W.pure true) (fun env => W.bind (W.bind (lk env 1) fun d => W.bind (W.pure []) fun ds => W.pure (d :: ds)) (one1 (askW (whyW ["InvalidSet"]) ms))) env) ds) fun ys => W.pure (.lst ys)) fun d => W.pure (.rt d)
def m_copied : Nat → List D → W D
  | 0 => fun _ => W.fail
  | n + 1 => runF 2 fun env => seqF (W.bind (W.bind (W.bind (W.bind (lk env 0) fun d => W.bind (W.bind (W.pure (.ty "list")) fun d => W.bind (W.pure []) fun ds => W.pure (d :: ds)) fun ds => W.pure (d :: ds)) (two2 isiD)) truD) fun k => iteW k (W.bind (W.bind (W.bind (lk env 0) seqOf) fun ds => W.bind (compW (turnW [1] (fun d env => W.pure (env.set 1 (some d))) (fun _ => W.pure true) (fun env => W.bind (W.bind (lk env 1) fun d => W.bind (W.pure []) fun ds => W.pure (d :: ds)) (callM 1 (m_copied n))) env) ds) fun ys => W.pure (.lst ys)) fun d => W.pure (.rt d)) (W.pure (.nx env))) fun env => seqF (W.bind (W.bind (W.bind (W.bind (lk env 0) fun d => W.bind (W.bind (W.pure (.ty "tuple")) fun d => W.bind (W.pure []) fun ds => W.pure (d :: ds)) fun ds => W.pure (d :: ds)) (two2 isiD)) truD) fun k => iteW k (W.bind (W.bind (W.bind (W.bind (W.bind (lk env 0) seqOf) fun ds => W.bind (compW (turnW [1] (fun d env => W.pure (env.set 1 (some d))) (fun _ => W.pure true) (fun env => W.bind (W.bind (lk env 1) fun d => W.bind (W.pure []) fun ds => W.pure (d :: ds)) (callM 1 (m_copied n))) env) ds) fun ys => W.pure (.lst ys)) fun d => W.bind (W.pure []) fun ds => W.pure (d :: ds)) (one1 tupleD)) fun d => W.pure (.rt d)) (W.pure (.nx env))) fun env => W.bind (lk env 0) fun d => W.pure (.rt d)
theorem ok_copied {P : Program} {w : World} {K : PySem.W.Frag} {mg : Str → Option Value} {base : Heap} (T : Top P K mg) : ∀ n, FnM P w K mg base T.cm (n + 0) T.a_copied T.fd_copied ["value"] (m_copied n)
  | 0 => fnM_none
  | n + 1 => by
    have G_self := ok_copied (P := P) (w := w) (base := base) T n
    have e : n + 1 + 0 = (n + 0) + 1 := by omega
    rw [e]
    exact fnM (k := n + 0) T.F_copied sc_copied fun cdv A outer s H bg J hr hx hpo => (sv_cons (sv_if (tv_val (ev_callB ca_isi (by rfl) T.m_isinstance (by decide +kernel) (av_cons (ev_var 0) (av_cons (ev_ty (by rfl) T.m_list (by decide +kernel)) av_nil)))) (sv_one (sv_ret (ev_lc (own := [("item", 1)]) rfl sc_copied.nd (iv_seq (ev_var 0)) (blkOk_by (own := [("item", 1)]) (N := ["value", "item"]) (sc := defScope s_copied) (by decide +kernel)) (fun _ _ _ _ _ => (gv_name 1 sc_copied.nd rfl (Or.inl rfl))) (fun _ _ _ _ _ => ts_nil) (fun _ _ _ _ _ => (ev_call G_self (hr.mono (by omega)) (by rfl) T.g_copied T.F_copied.kp T.b_copied passNo (av_cons (ev_var 1) av_nil)))))) sv_nil) (sv_cons (sv_if (tv_val (ev_callB ca_isi (by rfl) T.m_isinstance (by decide +kernel) (av_cons (ev_var 0) (av_cons (ev_ty (by rfl) T.m_tuple (by decide +kernel)) av_nil)))) (sv_one (sv_ret (ev_callTy ca_tuple (by rfl) T.m_tuple (by decide +kernel) (av_cons (ev_lc (own := [("item", 1)]) rfl sc_copied.nd (iv_seq (ev_var 0)) (blkOk_by (own := [("item", 1)]) (N := ["value", "item"]) (sc := defScope s_copied) (by decide +kernel)) (fun _ _ _ _ _ => (gv_name 1 sc_copied.nd rfl (Or.inl rfl))) (fun _ _ _ _ _ => ts_nil) (fun _ _ _ _ _ => (ev_call G_self (hr.mono (by omega)) (by rfl) T.g_copied T.F_copied.kp T.b_copied passNo (av_cons (ev_var 1) av_nil)))) av_nil)))) sv_nil) (sv_one (sv_ret (ev_var 0)))))
def m_E_InvalidSet : D → W D := fun d => (fun env => W.bind (W.bind (lk env 1) fun d => W.bind (W.pure []) fun ds => W.pure (d :: ds)) (callM 1 (m_copied 3))) ([none, some d] : Ev)
theorem ok_E_InvalidSet {P : Program} {w : World} {K : PySem.W.Frag} {mg : Str → Option Value} {base : Heap} (T : Top P K mg) : FnOk P w K mg base CX0 4 T.a_InvalidSet T.fd_InvalidSet ["self", "given"] (spE K T.cm T.C_InvalidSet "InvalidSet" "given" repOk m_E_InvalidSet) :=
  err_data (k := 3) T.er_InvalidSet sc_M_InvalidSet_init rfl rfl T.m_super (fun _ => rfl) (fun _ => rfl) (fun _ => rfl) (fun _ => rfl) (fun _ => rfl) (fun _ => rfl) T.nt_InvalidSet T.nf_InvalidSet (fun A outer s H hr => words_repr hr.units0 rfl (Or.inl rfl)) (fun A outer s H bg G0 H0 hr => (ev_call (ok_copied T 3) (hr.mono (by decide)) (by rfl) T.g_copied T.F_copied.kp T.b_copied passNo (av_cons (ev_var 1) av_nil)))
def m_is_number : List D → W D := runF 1 fun env => W.bind (W.bind (W.bind (W.bind (W.bind (lk env 0) fun d => W.bind (W.bind (W.pure (.ty "int")) fun d => W.bind (W.pure []) fun ds => W.pure (d :: ds)) fun ds => W.pure (d :: ds)) (two2 isiD)) ofB) fun k => iteW k (W.bind (W.bind (W.bind (W.bind (lk env 0) fun d => W.bind (W.bind (W.pure (.ty "bool")) fun d => W.bind (W.pure []) fun ds => W.pure (d :: ds)) fun ds => W.pure (d :: ds)) (two2 isiD)) ofB) fun k => W.pure (.bl (!k))) (W.pure (.bl false))) fun d => W.pure (.rt d)
theorem ok_is_number {P : Program} {w : World} {K : PySem.W.Frag} {mg : Str → Option Value} {base : Heap} (T : Top P K mg) : FnM P w K mg base T.cm 1 T.a_is_number T.fd_is_number ["value"] m_is_number :=
  fnM (k := 0) T.F_is_number sc_is_number fun cdv A outer s H bg J hr hx hpo => (sv_one (sv_ret (ev_and (ev_callB ca_isi (by rfl) T.m_isinstance (by decide +kernel) (av_cons (ev_var 0) (av_cons (ev_ty (by rfl) T.m_int (by decide +kernel)) av_nil))) (ev_one (ev_not (ev_callB ca_isi (by rfl) T.m_isinstance (by decide +kernel) (av_cons (ev_var 0) (av_cons (ev_ty (by rfl) T.m_bool (by decide +kernel)) av_nil))))))))
def m_is_ascending : List D → W D := runF 2 fun env => W.bind (W.bind (W.bind (W.bind (W.bind (W.bind (W.pure (.int 1)) fun d => W.bind (W.bind (W.bind (W.bind (lk env 0) fun d => W.bind (W.pure []) fun ds => W.pure (d :: ds)) (one1 lenD)) fun d => W.bind (W.pure []) fun ds => W.pure (d :: ds)) fun ds => W.pure (d :: ds)) rng2) fun ds => W.bind (compW (turnW [1] (fun d env => W.pure (env.set 1 (some d))) (fun _ => W.pure true) (fun env => W.bind (W.bind (lk env 0) fun d => W.bind (W.bind (lk env 1) fun d => W.bind (W.pure (.int 1)) fun e => (intOp0 fun i j => .int (i - j)) d e) fun e => ixD d e) fun d => W.bind (W.bind (lk env 0) fun d => W.bind (lk env 1) fun e => ixD d e) fun e => strLt d e) env) ds) fun ys => W.pure (.lst ys)) fun d => W.bind (W.pure []) fun ds => W.pure (d :: ds)) (one1 (allB fun bs => bs.all id))) fun d => W.pure (.rt d)
theorem ok_is_ascending {P : Program} {w : World} {K : PySem.W.Frag} {mg : Str → Option Value} {base : Heap} (T : Top P K mg) : FnM P w K mg base T.cm 1 T.a_is_ascending T.fd_is_ascending ["text"] m_is_ascending :=
  fnM (k := 0) T.F_is_ascending sc_is_ascending fun cdv A outer s H bg J hr hx hpo => (sv_one (sv_ret (ev_callB (ca_all rfl) (by rfl) T.m_all (by decide +kernel) (av_cons (ev_lc (own := [("at", 1)]) rfl sc_is_ascending.nd (iv_range2 (by rfl) T.m_range (av_cons ev_int (av_cons (ev_callB ca_len (by rfl) T.m_len PySem.boot_len (av_cons (ev_var 0) av_nil)) av_nil))) (blkOk_by (own := [("at", 1)]) (N := ["text", "at"]) (sc := defScope s_is_ascending) (by decide +kernel)) (fun _ _ _ _ _ => (gv_name 1 sc_is_ascending.nd rfl (Or.inl rfl))) (fun _ _ _ _ _ => ts_nil) (fun _ _ _ _ _ => (ev_cmp od_lt_str (ev_ix (ev_var 0) (ev_op od_sub (ev_var 1) ev_int)) (ev_ix (ev_var 0) (ev_var 1))))) av_nil))))
def m_is_within : List D → W D := runF 3 fun env => W.bind (W.bind (W.bind (W.bind (W.bind (lk env 0) seqOf) fun ds => W.bind (compW (turnW [2] (fun d env => W.pure (env.set 2 (some d))) (fun _ => W.pure true) (fun env => W.bind (lk env 2) fun d => W.bind (lk env 1) fun e => (inD false) d e) env) ds) fun ys => W.pure (.lst ys)) fun d => W.bind (W.pure []) fun ds => W.pure (d :: ds)) (one1 (allB fun bs => bs.all id))) fun d => W.pure (.rt d)
theorem ok_is_within {P : Program} {w : World} {K : PySem.W.Frag} {mg : Str → Option Value} {base : Heap} (T : Top P K mg) : FnM P w K mg base T.cm 1 T.a_is_within T.fd_is_within ["one", "other"] m_is_within :=
  fnM (k := 0) T.F_is_within sc_is_within fun cdv A outer s H bg J hr hx hpo => (sv_one (sv_ret (ev_callB (ca_all rfl) (by rfl) T.m_all (by decide +kernel) (av_cons (ev_lc (own := [("letter", 2)]) rfl sc_is_within.nd (iv_seq (ev_var 0)) (blkOk_by (own := [("letter", 2)]) (N := ["one", "other", "letter"]) (sc := defScope s_is_within) (by decide +kernel)) (fun _ _ _ _ _ => (gv_name 2 sc_is_within.nd rfl (Or.inl rfl))) (fun _ _ _ _ _ => ts_nil) (fun _ _ _ _ _ => (ev_cmp (od_in hr) (ev_var 2) (ev_var 1)))) av_nil))))
def m_is_set : List D → W D := runF 2 fun env => W.bind (W.bind (W.bind (W.bind (W.bind (lk env 0) fun d => W.bind (W.bind (W.pure (.ty "str")) fun d => W.bind (W.pure []) fun ds => W.pure (d :: ds)) fun ds => W.pure (d :: ds)) (two2 isiD)) ofB) fun k => iteW k (W.bind (W.bind (W.bind (W.bind (lk env 0) fun d => W.bind (W.pure []) fun ds => W.pure (d :: ds)) (callM 1 m_is_ascending)) ofB) fun k => iteW k (W.bind (W.bind (lk env 0) fun d => W.bind (W.bind (lk env 1) fun d => W.bind (W.pure []) fun ds => W.pure (d :: ds)) fun ds => W.pure (d :: ds)) (callM 2 m_is_within)) (W.pure (.bl false))) (W.pure (.bl false))) fun d => W.pure (.rt d)
theorem ok_is_set {P : Program} {w : World} {K : PySem.W.Frag} {mg : Str → Option Value} {base : Heap} (T : Top P K mg) : FnM P w K mg base T.cm 2 T.a_is_set T.fd_is_set ["value", "lamps"] m_is_set :=
  fnM (k := 1) T.F_is_set sc_is_set fun cdv A outer s H bg J hr hx hpo => (sv_one (sv_ret (ev_and (ev_callB ca_isi (by rfl) T.m_isinstance (by decide +kernel) (av_cons (ev_var 0) (av_cons (ev_ty (by rfl) T.m_str (by decide +kernel)) av_nil))) (ev_and (ev_call (ok_is_ascending T) (hr.mono (by decide)) (by rfl) T.g_is_ascending T.F_is_ascending.kp T.b_is_ascending hx (av_cons (ev_var 0) av_nil)) (ev_one (ev_call (ok_is_within T) (hr.mono (by decide)) (by rfl) T.g_is_within T.F_is_within.kp T.b_is_within hx (av_cons (ev_var 0) (av_cons (ev_var 1) av_nil))))))))
def m_is_lamps : List D → W D := runF 1 fun env => W.bind (W.bind (W.bind (W.bind (W.bind (lk env 0) fun d => W.bind (W.bind (W.pure (.str [97, 98, 99, 100, 101, 102, 103, 104, 105, 106, 107, 108, 109, 110, 111, 112, 113, 114, 115, 116, 117, 118, 119, 120, 121, 122])) fun d => W.bind (W.pure []) fun ds => W.pure (d :: ds)) fun ds => W.pure (d :: ds)) (callM 2 m_is_set)) ofB) fun k => iteW k (W.bind (W.pure (.int 1)) fun d => W.bind (W.bind (W.bind (lk env 0) fun d => W.bind (W.pure []) fun ds => W.pure (d :: ds)) (one1 lenD)) fun e => W.bind (W.bind ((intOp0 fun i j => .bl (decide (i ≤ j))) d e) ofB) fun k => iteW k (W.bind (W.pure (.int 4)) fun f => (intOp0 fun i j => .bl (decide (i ≤ j))) e f) (W.pure (.bl false))) (W.pure (.bl false))) fun d => W.pure (.rt d)
theorem ok_is_lamps {P : Program} {w : World} {K : PySem.W.Frag} {mg : Str → Option Value} {base : Heap} (T : Top P K mg) : FnM P w K mg base T.cm 3 T.a_is_lamps T.fd_is_lamps ["value"] m_is_lamps :=
  fnM (k := 2) T.F_is_lamps sc_is_lamps fun cdv A outer s H bg J hr hx hpo => (sv_one (sv_ret (ev_and (ev_call (ok_is_set T) (hr.mono (by decide)) (by rfl) T.g_is_set T.F_is_set.kp T.b_is_set hx (av_cons (ev_var 0) (av_cons (ev_str1 [97, 98, 99, 100, 101, 102, 103, 104, 105, 106, 107, 108, 109, 110, 111, 112, 113, 114, 115, 116, 117, 118, 119, 120, 121, 122] (by rfl) T.c_LETTERS ⟨_, rfl⟩) av_nil))) (ev_one (ev_chain od_le od_le ev_int (ev_callB ca_len (by rfl) T.m_len PySem.boot_len (av_cons (ev_var 0) av_nil)) (ev_int1 (i := 4) (by rfl) T.c_MOST_LAMPS ⟨_, rfl⟩))))))
def m_check_lamps : List D → W D := runF 1 fun env => W.bind (W.bind (W.bind (W.bind (W.bind (lk env 0) fun d => W.bind (W.pure []) fun ds => W.pure (d :: ds)) (callM 1 m_is_lamps)) truD) fun k => W.pure (!k)) fun k => iteW k (W.fail) (W.pure (.nx env))
theorem ok_check_lamps {P : Program} {w : World} {K : PySem.W.Frag} {mg : Str → Option Value} {base : Heap} (T : Top P K mg) : FnM P w K mg base T.cm 4 T.a_check_lamps T.fd_check_lamps ["value"] m_check_lamps :=
  fnM (k := 3) T.F_check_lamps sc_check_lamps fun cdv A outer s H bg J hr hx hpo => (sv_one (sv_if (tv_not (tv_val (ev_call (ok_is_lamps T) (hr.mono (by decide)) (by rfl) T.g_is_lamps T.F_is_lamps.kp T.b_is_lamps hx (av_cons (ev_var 0) av_nil)))) (sv_one sv_never) sv_nil))
def m_listed_sets : List D → W D := runF 4 fun env => seqF (W.bind (W.bind (W.bind (W.pure (.str [])) fun d => W.bind (W.pure []) fun ds => W.pure (d :: ds)) mkLst) fun d => W.pure (.nx (env.set 1 (some d)))) fun env => seqF (W.bind (W.bind (lk env 0) seqOf) fun ds => forW (fun x env => W.bind (W.noX ((fun d env => W.pure (env.set 2 (some d))) x env)) fun env => W.bind (W.bind (W.bind (W.bind (lk env 1) itemsOf) fun xs => W.bind (W.bind (W.bind (W.bind (W.bind (lk env 1) seqOf) fun ds => W.bind (compW (turnW [3] (fun d env => W.pure (env.set 3 (some d))) (fun _ => W.pure true) (fun env => W.bind (lk env 3) fun d => W.bind (lk env 2) fun e => addD d e) env) ds) fun ys => W.pure (.lst ys)) itemsOf) fun xs => W.bind (W.pure []) fun ds => W.pure (xs ++ ds)) fun ds => W.pure (xs ++ ds)) mkLst) fun d => W.pure (.nx (env.set 1 (some d)))) ds env) fun env => W.bind (W.bind (W.bind (W.bind (lk env 1) fun d => W.bind (W.pure []) fun ds => W.pure (d :: ds)) (one1 (sortD ordS))) (sortD ordL)) fun d => W.pure (.rt d)
theorem ok_listed_sets {P : Program} {w : World} {K : PySem.W.Frag} {mg : Str → Option Value} {base : Heap} (T : Top P K mg) : FnM P w K mg base T.cm 1 T.a_listed_sets T.fd_listed_sets ["lamps"] m_listed_sets :=
  fnM (k := 0) T.F_listed_sets sc_listed_sets fun cdv A outer s H bg J hr hx hpo => (sv_cons (sv_set 1 sc_listed_sets.nd rfl (Or.inl rfl) (ev_lst (av_cons (ev_str []) av_nil))) (sv_cons (sv_for hpo rfl (iv_seq (ev_var 0)) (gv_name 2 sc_listed_sets.nd rfl (Or.inr rfl)) (sv_one (sv_set 1 sc_listed_sets.nd rfl (Or.inl rfl) (ev_lst (av_star (ev_var 1) (av_star (ev_lc (own := [("kept", 3)]) rfl sc_listed_sets.nd (iv_seq (ev_var 1)) (blkOk_by (own := [("kept", 3)]) (N := ["lamps", "sets", "letter", "kept"]) (sc := defScope s_listed_sets) (by decide +kernel)) (fun _ _ _ _ _ => (gv_name 3 sc_listed_sets.nd rfl (Or.inl rfl))) (fun _ _ _ _ _ => ts_nil) (fun _ _ _ _ _ => (ev_op od_add (ev_var 3) (ev_var 2)))) av_nil)))))) (sv_one (sv_ret (ev_srtLen hr (by rfl) T.m_sorted (by rfl) T.m_len (ev_callB (ca_srt hr) (by rfl) T.m_sorted (by decide +kernel) (av_cons (ev_var 1) av_nil)))))))
def m_inner_sentences : List D → W D := runF 1 fun env => W.bind (W.bind (W.bind (W.bind (W.bind (W.bind (lk env 0) fun d => W.bind (W.pure (.int 0)) fun e => ixD d e) fun d => W.bind (W.pure (.str [110, 111, 116])) fun e => eqD d e) ofB) fun k => iteW k (W.pure true) (W.bind (W.bind (W.bind (lk env 0) fun d => W.bind (W.pure (.int 0)) fun e => ixD d e) fun d => W.bind (W.pure (.tup [.str [97, 110, 100], .str [111, 114]])) fun e => (inD false) d e) ofB)) fun k => iteW k (W.bind (lk env 0) fun d => W.bind (W.bind (W.pure (.int 1)) ofI) fun l => W.bind (W.pure none) fun h => slD l h d) (W.bind (W.pure []) mkTup)) fun d => W.pure (.rt d)
theorem ok_inner_sentences {P : Program} {w : World} {K : PySem.W.Frag} {mg : Str → Option Value} {base : Heap} (T : Top P K mg) : FnM P w K mg base T.cm 1 T.a_inner_sentences T.fd_inner_sentences ["part"] m_inner_sentences :=
  fnM (k := 0) T.F_inner_sentences sc_inner_sentences fun cdv A outer s H bg J hr hx hpo => (sv_one (sv_ret (ev_if (TW.tv (tw_or (tv_cmp (od_eq hr) (ev_ix (ev_var 0) ev_int) (ev_str [110, 111, 116])) (tw_or1 (tv_cmp (od_in hr) (ev_ix (ev_var 0) ev_int) (ev_top (v := .ref T.a_JOINING_WORDS) (by rfl) T.c_JOINING_WORDS rfl (fun G => T.den_JOINING_WORDS G)))))) (ev_slice (ev_var 0) (ov_some ev_int) ov_none) (ev_tup av_nil))))
def m_next_parts : List D → W D := runF 1 fun env => W.bind (W.bind (W.bind (W.bind (W.bind (W.bind (W.bind (lk env 0) fun d => W.bind (W.pure (.int 0)) fun e => ixD d e) fun d => W.bind (W.pure []) fun ds => W.pure (d :: ds)) (callM 1 m_inner_sentences)) itemsOf) fun xs => W.bind (W.bind (W.bind (W.bind (lk env 0) fun d => W.bind (W.bind (W.pure (.int 1)) ofI) fun l => W.bind (W.pure none) fun h => slD l h d) itemsOf) fun xs => W.bind (W.pure []) fun ds => W.pure (xs ++ ds)) fun ds => W.pure (xs ++ ds)) mkLst) fun d => W.pure (.rt d)
theorem ok_next_parts {P : Program} {w : World} {K : PySem.W.Frag} {mg : Str → Option Value} {base : Heap} (T : Top P K mg) : FnM P w K mg base T.cm 2 T.a_next_parts T.fd_next_parts ["waiting"] m_next_parts :=
  fnM (k := 1) T.F_next_parts sc_next_parts fun cdv A outer s H bg J hr hx hpo => (sv_one (sv_ret (ev_lst (av_star (ev_call (ok_inner_sentences T) (hr.mono (by decide)) (by rfl) T.g_inner_sentences T.F_inner_sentences.kp T.b_inner_sentences hx (av_cons (ev_ix (ev_var 0) ev_int) av_nil)) (av_star (ev_slice (ev_var 0) (ov_some ev_int) ov_none) av_nil)))))
def m_is_count : List D → W D := runF 1 fun env => W.bind (W.bind (W.bind (W.bind (W.bind (lk env 0) fun d => W.bind (W.pure []) fun ds => W.pure (d :: ds)) (callM 1 m_is_number)) ofB) fun k => iteW k (W.bind (W.pure (.int 1)) fun d => W.bind (lk env 0) fun e => W.bind (W.bind ((intOp0 fun i j => .bl (decide (i ≤ j))) d e) ofB) fun k => iteW k (W.bind (W.pure (.int 4)) fun f => (intOp0 fun i j => .bl (decide (i ≤ j))) e f) (W.pure (.bl false))) (W.pure (.bl false))) fun d => W.pure (.rt d)
theorem ok_is_count {P : Program} {w : World} {K : PySem.W.Frag} {mg : Str → Option Value} {base : Heap} (T : Top P K mg) : FnM P w K mg base T.cm 2 T.a_is_count T.fd_is_count ["value"] m_is_count :=
  fnM (k := 1) T.F_is_count sc_is_count fun cdv A outer s H bg J hr hx hpo => (sv_one (sv_ret (ev_and (ev_call (ok_is_number T) (hr.mono (by decide)) (by rfl) T.g_is_number T.F_is_number.kp T.b_is_number hx (av_cons (ev_var 0) av_nil)) (ev_one (ev_chain od_le od_le ev_int (ev_var 0) (ev_int1 (i := 4) (by rfl) T.c_MOST_COUNT ⟨_, rfl⟩))))))
def m_has_form : List D → W D := runF 5 fun env => seqF (W.bind (W.bind (W.bind (W.bind (W.bind (W.bind (lk env 1) fun d => W.bind (W.bind (W.pure (.ty "tuple")) fun d => W.bind (W.pure []) fun ds => W.pure (d :: ds)) fun ds => W.pure (d :: ds)) (two2 isiD)) truD) fun k => W.pure (!k)) fun k => iteW k (W.pure true) (W.bind (W.bind (W.bind (W.bind (lk env 1) fun d => W.bind (W.pure []) fun ds => W.pure (d :: ds)) (one1 lenD)) fun d => W.bind (W.pure (.int 0)) fun e => eqD d e) ofB)) fun k => iteW k (W.bind (W.pure (.bl false)) fun d => W.pure (.rt d)) (W.pure (.nx env))) fun env => seqF (W.bind (lk env 1) fun d => W.bind (headT d) fun p => W.pure (.nx ((env.set 2 (some p.1)).set 3 (some (.lst p.2))))) fun env => seqF (W.bind (W.bind (W.bind (lk env 2) fun d => W.bind (W.pure (.str [108, 105, 116])) fun e => eqD d e) ofB) fun k => iteW k (W.bind (W.bind (W.bind (W.bind (W.bind (W.bind (lk env 3) fun d => W.bind (W.pure []) fun ds => W.pure (d :: ds)) (one1 lenD)) fun d => W.bind (W.pure (.int 1)) fun e => eqD d e) ofB) fun k => iteW k (W.bind (W.bind (W.bind (W.bind (W.bind (lk env 3) fun d => W.bind (W.pure (.int 0)) fun e => ixD d e) fun d => W.bind (W.bind (lk env 0) fun d => W.bind (W.pure []) fun ds => W.pure (d :: ds)) fun ds => W.pure (d :: ds)) (callM 2 m_is_set)) ofB) fun k => iteW k (W.bind (W.bind (W.bind (W.bind (lk env 3) fun d => W.bind (W.pure (.int 0)) fun e => ixD d e) fun d => W.bind (W.pure []) fun ds => W.pure (d :: ds)) (one1 lenD)) fun d => W.bind (W.pure (.int 1)) fun e => eqD d e) (W.pure (.bl false))) (W.pure (.bl false))) fun d => W.pure (.rt d)) (W.pure (.nx env))) fun env => seqF (W.bind (W.bind (W.bind (lk env 2) fun d => W.bind (W.pure (.str [108, 101, 97, 115, 116])) fun e => eqD d e) ofB) fun k => iteW k (W.bind (W.bind (W.bind (W.bind (W.bind (W.bind (lk env 3) fun d => W.bind (W.pure []) fun ds => W.pure (d :: ds)) (one1 lenD)) fun d => W.bind (W.pure (.int 2)) fun e => eqD d e) ofB) fun k => iteW k (W.bind (W.bind (W.bind (W.bind (W.bind (lk env 3) fun d => W.bind (W.pure (.int 0)) fun e => ixD d e) fun d => W.bind (W.pure []) fun ds => W.pure (d :: ds)) (callM 1 m_is_count)) ofB) fun k => iteW k (W.bind (W.bind (W.bind (lk env 3) fun d => W.bind (W.pure (.int 1)) fun e => ixD d e) fun d => W.bind (W.bind (lk env 0) fun d => W.bind (W.pure []) fun ds => W.pure (d :: ds)) fun ds => W.pure (d :: ds)) (callM 2 m_is_set)) (W.pure (.bl false))) (W.pure (.bl false))) fun d => W.pure (.rt d)) (W.pure (.nx env))) fun env => seqF (W.bind (W.bind (W.bind (lk env 2) fun d => W.bind (W.pure (.str [115, 101, 116, 115])) fun e => eqD d e) ofB) fun k => iteW k (W.bind (W.bind (W.bind (W.bind (W.bind (W.bind (lk env 3) fun d => W.bind (W.pure []) fun ds => W.pure (d :: ds)) (one1 lenD)) fun d => W.bind (W.pure (.int 16)) fun e => (intOp0 fun i j => .bl (decide (i ≤ j))) d e) ofB) fun k => iteW k (W.bind (W.bind (W.bind (W.bind (lk env 3) seqOf) fun ds => W.bind (compW (turnW [4] (fun d env => W.pure (env.set 4 (some d))) (fun _ => W.pure true) (fun env => W.bind (W.bind (lk env 4) fun d => W.bind (W.bind (lk env 0) fun d => W.bind (W.pure []) fun ds => W.pure (d :: ds)) fun ds => W.pure (d :: ds)) (callM 2 m_is_set)) env) ds) fun ys => W.pure (.lst ys)) fun d => W.bind (W.pure []) fun ds => W.pure (d :: ds)) (one1 (allB fun bs => bs.all id))) (W.pure (.bl false))) fun d => W.pure (.rt d)) (W.pure (.nx env))) fun env => seqF (W.bind (W.bind (W.bind (lk env 2) fun d => W.bind (W.pure (.str [110, 111, 116])) fun e => eqD d e) ofB) fun k => iteW k (W.bind (W.bind (W.bind (W.bind (lk env 3) fun d => W.bind (W.pure []) fun ds => W.pure (d :: ds)) (one1 lenD)) fun d => W.bind (W.pure (.int 1)) fun e => eqD d e) fun d => W.pure (.rt d)) (W.pure (.nx env))) fun env => W.bind (W.bind (W.bind (W.bind (lk env 2) fun d => W.bind (W.pure (.tup [.str [97, 110, 100], .str [111, 114]])) fun e => (inD false) d e) ofB) fun k => iteW k (W.bind (W.pure (.int 2)) fun d => W.bind (W.bind (W.bind (lk env 3) fun d => W.bind (W.pure []) fun ds => W.pure (d :: ds)) (one1 lenD)) fun e => W.bind (W.bind ((intOp0 fun i j => .bl (decide (i ≤ j))) d e) ofB) fun k => iteW k (W.bind (W.pure (.int 4)) fun f => (intOp0 fun i j => .bl (decide (i ≤ j))) e f) (W.pure (.bl false))) (W.pure (.bl false))) fun d => W.pure (.rt d)
theorem ok_has_form {P : Program} {w : World} {K : PySem.W.Frag} {mg : Str → Option Value} {base : Heap} (T : Top P K mg) : FnM P w K mg base T.cm 3 T.a_has_form T.fd_has_form ["lamps", "value"] m_has_form :=
  fnM (k := 2) T.F_has_form sc_has_form fun cdv A outer s H bg J hr hx hpo => (sv_cons (sv_if (TW.tv (tw_or (tv_not (tv_val (ev_callB ca_isi (by rfl) T.m_isinstance (by decide +kernel) (av_cons (ev_var 1) (av_cons (ev_ty (by rfl) T.m_tuple (by decide +kernel)) av_nil))))) (tw_or1 (tv_cmp (od_eq hr) (ev_callB ca_len (by rfl) T.m_len PySem.boot_len (av_cons (ev_var 1) av_nil)) ev_int)))) (sv_one (sv_ret ev_bl)) sv_nil) (sv_cons (sv_starU 2 3 rfl sc_has_form.nd rfl rfl (Or.inl rfl) (Or.inl rfl) (ev_var 1)) (sv_cons (sv_if (tv_cmp (od_eq hr) (ev_var 2) (ev_str [108, 105, 116])) (sv_one (sv_ret (ev_and (ev_cmp (od_eq hr) (ev_callB ca_len (by rfl) T.m_len PySem.boot_len (av_cons (ev_var 3) av_nil)) ev_int) (ev_and (ev_call (ok_is_set T) (hr.mono (by decide)) (by rfl) T.g_is_set T.F_is_set.kp T.b_is_set hx (av_cons (ev_ix (ev_var 3) ev_int) (av_cons (ev_var 0) av_nil))) (ev_one (ev_cmp (od_eq hr) (ev_callB ca_len (by rfl) T.m_len PySem.boot_len (av_cons (ev_ix (ev_var 3) ev_int) av_nil)) ev_int)))))) sv_nil) (sv_cons (sv_if (tv_cmp (od_eq hr) (ev_var 2) (ev_str [108, 101, 97, 115, 116])) (sv_one (sv_ret (ev_and (ev_cmp (od_eq hr) (ev_callB ca_len (by rfl) T.m_len PySem.boot_len (av_cons (ev_var 3) av_nil)) ev_int) (ev_and (ev_call (ok_is_count T) (hr.mono (by decide)) (by rfl) T.g_is_count T.F_is_count.kp T.b_is_count hx (av_cons (ev_ix (ev_var 3) ev_int) av_nil)) (ev_one (ev_call (ok_is_set T) (hr.mono (by decide)) (by rfl) T.g_is_set T.F_is_set.kp T.b_is_set hx (av_cons (ev_ix (ev_var 3) ev_int) (av_cons (ev_var 0) av_nil)))))))) sv_nil) (sv_cons (sv_if (tv_cmp (od_eq hr) (ev_var 2) (ev_str [115, 101, 116, 115])) (sv_one (sv_ret (ev_and (ev_cmp od_le (ev_callB ca_len (by rfl) T.m_len PySem.boot_len (av_cons (ev_var 3) av_nil)) (ev_int1 (i := 16) (by rfl) T.c_MOST_LISTED ⟨_, rfl⟩)) (ev_one (ev_callB (ca_all rfl) (by rfl) T.m_all (by decide +kernel) (av_cons (ev_lc (own := [("item", 4)]) rfl sc_has_form.nd (iv_seq (ev_var 3)) (blkOk_by (own := [("item", 4)]) (N := ["lamps", "value", "word", "rest", "item"]) (sc := defScope s_has_form) (by decide +kernel)) (fun _ _ _ _ _ => (gv_name 4 sc_has_form.nd rfl (Or.inl rfl))) (fun _ _ _ _ _ => ts_nil) (fun _ _ _ _ _ => (ev_call (ok_is_set T) (hr.mono (by decide)) (by rfl) T.g_is_set T.F_is_set.kp T.b_is_set passNo (av_cons (ev_var 4) (av_cons (ev_var 0) av_nil))))) av_nil)))))) sv_nil) (sv_cons (sv_if (tv_cmp (od_eq hr) (ev_var 2) (ev_str [110, 111, 116])) (sv_one (sv_ret (ev_cmp (od_eq hr) (ev_callB ca_len (by rfl) T.m_len PySem.boot_len (av_cons (ev_var 3) av_nil)) ev_int))) sv_nil) (sv_one (sv_ret (ev_and (ev_cmp (od_in hr) (ev_var 2) (ev_top (v := .ref T.a_JOINING_WORDS) (by rfl) T.c_JOINING_WORDS rfl (fun G => T.den_JOINING_WORDS G))) (ev_one (ev_chain od_le od_le (ev_int1 (i := 2) (by rfl) T.c_FEWEST_JOINED ⟨_, rfl⟩) (ev_callB ca_len (by rfl) T.m_len PySem.boot_len (av_cons (ev_var 3) av_nil)) (ev_int1 (i := 4) (by rfl) T.c_MOST_JOINED ⟨_, rfl⟩))))))))))))
def m_check_sentence : List D → W D := runF 4 fun env => seqF (W.bind (W.bind (W.bind (lk env 0) fun d => W.bind (W.pure []) fun ds => W.pure (d :: ds)) (callM 1 m_check_lamps)) fun _ => W.pure (.nx env)) fun env => seqF (W.bind (W.bind (W.bind (lk env 1) fun d => W.bind (W.pure []) fun ds => W.pure (d :: ds)) mkLst) fun d => W.pure (.nx (env.set 2 (some d)))) fun env => seqF (W.bind (W.bind (W.bind (W.pure (.int 20)) fun d => W.bind (W.pure []) fun ds => W.pure (d :: ds)) rng1) fun ds => forW (fun x env => W.bind (W.noX ((fun d env => W.pure (env.set 3 (some d))) x env)) fun env => seqF (W.bind (W.bind (W.bind (W.bind (W.bind (lk env 0) fun d => W.bind (W.bind (W.bind (lk env 2) fun d => W.bind (W.pure (.int 0)) fun e => ixD d e) fun d => W.bind (W.pure []) fun ds => W.pure (d :: ds)) fun ds => W.pure (d :: ds)) (callM 2 m_has_form)) truD) fun k => W.pure (!k)) fun k => iteW k (W.fail) (W.pure (.nx env))) fun env => seqF (W.bind (W.bind (W.bind (lk env 2) fun d => W.bind (W.pure []) fun ds => W.pure (d :: ds)) (callM 1 m_next_parts)) fun d => W.pure (.nx (env.set 2 (some d)))) fun env => W.bind (W.bind (W.bind (W.bind (W.bind (lk env 2) fun d => W.bind (W.pure []) fun ds => W.pure (d :: ds)) (one1 lenD)) fun d => W.bind (W.pure (.int 0)) fun e => eqD d e) ofB) fun k => iteW k (W.pure (.rt .non)) (W.pure (.nx env))) ds env) fun env => W.fail
theorem ok_check_sentence {P : Program} {w : World} {K : PySem.W.Frag} {mg : Str → Option Value} {base : Heap} (T : Top P K mg) : FnM P w K mg base T.cm 5 T.a_check_sentence T.fd_check_sentence ["lamps", "value"] m_check_sentence :=
  fnM (k := 4) T.F_check_sentence sc_check_sentence fun cdv A outer s H bg J hr hx hpo => (sv_cons (sv_expr (ev_call (ok_check_lamps T) (hr.mono (by decide)) (by rfl) T.g_check_lamps T.F_check_lamps.kp T.b_check_lamps hx (av_cons (ev_var 0) av_nil))) (sv_cons (sv_set 2 sc_check_sentence.nd rfl (Or.inl rfl) (ev_lst (av_cons (ev_var 1) av_nil))) (sv_cons (sv_for hpo rfl (iv_range1 (by rfl) T.m_range (av_cons (ev_int1 (i := 20) (by rfl) T.c_MOST_PARTS ⟨_, rfl⟩) av_nil)) (gv_name 3 sc_check_sentence.nd rfl (Or.inl rfl)) (sv_cons (sv_if (tv_not (tv_val (ev_call (ok_has_form T) (hr.mono (by decide)) (by rfl) T.g_has_form T.F_has_form.kp T.b_has_form hx (av_cons (ev_var 0) (av_cons (ev_ix (ev_var 2) ev_int) av_nil))))) (sv_one sv_never) sv_nil) (sv_cons (sv_set 2 sc_check_sentence.nd rfl (Or.inl rfl) (ev_call (ok_next_parts T) (hr.mono (by decide)) (by rfl) T.g_next_parts T.F_next_parts.kp T.b_next_parts hx (av_cons (ev_var 2) av_nil))) (sv_one (sv_if (tv_cmp (od_eq hr) (ev_callB ca_len (by rfl) T.m_len PySem.boot_len (av_cons (ev_var 2) av_nil)) ev_int) (sv_one sv_retN) sv_nil))))) (sv_one sv_never))))
def m_sentence_holds : Nat → List D → W D
  | 0 => fun _ => W.fail
  | n + 1 => runF 7 fun env => seqF (W.bind (lk env 0) fun d => W.bind (headT d) fun p => W.pure (.nx ((env.set 2 (some p.1)).set 3 (some (.lst p.2))))) fun env => seqF (W.bind (W.bind (W.bind (lk env 2) fun d => W.bind (W.pure (.str [108, 105, 116])) fun e => eqD d e) ofB) fun k => iteW k (W.bind (W.bind (W.bind (lk env 3) fun d => W.bind (W.pure (.int 0)) fun e => ixD d e) fun d => W.bind (lk env 1) fun e => (inD false) d e) fun d => W.pure (.rt d)) (W.pure (.nx env))) fun env => seqF (W.bind (W.bind (W.bind (lk env 2) fun d => W.bind (W.pure (.str [108, 101, 97, 115, 116])) fun e => eqD d e) ofB) fun k => iteW k (W.bind (W.bind (W.bind (W.bind (W.bind (W.bind (W.bind (lk env 3) fun d => W.bind (W.pure (.int 1)) fun e => ixD d e) seqOf) fun ds => W.bind (compW (turnW [6] (fun d env => W.pure (env.set 6 (some d))) (fun env => W.bind (W.bind (lk env 6) fun d => W.bind (lk env 1) fun e => (inD false) d e) ofB) (fun env => lk env 6) env) ds) fun ys => W.pure (.lst ys)) fun d => W.bind (W.pure []) fun ds => W.pure (d :: ds)) (one1 lenD)) fun d => W.bind (W.bind (lk env 3) fun d => W.bind (W.pure (.int 0)) fun e => ixD d e) fun e => (intOp0 fun i j => .bl (decide (j ≤ i))) d e) fun d => W.pure (.rt d)) (W.pure (.nx env))) fun env => seqF (W.bind (W.bind (W.bind (lk env 2) fun d => W.bind (W.pure (.str [115, 101, 116, 115])) fun e => eqD d e) ofB) fun k => iteW k (W.bind (W.bind (lk env 1) fun d => W.bind (lk env 3) fun e => (inD false) d e) fun d => W.pure (.rt d)) (W.pure (.nx env))) fun env => seqF (W.bind (W.bind (W.bind (lk env 3) seqOf) (compW (turnW [5] (fun d env => W.pure (env.set 5 (some d))) (fun _ => W.pure true) (fun env => W.bind (W.bind (lk env 5) fun d => W.bind (W.bind (lk env 1) fun d => W.bind (W.pure []) fun ds => W.pure (d :: ds)) fun ds => W.pure (d :: ds)) (callM 2 (m_sentence_holds n))) env))) fun ys => W.pure (.nx (env.set 4 (some (.lst ys))))) fun env => seqF (W.bind (W.bind (W.bind (lk env 2) fun d => W.bind (W.pure (.str [110, 111, 116])) fun e => eqD d e) ofB) fun k => iteW k (W.bind (W.bind (W.bind (W.bind (lk env 4) fun d => W.bind (W.pure (.int 0)) fun e => ixD d e) ofB) fun k => W.pure (.bl (!k))) fun d => W.pure (.rt d)) (W.pure (.nx env))) fun env => W.bind (W.bind (W.bind (W.bind (lk env 2) fun d => W.bind (W.pure (.str [97, 110, 100])) fun e => eqD d e) ofB) fun k => iteW k (W.bind (W.bind (lk env 4) fun d => W.bind (W.pure []) fun ds => W.pure (d :: ds)) (one1 (allB fun bs => bs.all id))) (W.bind (W.bind (lk env 4) fun d => W.bind (W.pure []) fun ds => W.pure (d :: ds)) (one1 (allB fun bs => bs.any id)))) fun d => W.pure (.rt d)
theorem ok_sentence_holds {P : Program} {w : World} {K : PySem.W.Frag} {mg : Str → Option Value} {base : Heap} (T : Top P K mg) : ∀ n, FnM P w K mg base T.cm (n + 0) T.a_sentence_holds T.fd_sentence_holds ["sentence", "kept"] (m_sentence_holds n)
  | 0 => fnM_none
  | n + 1 => by
    have G_self := ok_sentence_holds (P := P) (w := w) (base := base) T n
    have e : n + 1 + 0 = (n + 0) + 1 := by omega
    rw [e]
    exact fnM (k := n + 0) T.F_sentence_holds sc_sentence_holds fun cdv A outer s H bg J hr hx hpo => (sv_cons (sv_starU 2 3 rfl sc_sentence_holds.nd rfl rfl (Or.inl rfl) (Or.inl rfl) (ev_var 0)) (sv_cons (sv_if (tv_cmp (od_eq hr) (ev_var 2) (ev_str [108, 105, 116])) (sv_one (sv_ret (ev_cmp (od_in hr) (ev_ix (ev_var 3) ev_int) (ev_var 1)))) sv_nil) (sv_cons (sv_if (tv_cmp (od_eq hr) (ev_var 2) (ev_str [108, 101, 97, 115, 116])) (sv_one (sv_ret (ev_cmp od_ge (ev_callB ca_len (by rfl) T.m_len PySem.boot_len (av_cons (ev_lc (own := [("letter", 6)]) rfl sc_sentence_holds.nd (iv_seq (ev_ix (ev_var 3) ev_int)) (blkOk_by (own := [("letter", 6)]) (N := ["sentence", "kept", "word", "rest", "inner", "part", "letter"]) (sc := defScope s_sentence_holds) (by decide +kernel)) (fun _ _ _ _ _ => (gv_name 6 sc_sentence_holds.nd rfl (Or.inl rfl))) (fun _ _ _ _ _ => (ts_one (tv_cmp (od_in hr) (ev_var 6) (ev_var 1)))) (fun _ _ _ _ _ => (ev_var 6))) av_nil)) (ev_ix (ev_var 3) ev_int)))) sv_nil) (sv_cons (sv_if (tv_cmp (od_eq hr) (ev_var 2) (ev_str [115, 101, 116, 115])) (sv_one (sv_ret (ev_cmp (od_in hr) (ev_var 1) (ev_var 3)))) sv_nil) (sv_cons (sv_lcD (sv_setLc 4 (own := [("part", 5)]) rfl sc_sentence_holds.nd rfl rfl (sw_true rfl rfl rfl (by decide +kernel)) (iv_seq (ev_var 3)) (blkOk_by (own := [("part", 5)]) (N := ["sentence", "kept", "word", "rest", "inner", "part", "letter"]) (sc := defScope s_sentence_holds) (by decide +kernel)) (fun _ _ _ _ _ => (gv_name 5 sc_sentence_holds.nd rfl (Or.inl rfl))) (fun _ _ _ _ _ => ts_nil) (fun _ _ _ _ _ => (ev_call G_self (hr.mono (by omega)) (by rfl) T.g_sentence_holds T.F_sentence_holds.kp T.b_sentence_holds passNo (av_cons (ev_var 5) (av_cons (ev_var 1) av_nil)))))) (sv_cons (sv_if (tv_cmp (od_eq hr) (ev_var 2) (ev_str [110, 111, 116])) (sv_one (sv_ret (ev_not (ev_ix (ev_var 4) ev_int)))) sv_nil) (sv_one (sv_ret (ev_if (tv_cmp (od_eq hr) (ev_var 2) (ev_str [97, 110, 100])) (ev_callB (ca_all rfl) (by rfl) T.m_all (by decide +kernel) (av_cons (ev_var 4) av_nil)) (ev_callB (ca_any rfl) (by rfl) T.m_any (by decide +kernel) (av_cons (ev_var 4) av_nil)))))))))))
def m_M_Goal_init : List D → W (List (Str × D)) := runI 3 fun env gs => W.bind (W.bind (W.bind (lk env 1) fun d => W.bind (W.bind (lk env 2) fun d => W.bind (W.pure []) fun ds => W.pure (d :: ds)) fun ds => W.pure (d :: ds)) (callM 2 m_check_sentence)) fun _ => W.bind (lk env 1) fun d => W.bind (W.need (gs.length < 1000)) fun _ => (fun gs => W.bind (lk env 2) fun d => W.bind (W.need (gs.length < 1000)) fun _ => (fun gs => W.bind (W.bind (W.bind (W.bind (W.bind (W.bind (W.bind (lk env 1) fun d => W.bind (W.pure []) fun ds => W.pure (d :: ds)) (callM 1 m_listed_sets)) seqOf) fun ds => W.bind (compW (turnW [3] (fun d env => W.pure (env.set 3 (some d))) (fun env => W.bind (W.bind (W.bind (lk env 2) fun d => W.bind (W.bind (lk env 3) fun d => W.bind (W.pure []) fun ds => W.pure (d :: ds)) fun ds => W.pure (d :: ds)) (callM 2 (m_sentence_holds 6))) truD) (fun env => lk env 3) env) ds) fun ys => W.pure (.lst ys)) fun d => W.bind (W.pure []) fun ds => W.pure (d :: ds)) (one1 tupleD)) fun d => W.bind (W.need (gs.length < 1000)) fun _ => (fun gs => W.pure gs) (putD "held" d gs)) (putD "wording" d gs)) (putD "letters" d gs)
theorem ok_M_Goal_init {P : Program} {w : World} {K : PySem.W.Frag} {mg : Str → Option Value} {base : Heap} (T : Top P K mg) : FnI P w K mg base T.cm T.C_Goal 7 T.a_M_Goal_init T.fd_M_Goal_init ["self", "lamps", "sentence"] m_M_Goal_init :=
  fnI (k := 6) T.F_M_Goal_init sc_M_Goal_init fun cdv A outer s H bg J hr hx hpo => (si_expr (ev_call (ok_check_sentence T) (hr.mono (by decide)) (by rfl) T.g_check_sentence T.F_check_sentence.kp T.b_check_sentence hx (av_cons (ev_var 1) (av_cons (ev_var 2) av_nil))) (si_fld T.cl_Goal T.na_Goal_letters rfl (Or.inl rfl) (ev_var 1) (si_fld T.cl_Goal T.na_Goal_wording rfl (Or.inl rfl) (ev_var 2) (si_fld T.cl_Goal T.na_Goal_held rfl (Or.inl rfl) (ev_callTy ca_tuple (by rfl) T.m_tuple (by decide +kernel) (av_cons (ev_lc (own := [("kept", 3)]) rfl sc_M_Goal_init.nd (iv_seq (ev_call (ok_listed_sets T) (hr.mono (by decide)) (by rfl) T.g_listed_sets T.F_listed_sets.kp T.b_listed_sets hx (av_cons (ev_var 1) av_nil))) (blkOk_by (own := [("kept", 3)]) (N := ["self", "lamps", "sentence", "kept"]) (sc := defScope s_M_Goal_init) (by decide +kernel)) (fun _ _ _ _ _ => (gv_name 3 sc_M_Goal_init.nd rfl (Or.inl rfl))) (fun _ _ _ _ _ => (ts_one (tv_val (ev_call (ok_sentence_holds T 6) (hr.mono (by decide)) (by rfl) T.g_sentence_holds T.F_sentence_holds.kp T.b_sentence_holds passNo (av_cons (ev_var 2) (av_cons (ev_var 3) av_nil)))))) (fun _ _ _ _ _ => (ev_var 3))) av_nil)) si_nil))))
def m_M_Goal_lamps : List D → W D := runF 1 fun env => W.bind (W.bind (lk env 0) (fldD "Goal" "letters")) fun d => W.pure (.rt d)
theorem ok_M_Goal_lamps {P : Program} {w : World} {K : PySem.W.Frag} {mg : Str → Option Value} {base : Heap} (T : Top P K mg) : FnM P w K mg base T.cm 1 T.a_M_Goal_lamps T.fd_M_Goal_lamps ["self"] m_M_Goal_lamps :=
  fnM (k := 0) T.F_M_Goal_lamps sc_M_Goal_lamps fun cdv A outer s H bg J hr hx hpo => (sv_one (sv_ret (ev_fld T.cm_Goal T.cl_Goal T.na_Goal_letters (ev_var 0))))
def m_M_Goal_sentence : List D → W D := runF 1 fun env => W.bind (W.bind (lk env 0) (fldD "Goal" "wording")) fun d => W.pure (.rt d)
theorem ok_M_Goal_sentence {P : Program} {w : World} {K : PySem.W.Frag} {mg : Str → Option Value} {base : Heap} (T : Top P K mg) : FnM P w K mg base T.cm 1 T.a_M_Goal_sentence T.fd_M_Goal_sentence ["self"] m_M_Goal_sentence :=
  fnM (k := 0) T.F_M_Goal_sentence sc_M_Goal_sentence fun cdv A outer s H bg J hr hx hpo => (sv_one (sv_ret (ev_fld T.cm_Goal T.cl_Goal T.na_Goal_wording (ev_var 0))))
def m_M_Goal_sets : List D → W D := runF 1 fun env => W.bind (W.bind (W.bind (W.bind (lk env 0) (fldD "Goal" "held")) fun d => W.bind (W.pure []) fun ds => W.pure (d :: ds)) (one1 listD)) fun d => W.pure (.rt d)
def o_M_Goal_sets : List D → W (List D) := runO 1 fun env => W.bind (W.bind (lk env 0) (fldD "Goal" "held")) seqL
theorem okO_M_Goal_sets {P : Program} {w : World} {K : PySem.W.Frag} {mg : Str → Option Value} {base : Heap} (T : Top P K mg) : FnO P w K mg base T.cm 1 T.a_M_Goal_sets T.fd_M_Goal_sets ["self"] o_M_Goal_sets :=
  fnO (k := 0) T.F_M_Goal_sets sc_M_Goal_sets fun cdv A outer s H bg J hr hx hpo => (so_ret (eo_list (by rfl) T.m_list (ev_fld T.cm_Goal T.cl_Goal T.na_Goal_held (ev_var 0))))
theorem ok_M_Goal_sets {P : Program} {w : World} {K : PySem.W.Frag} {mg : Str → Option Value} {base : Heap} (T : Top P K mg) : FnM P w K mg base T.cm 1 T.a_M_Goal_sets T.fd_M_Goal_sets ["self"] m_M_Goal_sets :=
  fnM (k := 0) T.F_M_Goal_sets sc_M_Goal_sets fun cdv A outer s H bg J hr hx hpo => (sv_one (sv_ret (ev_callTy ca_list (by rfl) T.m_list (by decide +kernel) (av_cons (ev_fld T.cm_Goal T.cl_Goal T.na_Goal_held (ev_var 0)) av_nil))))
def m_M_Goal_holds_for : List D → W D := runF 2 fun env => seqF (W.bind (W.bind (W.bind (W.bind (W.bind (lk env 1) fun d => W.bind (W.bind (W.bind (lk env 0) (fldD "Goal" "letters")) fun d => W.bind (W.pure []) fun ds => W.pure (d :: ds)) fun ds => W.pure (d :: ds)) (callM 2 m_is_set)) truD) fun k => W.pure (!k)) fun k => iteW k (W.bind (lk env 1) (raiseD "InvalidSet" "InvalidSet" "given" repOk m_E_InvalidSet)) (W.pure (.nx env))) fun env => W.bind (W.bind (lk env 1) fun d => W.bind (W.bind (lk env 0) (fldD "Goal" "held")) fun e => (inD false) d e) fun d => W.pure (.rt d)
theorem ok_M_Goal_holds_for {P : Program} {w : World} {K : PySem.W.Frag} {mg : Str → Option Value} {base : Heap} (T : Top P K mg) : FnM P w K mg base T.cm 6 T.a_M_Goal_holds_for T.fd_M_Goal_holds_for ["self", "kept"] m_M_Goal_holds_for :=
  fnM (k := 5) T.F_M_Goal_holds_for sc_M_Goal_holds_for fun cdv A outer s H bg J hr hx hpo => (sv_cons (sv_if (tv_not (tv_val (ev_call (ok_is_set T) (hr.mono (by decide)) (by rfl) T.g_is_set T.F_is_set.kp T.b_is_set hx (av_cons (ev_var 1) (av_cons (ev_fld T.cm_Goal T.cl_Goal T.na_Goal_letters (ev_var 0)) av_nil))))) (sv_one (sv_raise rfl T.cm_InvalidSet T.er_InvalidSet.T T.iC_InvalidSet T.tI_InvalidSet (ok_E_InvalidSet T) (hr.mono (by decide)) T.bI_InvalidSet (by rfl) T.c_InvalidSet (ev_var 1) (by decide +kernel) (by decide +kernel) (takes_of rfl rfl rfl rfl))) sv_nil) (sv_one (sv_ret (ev_cmp (od_in hr) (ev_var 1) (ev_fld T.cm_Goal T.cl_Goal T.na_Goal_held (ev_var 0))))))
def m_M_Goal_call : List D → W D := runF 2 fun env => W.bind (W.bind (lk env 0) fun d => W.bind (insOf "Goal" d) fun gs => W.bind (W.need (gs.lookup ("holds_for" : Str) = none)) fun _ => W.bind (W.bind (lk env 1) fun d => W.bind (W.pure []) fun ds => W.pure (d :: ds)) fun ds => callM 2 m_M_Goal_holds_for (d :: ds)) fun d => W.pure (.rt d)
theorem ok_M_Goal_call {P : Program} {w : World} {K : PySem.W.Frag} {mg : Str → Option Value} {base : Heap} (T : Top P K mg) : FnM P w K mg base T.cm 7 T.a_M_Goal_call T.fd_M_Goal_call ["self", "kept"] m_M_Goal_call :=
  fnM (k := 6) T.F_M_Goal_call sc_M_Goal_call fun cdv A outer s H bg J hr hx hpo => (sv_one (sv_ret (ev_meth T.cm_Goal T.cl_Goal T.me_Goal_holds_for (ok_M_Goal_holds_for T) (hr.mono (by decide)) T.b_M_Goal_holds_for hx (ev_var 0) (av_cons (ev_var 1) av_nil))))
def m_M_Goal_contains : List D → W D := runF 2 fun env => W.bind (W.bind (lk env 0) fun d => W.bind (insOf "Goal" d) fun gs => W.bind (W.need (gs.lookup ("holds_for" : Str) = none)) fun _ => W.bind (W.bind (lk env 1) fun d => W.bind (W.pure []) fun ds => W.pure (d :: ds)) fun ds => callM 2 m_M_Goal_holds_for (d :: ds)) fun d => W.pure (.rt d)
theorem ok_M_Goal_contains {P : Program} {w : World} {K : PySem.W.Frag} {mg : Str → Option Value} {base : Heap} (T : Top P K mg) : FnM P w K mg base T.cm 7 T.a_M_Goal_contains T.fd_M_Goal_contains ["self", "kept"] m_M_Goal_contains :=
  fnM (k := 6) T.F_M_Goal_contains sc_M_Goal_contains fun cdv A outer s H bg J hr hx hpo => (sv_one (sv_ret (ev_meth T.cm_Goal T.cl_Goal T.me_Goal_holds_for (ok_M_Goal_holds_for T) (hr.mono (by decide)) T.b_M_Goal_holds_for hx (ev_var 0) (av_cons (ev_var 1) av_nil))))
def m_M_Goal_len : List D → W D := runF 1 fun env => W.bind (W.bind (W.bind (W.bind (lk env 0) (fldD "Goal" "held")) fun d => W.bind (W.pure []) fun ds => W.pure (d :: ds)) (one1 lenD)) fun d => W.pure (.rt d)
theorem ok_M_Goal_len {P : Program} {w : World} {K : PySem.W.Frag} {mg : Str → Option Value} {base : Heap} (T : Top P K mg) : FnM P w K mg base T.cm 1 T.a_M_Goal_len T.fd_M_Goal_len ["self"] m_M_Goal_len :=
  fnM (k := 0) T.F_M_Goal_len sc_M_Goal_len fun cdv A outer s H bg J hr hx hpo => (sv_one (sv_ret (ev_callB ca_len (by rfl) T.m_len PySem.boot_len (av_cons (ev_fld T.cm_Goal T.cl_Goal T.na_Goal_held (ev_var 0)) av_nil))))
def m_M_Goal_repr : List D → W D := runF 1 fun env => W.bind (W.bind (W.bind (W.pure [71, 111, 97, 108, 40]) fun x => W.bind (W.need (x.length ≤ 10000)) fun _ => W.bind (W.bind (W.bind (W.bind (lk env 0) (fldD "Goal" "letters")) fmtT) fun x => W.bind (W.need (x.length ≤ 10000)) fun _ => W.bind (W.bind (W.pure [44, 32]) fun x => W.bind (W.need (x.length ≤ 10000)) fun _ => W.bind (W.bind (W.bind (W.bind (W.bind (W.bind (lk env 0) (fldD "Goal" "held")) fun d => W.bind (W.pure []) fun ds => W.pure (d :: ds)) (one1 lenD)) fmtT) fun x => W.bind (W.need (x.length ≤ 10000)) fun _ => W.bind (W.bind (W.pure [32, 115, 101, 116, 115, 41]) fun x => W.bind (W.need (x.length ≤ 10000)) fun _ => W.bind (W.pure []) fun y => W.pure (x :: y)) fun y => W.pure (x :: y)) fun y => W.pure (x :: y)) fun y => W.pure (x :: y)) fun y => W.pure (x :: y)) glueD) fun d => W.pure (.rt d)
theorem ok_M_Goal_repr {P : Program} {w : World} {K : PySem.W.Frag} {mg : Str → Option Value} {base : Heap} (T : Top P K mg) : FnM P w K mg base T.cm 1 T.a_M_Goal_repr T.fd_M_Goal_repr ["self"] m_M_Goal_repr :=
  fnM (k := 0) T.F_M_Goal_repr sc_M_Goal_repr fun cdv A outer s H bg J hr hx hpo => (sv_one (sv_ret (ev_joined (js_cons (jv_con [71, 111, 97, 108, 40]) (js_cons (jv_fmt (ev_fld T.cm_Goal T.cl_Goal T.na_Goal_letters (ev_var 0))) (js_cons (jv_con [44, 32]) (js_cons (jv_fmt (ev_callB ca_len (by rfl) T.m_len PySem.boot_len (av_cons (ev_fld T.cm_Goal T.cl_Goal T.na_Goal_held (ev_var 0)) av_nil))) (js_cons (jv_con [32, 115, 101, 116, 115, 41]) js_nil))))))))
def m_l_of : List D → W D := runF 2 fun env => W.bind (W.bind (lk env 1) fun d => W.bind (W.bind (W.bind (lk env 0) fun d => W.bind (W.bind (W.bind (W.bind (lk env 1) fun d => W.bind (W.pure []) fun ds => W.pure (d :: ds)) (one1 lenD)) fun d => W.bind (W.pure []) fun ds => W.pure (d :: ds)) fun ds => W.pure (d :: ds)) (callM 2 m_l_pull)) fun e => ixD d e) fun d => W.pure (.rt d)
theorem ok_l_of {P : Program} {w : World} {K : PySem.W.Frag} {mg : Str → Option Value} {base : Heap} (T : Top P K mg) : FnM P w K mg base T.cm 2 T.a_l_of T.fd_l_of ["_law_bag_here", "_law_some"] m_l_of :=
  fnM (k := 1) T.F_l_of sc_l_of fun cdv A outer s H bg J hr hx hpo => (sv_one (sv_ret (ev_ix (ev_var 1) (ev_call (ok_l_pull T) (hr.mono (by decide)) (by rfl) T.g_l_pull T.F_l_pull.kp T.b_l_pull hx (av_cons (ev_var 0) (av_cons (ev_callB ca_len (by rfl) T.m_len PySem.boot_len (av_cons (ev_var 1) av_nil)) av_nil))))))
def m_l_same : Nat → List D → W D
  | 0 => fun _ => W.fail
  | n + 1 => runF 4 fun env => seqF (W.bind (W.bind (W.bind (W.bind (lk env 1) fun d => W.bind (W.pure .non) fun e => (isNoneD false) d e) ofB) fun k => iteW k (W.pure true) (W.bind (W.bind (lk env 0) fun d => W.bind (W.pure .non) fun e => (isNoneD false) d e) ofB)) fun k => iteW k (W.bind (W.bind (W.bind (W.bind (lk env 1) fun d => W.bind (W.pure .non) fun e => (isNoneD false) d e) ofB) fun k => iteW k (W.bind (lk env 0) fun d => W.bind (W.pure .non) fun e => (isNoneD false) d e) (W.pure (.bl false))) fun d => W.pure (.rt d)) (W.pure (.nx env))) fun env => seqF (W.bind (W.bind (W.bind (W.bind (W.bind (lk env 1) fun d => W.bind (W.bind (W.pure (.ty "bool")) fun d => W.bind (W.pure []) fun ds => W.pure (d :: ds)) fun ds => W.pure (d :: ds)) (two2 isiD)) truD) fun k => iteW k (W.pure true) (W.bind (W.bind (W.bind (lk env 0) fun d => W.bind (W.bind (W.pure (.ty "bool")) fun d => W.bind (W.pure []) fun ds => W.pure (d :: ds)) fun ds => W.pure (d :: ds)) (two2 isiD)) truD)) fun k => iteW k (W.bind (W.bind (W.bind (W.bind (W.bind (lk env 1) fun d => W.bind (W.bind (W.pure (.ty "bool")) fun d => W.bind (W.pure []) fun ds => W.pure (d :: ds)) fun ds => W.pure (d :: ds)) (two2 isiD)) ofB) fun k => iteW k (W.bind (W.bind (W.bind (W.bind (lk env 0) fun d => W.bind (W.bind (W.pure (.ty "bool")) fun d => W.bind (W.pure []) fun ds => W.pure (d :: ds)) fun ds => W.pure (d :: ds)) (two2 isiD)) ofB) fun k => iteW k (W.bind (lk env 0) fun d => W.bind (lk env 1) fun e => eqD d e) (W.pure (.bl false))) (W.pure (.bl false))) fun d => W.pure (.rt d)) (W.pure (.nx env))) fun env => seqF (W.bind (W.bind (W.bind (W.bind (W.bind (lk env 1) fun d => W.bind (W.bind (W.bind (W.bind (W.pure (.ty "list")) fun d => W.bind (W.bind (W.pure (.ty "tuple")) fun d => W.bind (W.pure []) fun ds => W.pure (d :: ds)) fun ds => W.pure (d :: ds)) mkTup) fun d => W.bind (W.pure []) fun ds => W.pure (d :: ds)) fun ds => W.pure (d :: ds)) (two2 isiD)) truD) fun k => iteW k (W.pure true) (W.bind (W.bind (W.bind (lk env 0) fun d => W.bind (W.bind (W.bind (W.bind (W.pure (.ty "list")) fun d => W.bind (W.bind (W.pure (.ty "tuple")) fun d => W.bind (W.pure []) fun ds => W.pure (d :: ds)) fun ds => W.pure (d :: ds)) mkTup) fun d => W.bind (W.pure []) fun ds => W.pure (d :: ds)) fun ds => W.pure (d :: ds)) (two2 isiD)) truD)) fun k => iteW k (seqF (W.bind (W.bind (W.bind (W.bind (W.bind (lk env 1) fun d => W.bind (W.bind (W.pure (.ty "list")) fun d => W.bind (W.pure []) fun ds => W.pure (d :: ds)) fun ds => W.pure (d :: ds)) (two2 isiD)) fun d => W.bind (W.bind (W.bind (lk env 0) fun d => W.bind (W.bind (W.pure (.ty "list")) fun d => W.bind (W.pure []) fun ds => W.pure (d :: ds)) fun ds => W.pure (d :: ds)) (two2 isiD)) fun e => neD d e) ofB) fun k => iteW k (W.bind (W.pure (.bl false)) fun d => W.pure (.rt d)) (W.pure (.nx env))) fun env => seqF (W.bind (W.bind (W.bind (W.bind (W.bind (W.bind (lk env 1) fun d => W.bind (W.bind (W.pure (.ty "tuple")) fun d => W.bind (W.pure []) fun ds => W.pure (d :: ds)) fun ds => W.pure (d :: ds)) (two2 isiD)) fun d => W.bind (W.bind (W.bind (lk env 0) fun d => W.bind (W.bind (W.pure (.ty "tuple")) fun d => W.bind (W.pure []) fun ds => W.pure (d :: ds)) fun ds => W.pure (d :: ds)) (two2 isiD)) fun e => neD d e) ofB) fun k => iteW k (W.pure true) (W.bind (W.bind (W.bind (W.bind (lk env 0) fun d => W.bind (W.pure []) fun ds => W.pure (d :: ds)) (one1 lenD)) fun d => W.bind (W.bind (W.bind (lk env 1) fun d => W.bind (W.pure []) fun ds => W.pure (d :: ds)) (one1 lenD)) fun e => neD d e) ofB)) fun k => iteW k (W.bind (W.pure (.bl false)) fun d => W.pure (.rt d)) (W.pure (.nx env))) fun env => W.bind (W.bind (W.bind (W.bind (W.bind (W.bind (lk env 0) fun d => W.bind (W.bind (lk env 1) fun d => W.bind (W.pure []) fun ds => W.pure (d :: ds)) fun ds => W.pure (d :: ds)) zip2) fun ds => W.bind (compW (turnW [2, 3] (gTupW 2 (gConsW (fun d env => W.pure (env.set 2 (some d))) (gConsW (fun d env => W.pure (env.set 3 (some d))) (gNilW)))) (fun _ => W.pure true) (fun env => W.bind (W.bind (lk env 2) fun d => W.bind (W.bind (lk env 3) fun d => W.bind (W.pure []) fun ds => W.pure (d :: ds)) fun ds => W.pure (d :: ds)) (callM 2 (m_l_same n))) env) ds) fun ys => W.pure (.lst ys)) fun d => W.bind (W.pure []) fun ds => W.pure (d :: ds)) (one1 (allB fun bs => bs.all id))) fun d => W.pure (.rt d)) (W.pure (.nx env))) fun env => seqF (W.bind (W.bind (W.bind (W.bind (W.bind (W.bind (lk env 1) fun d => W.bind (W.bind (W.pure (.ty "int")) fun d => W.bind (W.pure []) fun ds => W.pure (d :: ds)) fun ds => W.pure (d :: ds)) (two2 isiD)) fun d => W.bind (W.bind (W.bind (lk env 0) fun d => W.bind (W.bind (W.pure (.ty "int")) fun d => W.bind (W.pure []) fun ds => W.pure (d :: ds)) fun ds => W.pure (d :: ds)) (two2 isiD)) fun e => neD d e) ofB) fun k => iteW k (W.pure true) (W.bind (W.bind (W.bind (W.bind (lk env 1) fun d => W.bind (W.bind (W.pure (.ty "str")) fun d => W.bind (W.pure []) fun ds => W.pure (d :: ds)) fun ds => W.pure (d :: ds)) (two2 isiD)) fun d => W.bind (W.bind (W.bind (lk env 0) fun d => W.bind (W.bind (W.pure (.ty "str")) fun d => W.bind (W.pure []) fun ds => W.pure (d :: ds)) fun ds => W.pure (d :: ds)) (two2 isiD)) fun e => neD d e) ofB)) fun k => iteW k (W.bind (W.pure (.bl false)) fun d => W.pure (.rt d)) (W.pure (.nx env))) fun env => W.bind (W.bind (lk env 0) fun d => W.bind (lk env 1) fun e => eqD d e) fun d => W.pure (.rt d)
theorem ok_l_same {P : Program} {w : World} {K : PySem.W.Frag} {mg : Str → Option Value} {base : Heap} (T : Top P K mg) : ∀ n, FnM P w K mg base T.cm (n + 0) T.a_l_same T.fd_l_same ["_law_found", "_law_due"] (m_l_same n)
  | 0 => fnM_none
  | n + 1 => by
    have G_self := ok_l_same (P := P) (w := w) (base := base) T n
    have e : n + 1 + 0 = (n + 0) + 1 := by omega
    rw [e]
    exact fnM (k := n + 0) T.F_l_same sc_l_same fun cdv A outer s H bg J hr hx hpo => (sv_cons (sv_if (TW.tv (tw_or (tv_cmp od_isN (ev_var 1) ev_non) (tw_or1 (tv_cmp od_isN (ev_var 0) ev_non)))) (sv_one (sv_ret (ev_and (ev_cmp od_isN (ev_var 1) ev_non) (ev_one (ev_cmp od_isN (ev_var 0) ev_non))))) sv_nil) (sv_cons (sv_if (TW.tv (tw_or (tv_val (ev_callB ca_isi (by rfl) T.m_isinstance (by decide +kernel) (av_cons (ev_var 1) (av_cons (ev_ty (by rfl) T.m_bool (by decide +kernel)) av_nil)))) (tw_or1 (tv_val (ev_callB ca_isi (by rfl) T.m_isinstance (by decide +kernel) (av_cons (ev_var 0) (av_cons (ev_ty (by rfl) T.m_bool (by decide +kernel)) av_nil))))))) (sv_one (sv_ret (ev_and (ev_callB ca_isi (by rfl) T.m_isinstance (by decide +kernel) (av_cons (ev_var 1) (av_cons (ev_ty (by rfl) T.m_bool (by decide +kernel)) av_nil))) (ev_and (ev_callB ca_isi (by rfl) T.m_isinstance (by decide +kernel) (av_cons (ev_var 0) (av_cons (ev_ty (by rfl) T.m_bool (by decide +kernel)) av_nil))) (ev_one (ev_cmp (od_eq hr) (ev_var 0) (ev_var 1))))))) sv_nil) (sv_cons (sv_if (TW.tv (tw_or (tv_val (ev_callB ca_isi (by rfl) T.m_isinstance (by decide +kernel) (av_cons (ev_var 1) (av_cons (ev_tup (av_cons (ev_ty (by rfl) T.m_list (by decide +kernel)) (av_cons (ev_ty (by rfl) T.m_tuple (by decide +kernel)) av_nil))) av_nil)))) (tw_or1 (tv_val (ev_callB ca_isi (by rfl) T.m_isinstance (by decide +kernel) (av_cons (ev_var 0) (av_cons (ev_tup (av_cons (ev_ty (by rfl) T.m_list (by decide +kernel)) (av_cons (ev_ty (by rfl) T.m_tuple (by decide +kernel)) av_nil))) av_nil))))))) (sv_cons (sv_if (tv_cmp (od_ne hr) (ev_callB ca_isi (by rfl) T.m_isinstance (by decide +kernel) (av_cons (ev_var 1) (av_cons (ev_ty (by rfl) T.m_list (by decide +kernel)) av_nil))) (ev_callB ca_isi (by rfl) T.m_isinstance (by decide +kernel) (av_cons (ev_var 0) (av_cons (ev_ty (by rfl) T.m_list (by decide +kernel)) av_nil)))) (sv_one (sv_ret ev_bl)) sv_nil) (sv_cons (sv_if (TW.tv (tw_or (tv_cmp (od_ne hr) (ev_callB ca_isi (by rfl) T.m_isinstance (by decide +kernel) (av_cons (ev_var 1) (av_cons (ev_ty (by rfl) T.m_tuple (by decide +kernel)) av_nil))) (ev_callB ca_isi (by rfl) T.m_isinstance (by decide +kernel) (av_cons (ev_var 0) (av_cons (ev_ty (by rfl) T.m_tuple (by decide +kernel)) av_nil)))) (tw_or1 (tv_cmp (od_ne hr) (ev_callB ca_len (by rfl) T.m_len PySem.boot_len (av_cons (ev_var 0) av_nil)) (ev_callB ca_len (by rfl) T.m_len PySem.boot_len (av_cons (ev_var 1) av_nil)))))) (sv_one (sv_ret ev_bl)) sv_nil) (sv_one (sv_ret (ev_callB (ca_all rfl) (by rfl) T.m_all (by decide +kernel) (av_cons (ev_lc (own := [("_law_one", 2), ("_law_other", 3)]) rfl sc_l_same.nd (iv_zip (by rfl) T.m_zip (av_cons (ev_var 0) (av_cons (ev_var 1) av_nil))) (blkOk_by (own := [("_law_one", 2), ("_law_other", 3)]) (N := ["_law_found", "_law_due", "_law_one", "_law_other"]) (sc := defScope s_l_same) (by decide +kernel)) (fun _ _ _ _ _ => (gv_tup rfl (gvs_cons (gv_name 2 sc_l_same.nd rfl (Or.inl rfl)) (gvs_cons (gv_name 3 sc_l_same.nd rfl (Or.inl rfl)) gvs_nil)))) (fun _ _ _ _ _ => ts_nil) (fun _ _ _ _ _ => (ev_call G_self (hr.mono (by omega)) (by rfl) T.g_l_same T.F_l_same.kp T.b_l_same passNo (av_cons (ev_var 2) (av_cons (ev_var 3) av_nil))))) av_nil)))))) sv_nil) (sv_cons (sv_if (TW.tv (tw_or (tv_cmp (od_ne hr) (ev_callB ca_isi (by rfl) T.m_isinstance (by decide +kernel) (av_cons (ev_var 1) (av_cons (ev_ty (by rfl) T.m_int (by decide +kernel)) av_nil))) (ev_callB ca_isi (by rfl) T.m_isinstance (by decide +kernel) (av_cons (ev_var 0) (av_cons (ev_ty (by rfl) T.m_int (by decide +kernel)) av_nil)))) (tw_or1 (tv_cmp (od_ne hr) (ev_callB ca_isi (by rfl) T.m_isinstance (by decide +kernel) (av_cons (ev_var 1) (av_cons (ev_ty (by rfl) T.m_str (by decide +kernel)) av_nil))) (ev_callB ca_isi (by rfl) T.m_isinstance (by decide +kernel) (av_cons (ev_var 0) (av_cons (ev_ty (by rfl) T.m_str (by decide +kernel)) av_nil))))))) (sv_one (sv_ret ev_bl)) sv_nil) (sv_one (sv_ret (ev_cmp (od_eq hr) (ev_var 0) (ev_var 1))))))))
def m_l_sets : List D → W D := runF 4 fun env => seqF (W.bind (W.bind (W.bind (W.pure (.str [])) fun d => W.bind (W.pure []) fun ds => W.pure (d :: ds)) mkLst) fun d => W.pure (.nx (env.set 1 (some d)))) fun env => seqF (W.bind (W.bind (lk env 0) seqOf) fun ds => forW (fun x env => W.bind (W.noX ((fun d env => W.pure (env.set 2 (some d))) x env)) fun env => W.bind (W.bind (lk env 1) fun d => W.bind (W.bind (W.bind (lk env 1) seqOf) fun ds => W.bind (compW (turnW [3] (fun d env => W.pure (env.set 3 (some d))) (fun _ => W.pure true) (fun env => W.bind (lk env 3) fun d => W.bind (lk env 2) fun e => addD d e) env) ds) fun ys => W.pure (.lst ys)) fun e => addD d e) fun d => W.pure (.nx (env.set 1 (some d)))) ds env) fun env => W.bind (W.bind (lk env 1) (sortD ordK)) fun d => W.pure (.rt d)
theorem ok_l_sets {P : Program} {w : World} {K : PySem.W.Frag} {mg : Str → Option Value} {base : Heap} (T : Top P K mg) (TS : LamX.TabB base mg T.cd_l_sets T.tb_l_sets) : FnT P w K mg base T.cm T.tbs 3 T.a_l_sets T.fd_l_sets ["_law_lamps_z"] m_l_sets :=
  fnTC (k := 2) T.lt_l_sets sc_l_sets fun A outer s H bg J hr hx hpo => (sv_cons (sv_set 1 sc_l_sets.nd rfl (Or.inl rfl) (ev_lst (av_cons (ev_str []) av_nil))) (sv_cons (sv_for hpo rfl (iv_seq (ev_var 0)) (gv_name 2 sc_l_sets.nd rfl (Or.inr rfl)) (sv_one (sv_set 1 sc_l_sets.nd rfl (Or.inl rfl) (ev_op od_add (ev_var 1) (ev_lc (own := [("_law_lit", 3)]) rfl sc_l_sets.nd (iv_seq (ev_var 1)) (blkOk_by (own := [("_law_lit", 3)]) (N := ["_law_lamps_z", "_law_found", "_law_lamp", "_law_lit"]) (sc := defScope s_l_sets) (by decide +kernel)) (fun _ _ _ _ _ => (gv_name 3 sc_l_sets.nd rfl (Or.inl rfl))) (fun _ _ _ _ _ => ts_nil) (fun _ _ _ _ _ => (ev_op od_add (ev_var 3) (ev_var 2)))))))) (sv_one (sv_ret (ev_srtLam (y := "_law_lit") (k := 0) (by exact ⟨⟨_, _, _, _, _, _, rfl⟩, fun _ _ _ _ _ _ => rfl, rfl, rfl, rfl, by decide +kernel, rfl, rfl, by decide⟩) (hr.mono (by decide)) (by rfl) T.m_sorted T.m_len TS rfl List.mem_cons_self (one_cons (fun _ h => nomatch h)) (by rfl) (ev_var 1))))))
def m_l_lamps : List D → W D := runF 2 fun env => W.bind (W.bind (W.bind (lk env 0) fun d => W.bind (W.bind (W.bind (W.bind (W.bind (W.pure (.str [97, 98])) fun d => W.bind (W.bind (W.pure (.str [97])) fun d => W.bind (W.bind (W.pure (.str [97, 98, 99])) fun d => W.bind (W.bind (W.pure (.str [97, 98])) fun d => W.bind (W.bind (W.pure (.str [120, 121, 122])) fun d => W.bind (W.bind (W.pure (.str [98, 100])) fun d => W.bind (W.bind (W.pure (.str [97, 98, 99])) fun d => W.bind (W.bind (W.pure (.str [97, 98, 99, 100])) fun d => W.bind (W.bind (W.pure (.str [110, 111, 112, 116])) fun d => W.bind (W.pure []) fun ds => W.pure (d :: ds)) fun ds => W.pure (d :: ds)) fun ds => W.pure (d :: ds)) fun ds => W.pure (d :: ds)) fun ds => W.pure (d :: ds)) fun ds => W.pure (d :: ds)) fun ds => W.pure (d :: ds)) fun ds => W.pure (d :: ds)) fun ds => W.pure (d :: ds)) mkLst) fun d => W.bind (W.pure none) fun l => W.bind (W.bind (lk env 1) ofI) fun h => slD l h d) fun d => W.bind (W.pure []) fun ds => W.pure (d :: ds)) fun ds => W.pure (d :: ds)) (callM 2 m_l_of)) fun d => W.pure (.rt d)
theorem ok_l_lamps {P : Program} {w : World} {K : PySem.W.Frag} {mg : Str → Option Value} {base : Heap} (T : Top P K mg) : FnM P w K mg base T.cm 3 T.a_l_lamps T.fd_l_lamps ["_law_bag_here", "_law_most"] m_l_lamps :=
  fnM (k := 2) T.F_l_lamps sc_l_lamps fun cdv A outer s H bg J hr hx hpo => (sv_one (sv_ret (ev_call (ok_l_of T) (hr.mono (by decide)) (by rfl) T.g_l_of T.F_l_of.kp T.b_l_of hx (av_cons (ev_var 0) (av_cons (ev_slice (ev_lst (av_cons (ev_str [97, 98]) (av_cons (ev_str [97]) (av_cons (ev_str [97, 98, 99]) (av_cons (ev_str [97, 98]) (av_cons (ev_str [120, 121, 122]) (av_cons (ev_str [98, 100]) (av_cons (ev_str [97, 98, 99]) (av_cons (ev_str [97, 98, 99, 100]) (av_cons (ev_str [110, 111, 112, 116]) av_nil)))))))))) ov_none (ov_some (ev_var 1))) av_nil)))))
def m_l_lits : List D → W D := runF 3 fun env => W.bind (W.bind (W.bind (W.pure (.str [])) strOf) fun s => W.bind (W.bind (W.bind (lk env 1) seqOf) fun ds => W.bind (compW (turnW [2] (fun d env => W.pure (env.set 2 (some d))) (fun env => W.bind (W.bind (W.bind (W.bind (lk env 0) fun d => W.bind (W.bind (W.pure (.int 2)) fun d => W.bind (W.pure []) fun ds => W.pure (d :: ds)) fun ds => W.pure (d :: ds)) (callM 2 m_l_pull)) fun d => W.bind (W.pure (.int 0)) fun e => eqD d e) ofB) (fun env => lk env 2) env) ds) fun ys => W.pure (.lst ys)) (joinD s)) fun d => W.pure (.rt d)
theorem ok_l_lits {P : Program} {w : World} {K : PySem.W.Frag} {mg : Str → Option Value} {base : Heap} (T : Top P K mg) : FnM P w K mg base T.cm 2 T.a_l_lits T.fd_l_lits ["_law_bag_here", "_law_lamps_z"] m_l_lits :=
  fnM (k := 1) T.F_l_lits sc_l_lits fun cdv A outer s H bg J hr hx hpo => (sv_one (sv_ret (ev_join (ev_str []) (ev_lc (own := [("_law_lamp", 2)]) rfl sc_l_lits.nd (iv_seq (ev_var 1)) (blkOk_by (own := [("_law_lamp", 2)]) (N := ["_law_bag_here", "_law_lamps_z", "_law_lamp"]) (sc := defScope s_l_lits) (by decide +kernel)) (fun _ _ _ _ _ => (gv_name 2 sc_l_lits.nd rfl (Or.inl rfl))) (fun _ _ _ _ _ => (ts_one (tv_cmp (od_eq hr) (ev_call (ok_l_pull T) (hr.mono (by decide)) (by rfl) T.g_l_pull T.F_l_pull.kp T.b_l_pull passNo (av_cons (ev_var 0) (av_cons ev_int av_nil))) ev_int))) (fun _ _ _ _ _ => (ev_var 2))))))
def m_l_sentence : Nat → List D → W D
  | 0 => fun _ => W.fail
  | n + 1 => runF 7 fun env => seqF (W.bind (W.bind (W.bind (lk env 0) fun d => W.bind (W.bind (W.bind (W.bind (W.bind (lk env 2) fun d => W.bind (W.pure (.int 0)) fun e => (intOp0 fun i j => .bl (decide (j < i))) d e) ofB) fun k => iteW k (W.pure (.int 7)) (W.pure (.int 3))) fun d => W.bind (W.pure []) fun ds => W.pure (d :: ds)) fun ds => W.pure (d :: ds)) (callM 2 m_l_pull)) fun d => W.pure (.nx (env.set 3 (some d)))) fun env => seqF (W.bind (W.bind (W.bind (lk env 3) fun d => W.bind (W.pure (.int 0)) fun e => eqD d e) ofB) fun k => iteW k (W.bind (W.bind (W.bind (W.pure (.str [108, 105, 116])) fun d => W.bind (W.bind (W.bind (W.bind (lk env 0) fun d => W.bind (W.bind (lk env 1) fun d => W.bind (W.pure []) fun ds => W.pure (d :: ds)) fun ds => W.pure (d :: ds)) (callM 2 m_l_of)) fun d => W.bind (W.pure []) fun ds => W.pure (d :: ds)) fun ds => W.pure (d :: ds)) mkTup) fun d => W.pure (.rt d)) (W.pure (.nx env))) fun env => seqF (W.bind (W.bind (W.bind (lk env 3) fun d => W.bind (W.pure (.int 1)) fun e => eqD d e) ofB) fun k => iteW k (W.bind (W.bind (W.bind (W.pure (.str [108, 101, 97, 115, 116])) fun d => W.bind (W.bind (W.bind (W.pure (.int 1)) fun d => W.bind (W.bind (W.bind (lk env 0) fun d => W.bind (W.bind (W.pure (.int 4)) fun d => W.bind (W.pure []) fun ds => W.pure (d :: ds)) fun ds => W.pure (d :: ds)) (callM 2 m_l_pull)) fun e => addD d e) fun d => W.bind (W.bind (W.bind (W.bind (lk env 0) fun d => W.bind (W.bind (lk env 1) fun d => W.bind (W.pure []) fun ds => W.pure (d :: ds)) fun ds => W.pure (d :: ds)) (callM 2 m_l_lits)) fun d => W.bind (W.pure []) fun ds => W.pure (d :: ds)) fun ds => W.pure (d :: ds)) fun ds => W.pure (d :: ds)) mkTup) fun d => W.pure (.rt d)) (W.pure (.nx env))) fun env => seqF (W.bind (W.bind (W.bind (lk env 3) fun d => W.bind (W.pure (.int 2)) fun e => eqD d e) ofB) fun k => iteW k (W.bind (W.bind (W.bind (W.bind (W.pure (.str [115, 101, 116, 115])) fun d => W.bind (W.pure []) fun ds => W.pure (d :: ds)) mkTup) fun d => W.bind (W.bind (W.bind (W.bind (W.bind (W.bind (W.bind (W.bind (lk env 0) fun d => W.bind (W.bind (W.pure (.int 4)) fun d => W.bind (W.pure []) fun ds => W.pure (d :: ds)) fun ds => W.pure (d :: ds)) (callM 2 m_l_pull)) fun d => W.bind (W.pure []) fun ds => W.pure (d :: ds)) rng1) fun ds => W.bind (compW (turnW [6] (fun d env => W.pure (env.set 6 (some d))) (fun _ => W.pure true) (fun env => W.bind (W.bind (lk env 0) fun d => W.bind (W.bind (lk env 1) fun d => W.bind (W.pure []) fun ds => W.pure (d :: ds)) fun ds => W.pure (d :: ds)) (callM 2 m_l_lits)) env) ds) fun ys => W.pure (.lst ys)) fun d => W.bind (W.pure []) fun ds => W.pure (d :: ds)) (one1 tupleD)) fun e => addD d e) fun d => W.pure (.rt d)) (W.pure (.nx env))) fun env => seqF (W.bind (W.bind (W.bind (lk env 3) fun d => W.bind (W.pure (.int 3)) fun e => eqD d e) ofB) fun k => iteW k (W.bind (W.bind (W.bind (W.pure (.str [110, 111, 116])) fun d => W.bind (W.bind (W.bind (W.bind (lk env 0) fun d => W.bind (W.bind (lk env 1) fun d => W.bind (W.bind (W.bind (lk env 2) fun d => W.bind (W.pure (.int 1)) fun e => (intOp0 fun i j => .int (i - j)) d e) fun d => W.bind (W.pure []) fun ds => W.pure (d :: ds)) fun ds => W.pure (d :: ds)) fun ds => W.pure (d :: ds)) (callM 3 (m_l_sentence n))) fun d => W.bind (W.pure []) fun ds => W.pure (d :: ds)) fun ds => W.pure (d :: ds)) mkTup) fun d => W.pure (.rt d)) (W.pure (.nx env))) fun env => seqF (W.bind (W.bind (W.bind (W.bind (lk env 0) fun d => W.bind (W.bind (W.bind (W.bind (W.pure (.str [97, 110, 100])) fun d => W.bind (W.bind (W.pure (.str [111, 114])) fun d => W.bind (W.pure []) fun ds => W.pure (d :: ds)) fun ds => W.pure (d :: ds)) mkLst) fun d => W.bind (W.pure []) fun ds => W.pure (d :: ds)) fun ds => W.pure (d :: ds)) (callM 2 m_l_of)) fun d => W.bind (W.bind (W.bind (W.pure (.int 2)) fun d => W.bind (W.bind (W.bind (lk env 0) fun d => W.bind (W.bind (W.bind (W.bind (W.bind (lk env 2) fun d => W.bind (W.pure (.int 2)) fun e => eqD d e) ofB) fun k => iteW k (W.pure (.int 3)) (W.pure (.int 2))) fun d => W.bind (W.pure []) fun ds => W.pure (d :: ds)) fun ds => W.pure (d :: ds)) (callM 2 m_l_pull)) fun e => addD d e) fun d => W.bind (W.pure []) fun ds => W.pure (d :: ds)) fun ds => W.pure (d :: ds)) (parW 4 5 env)) fun env => W.bind (W.bind (W.bind (W.bind (lk env 4) fun d => W.bind (W.pure []) fun ds => W.pure (d :: ds)) mkTup) fun d => W.bind (W.bind (W.bind (W.bind (W.bind (W.bind (lk env 5) fun d => W.bind (W.pure []) fun ds => W.pure (d :: ds)) rng1) fun ds => W.bind (compW (turnW [6] (fun d env => W.pure (env.set 6 (some d))) (fun _ => W.pure true) (fun env => W.bind (W.bind (lk env 0) fun d => W.bind (W.bind (lk env 1) fun d => W.bind (W.bind (W.bind (lk env 2) fun d => W.bind (W.pure (.int 1)) fun e => (intOp0 fun i j => .int (i - j)) d e) fun d => W.bind (W.pure []) fun ds => W.pure (d :: ds)) fun ds => W.pure (d :: ds)) fun ds => W.pure (d :: ds)) (callM 3 (m_l_sentence n))) env) ds) fun ys => W.pure (.lst ys)) fun d => W.bind (W.pure []) fun ds => W.pure (d :: ds)) (one1 tupleD)) fun e => addD d e) fun d => W.pure (.rt d)
theorem ok_l_sentence {P : Program} {w : World} {K : PySem.W.Frag} {mg : Str → Option Value} {base : Heap} (T : Top P K mg) : ∀ n, FnM P w K mg base T.cm (n + 2) T.a_l_sentence T.fd_l_sentence ["_law_bag_here", "_law_lamps_z", "_law_deep"] (m_l_sentence n)
  | 0 => fnM_none
  | n + 1 => by
    have G_self := ok_l_sentence (P := P) (w := w) (base := base) T n
    have e : n + 1 + 2 = (n + 2) + 1 := by omega
    rw [e]
    exact fnM (k := n + 2) T.F_l_sentence sc_l_sentence fun cdv A outer s H bg J hr hx hpo => (sv_cons (sv_set 3 sc_l_sentence.nd rfl (Or.inl rfl) (ev_call (ok_l_pull T) (hr.mono (by omega)) (by rfl) T.g_l_pull T.F_l_pull.kp T.b_l_pull hx (av_cons (ev_var 0) (av_cons (ev_if (tv_cmp od_gt (ev_var 2) ev_int) ev_int ev_int) av_nil)))) (sv_cons (sv_if (tv_cmp (od_eq hr) (ev_var 3) ev_int) (sv_one (sv_ret (ev_tup (av_cons (ev_str [108, 105, 116]) (av_cons (ev_call (ok_l_of T) (hr.mono (by omega)) (by rfl) T.g_l_of T.F_l_of.kp T.b_l_of hx (av_cons (ev_var 0) (av_cons (ev_var 1) av_nil))) av_nil))))) sv_nil) (sv_cons (sv_if (tv_cmp (od_eq hr) (ev_var 3) ev_int) (sv_one (sv_ret (ev_tup (av_cons (ev_str [108, 101, 97, 115, 116]) (av_cons (ev_op od_add ev_int (ev_call (ok_l_pull T) (hr.mono (by omega)) (by rfl) T.g_l_pull T.F_l_pull.kp T.b_l_pull hx (av_cons (ev_var 0) (av_cons ev_int av_nil)))) (av_cons (ev_call (ok_l_lits T) (hr.mono (by omega)) (by rfl) T.g_l_lits T.F_l_lits.kp T.b_l_lits hx (av_cons (ev_var 0) (av_cons (ev_var 1) av_nil))) av_nil)))))) sv_nil) (sv_cons (sv_if (tv_cmp (od_eq hr) (ev_var 3) ev_int) (sv_one (sv_ret (ev_op od_add (ev_tup (av_cons (ev_str [115, 101, 116, 115]) av_nil)) (ev_callTy ca_tuple (by rfl) T.m_tuple (by decide +kernel) (av_cons (ev_lc (own := [("_law_k", 6)]) rfl sc_l_sentence.nd (iv_range1 (by rfl) T.m_range (av_cons (ev_call (ok_l_pull T) (hr.mono (by omega)) (by rfl) T.g_l_pull T.F_l_pull.kp T.b_l_pull hx (av_cons (ev_var 0) (av_cons ev_int av_nil))) av_nil)) (blkOk_by (own := [("_law_k", 6)]) (N := ["_law_bag_here", "_law_lamps_z", "_law_deep", "_law_way", "_law_word", "_law_many", "_law_k"]) (sc := defScope s_l_sentence) (by decide +kernel)) (fun _ _ _ _ _ => (gv_name 6 sc_l_sentence.nd rfl (Or.inl rfl))) (fun _ _ _ _ _ => ts_nil) (fun _ _ _ _ _ => (ev_call (ok_l_lits T) (hr.mono (by omega)) (by rfl) T.g_l_lits T.F_l_lits.kp T.b_l_lits passNo (av_cons (ev_var 0) (av_cons (ev_var 1) av_nil))))) av_nil))))) sv_nil) (sv_cons (sv_if (tv_cmp (od_eq hr) (ev_var 3) ev_int) (sv_one (sv_ret (ev_tup (av_cons (ev_str [110, 111, 116]) (av_cons (ev_call G_self (hr.mono (by omega)) (by rfl) T.g_l_sentence T.F_l_sentence.kp T.b_l_sentence hx (av_cons (ev_var 0) (av_cons (ev_var 1) (av_cons (ev_op od_sub (ev_var 2) ev_int) av_nil)))) av_nil))))) sv_nil) (sv_cons (sv_par 4 5 rfl sc_l_sentence.nd rfl rfl (by decide) rfl rfl (av_cons (ev_call (ok_l_of T) (hr.mono (by omega)) (by rfl) T.g_l_of T.F_l_of.kp T.b_l_of hx (av_cons (ev_var 0) (av_cons (ev_lst (av_cons (ev_str [97, 110, 100]) (av_cons (ev_str [111, 114]) av_nil))) av_nil))) (av_cons (ev_op od_add ev_int (ev_call (ok_l_pull T) (hr.mono (by omega)) (by rfl) T.g_l_pull T.F_l_pull.kp T.b_l_pull hx (av_cons (ev_var 0) (av_cons (ev_if (tv_cmp (od_eq hr) (ev_var 2) ev_int) ev_int ev_int) av_nil)))) av_nil))) (sv_one (sv_ret (ev_op od_add (ev_tup (av_cons (ev_var 4) av_nil)) (ev_callTy ca_tuple (by rfl) T.m_tuple (by decide +kernel) (av_cons (ev_lc (own := [("_law_k", 6)]) rfl sc_l_sentence.nd (iv_range1 (by rfl) T.m_range (av_cons (ev_var 5) av_nil)) (blkOk_by (own := [("_law_k", 6)]) (N := ["_law_bag_here", "_law_lamps_z", "_law_deep", "_law_way", "_law_word", "_law_many", "_law_k"]) (sc := defScope s_l_sentence) (by decide +kernel)) (fun _ _ _ _ _ => (gv_name 6 sc_l_sentence.nd rfl (Or.inl rfl))) (fun _ _ _ _ _ => ts_nil) (fun _ _ _ _ _ => (ev_call G_self (hr.mono (by omega)) (by rfl) T.g_l_sentence T.F_l_sentence.kp T.b_l_sentence passNo (av_cons (ev_var 0) (av_cons (ev_var 1) (av_cons (ev_op od_sub (ev_var 2) ev_int) av_nil)))))) av_nil)))))))))))
def m_l_holds : Nat → List D → W D
  | 0 => fun _ => W.fail
  | n + 1 => runF 6 fun env => seqF (W.bind (W.bind (lk env 0) fun d => W.bind (W.pure (.int 0)) fun e => ixD d e) fun d => W.pure (.nx (env.set 2 (some d)))) fun env => seqF (W.bind (W.bind (W.bind (lk env 2) fun d => W.bind (W.pure (.str [108, 105, 116])) fun e => eqD d e) ofB) fun k => iteW k (W.bind (W.bind (W.bind (lk env 0) fun d => W.bind (W.pure (.int 1)) fun e => ixD d e) fun d => W.bind (lk env 1) fun e => (inD false) d e) fun d => W.pure (.rt d)) (W.pure (.nx env))) fun env => seqF (W.bind (W.bind (W.bind (lk env 2) fun d => W.bind (W.pure (.str [108, 101, 97, 115, 116])) fun e => eqD d e) ofB) fun k => iteW k (W.bind (W.bind (W.bind (W.bind (W.bind (W.bind (W.bind (lk env 0) fun d => W.bind (W.pure (.int 2)) fun e => ixD d e) seqOf) fun ds => W.bind (compW (turnW [5] (fun d env => W.pure (env.set 5 (some d))) (fun env => W.bind (W.bind (lk env 5) fun d => W.bind (lk env 1) fun e => (inD false) d e) ofB) (fun env => lk env 5) env) ds) fun ys => W.pure (.lst ys)) fun d => W.bind (W.pure []) fun ds => W.pure (d :: ds)) (one1 lenD)) fun d => W.bind (W.bind (lk env 0) fun d => W.bind (W.pure (.int 1)) fun e => ixD d e) fun e => (intOp0 fun i j => .bl (decide (j ≤ i))) d e) fun d => W.pure (.rt d)) (W.pure (.nx env))) fun env => seqF (W.bind (W.bind (W.bind (lk env 2) fun d => W.bind (W.pure (.str [115, 101, 116, 115])) fun e => eqD d e) ofB) fun k => iteW k (W.bind (W.bind (lk env 1) fun d => W.bind (W.bind (lk env 0) fun d => W.bind (W.bind (W.pure (.int 1)) ofI) fun l => W.bind (W.pure none) fun h => slD l h d) fun e => (inD false) d e) fun d => W.pure (.rt d)) (W.pure (.nx env))) fun env => seqF (W.bind (W.bind (W.bind (W.bind (lk env 0) fun d => W.bind (W.bind (W.pure (.int 1)) ofI) fun l => W.bind (W.pure none) fun h => slD l h d) seqOf) (compW (turnW [4] (fun d env => W.pure (env.set 4 (some d))) (fun _ => W.pure true) (fun env => W.bind (W.bind (lk env 4) fun d => W.bind (W.bind (lk env 1) fun d => W.bind (W.pure []) fun ds => W.pure (d :: ds)) fun ds => W.pure (d :: ds)) (callM 2 (m_l_holds n))) env))) fun ys => W.pure (.nx (env.set 3 (some (.lst ys))))) fun env => seqF (W.bind (W.bind (W.bind (lk env 2) fun d => W.bind (W.pure (.str [110, 111, 116])) fun e => eqD d e) ofB) fun k => iteW k (W.bind (W.bind (W.bind (W.bind (lk env 3) fun d => W.bind (W.pure (.int 0)) fun e => ixD d e) ofB) fun k => W.pure (.bl (!k))) fun d => W.pure (.rt d)) (W.pure (.nx env))) fun env => W.bind (W.bind (W.bind (W.bind (lk env 2) fun d => W.bind (W.pure (.str [97, 110, 100])) fun e => eqD d e) ofB) fun k => iteW k (W.bind (W.bind (lk env 3) fun d => W.bind (W.pure []) fun ds => W.pure (d :: ds)) (one1 (allB fun bs => bs.all id))) (W.bind (W.bind (lk env 3) fun d => W.bind (W.pure []) fun ds => W.pure (d :: ds)) (one1 (allB fun bs => bs.any id)))) fun d => W.pure (.rt d)
theorem ok_l_holds {P : Program} {w : World} {K : PySem.W.Frag} {mg : Str → Option Value} {base : Heap} (T : Top P K mg) : ∀ n, FnM P w K mg base T.cm (n + 0) T.a_l_holds T.fd_l_holds ["_law_sentence_z", "_law_lit"] (m_l_holds n)
  | 0 => fnM_none
  | n + 1 => by
    have G_self := ok_l_holds (P := P) (w := w) (base := base) T n
    have e : n + 1 + 0 = (n + 0) + 1 := by omega
    rw [e]
    exact fnM (k := n + 0) T.F_l_holds sc_l_holds fun cdv A outer s H bg J hr hx hpo => (sv_cons (sv_set 2 sc_l_holds.nd rfl (Or.inl rfl) (ev_ix (ev_var 0) ev_int)) (sv_cons (sv_if (tv_cmp (od_eq hr) (ev_var 2) (ev_str [108, 105, 116])) (sv_one (sv_ret (ev_cmp (od_in hr) (ev_ix (ev_var 0) ev_int) (ev_var 1)))) sv_nil) (sv_cons (sv_if (tv_cmp (od_eq hr) (ev_var 2) (ev_str [108, 101, 97, 115, 116])) (sv_one (sv_ret (ev_cmp od_ge (ev_callB ca_len (by rfl) T.m_len PySem.boot_len (av_cons (ev_lc (own := [("_law_lamp", 5)]) rfl sc_l_holds.nd (iv_seq (ev_ix (ev_var 0) ev_int)) (blkOk_by (own := [("_law_lamp", 5)]) (N := ["_law_sentence_z", "_law_lit", "_law_word", "_law_told", "_law_part", "_law_lamp"]) (sc := defScope s_l_holds) (by decide +kernel)) (fun _ _ _ _ _ => (gv_name 5 sc_l_holds.nd rfl (Or.inl rfl))) (fun _ _ _ _ _ => (ts_one (tv_cmp (od_in hr) (ev_var 5) (ev_var 1)))) (fun _ _ _ _ _ => (ev_var 5))) av_nil)) (ev_ix (ev_var 0) ev_int)))) sv_nil) (sv_cons (sv_if (tv_cmp (od_eq hr) (ev_var 2) (ev_str [115, 101, 116, 115])) (sv_one (sv_ret (ev_cmp (od_in hr) (ev_var 1) (ev_slice (ev_var 0) (ov_some ev_int) ov_none)))) sv_nil) (sv_cons (sv_lcD (sv_setLc 3 (own := [("_law_part", 4)]) rfl sc_l_holds.nd rfl rfl (sw_true rfl rfl rfl (by decide +kernel)) (iv_seq (ev_slice (ev_var 0) (ov_some ev_int) ov_none)) (blkOk_by (own := [("_law_part", 4)]) (N := ["_law_sentence_z", "_law_lit", "_law_word", "_law_told", "_law_part", "_law_lamp"]) (sc := defScope s_l_holds) (by decide +kernel)) (fun _ _ _ _ _ => (gv_name 4 sc_l_holds.nd rfl (Or.inl rfl))) (fun _ _ _ _ _ => ts_nil) (fun _ _ _ _ _ => (ev_call G_self (hr.mono (by omega)) (by rfl) T.g_l_holds T.F_l_holds.kp T.b_l_holds passNo (av_cons (ev_var 4) (av_cons (ev_var 1) av_nil)))))) (sv_cons (sv_if (tv_cmp (od_eq hr) (ev_var 2) (ev_str [110, 111, 116])) (sv_one (sv_ret (ev_not (ev_ix (ev_var 3) ev_int)))) sv_nil) (sv_one (sv_ret (ev_if (tv_cmp (od_eq hr) (ev_var 2) (ev_str [97, 110, 100])) (ev_callB (ca_all rfl) (by rfl) T.m_all (by decide +kernel) (av_cons (ev_var 3) av_nil)) (ev_callB (ca_any rfl) (by rfl) T.m_any (by decide +kernel) (av_cons (ev_var 3) av_nil)))))))))))
def m_l_aim : List D → W D := runF 4 fun env => seqF (W.bind (W.bind (W.bind (W.bind (W.bind (lk env 0) fun d => W.bind (W.bind (W.pure (.int 3)) fun d => W.bind (W.pure []) fun ds => W.pure (d :: ds)) fun ds => W.pure (d :: ds)) (callM 2 m_l_pull)) fun d => W.bind (W.pure (.int 0)) fun e => eqD d e) ofB) fun k => iteW k (W.bind (W.bind (W.bind (W.bind (W.pure (.str [115, 101, 116, 115])) fun d => W.bind (W.pure []) fun ds => W.pure (d :: ds)) mkTup) fun d => W.bind (W.bind (W.bind (W.bind (W.bind (W.bind (W.bind (lk env 1) fun d => W.bind (W.pure []) fun ds => W.pure (d :: ds)) (callM 1 m_l_sets)) seqOf) fun ds => W.bind (compW (turnW [3] (fun d env => W.pure (env.set 3 (some d))) (fun env => W.bind (W.bind (W.bind (W.bind (lk env 0) fun d => W.bind (W.bind (W.pure (.int 2)) fun d => W.bind (W.pure []) fun ds => W.pure (d :: ds)) fun ds => W.pure (d :: ds)) (callM 2 m_l_pull)) fun d => W.bind (W.pure (.int 0)) fun e => eqD d e) ofB) (fun env => lk env 3) env) ds) fun ys => W.pure (.lst ys)) fun d => W.bind (W.pure []) fun ds => W.pure (d :: ds)) (one1 tupleD)) fun e => addD d e) fun d => W.pure (.nx (env.set 2 (some d)))) (W.bind (W.bind (W.bind (lk env 0) fun d => W.bind (W.bind (lk env 1) fun d => W.bind (W.bind (W.pure (.int 2)) fun d => W.bind (W.pure []) fun ds => W.pure (d :: ds)) fun ds => W.pure (d :: ds)) fun ds => W.pure (d :: ds)) (callM 3 (m_l_sentence 4))) fun d => W.pure (.nx (env.set 2 (some d))))) fun env => W.bind (W.bind (W.bind (lk env 2) fun d => W.bind (W.bind (W.bind (W.bind (W.bind (W.bind (lk env 1) fun d => W.bind (W.pure []) fun ds => W.pure (d :: ds)) (callM 1 m_l_sets)) seqOf) fun ds => W.bind (compW (turnW [3] (fun d env => W.pure (env.set 3 (some d))) (fun env => W.bind (W.bind (W.bind (lk env 2) fun d => W.bind (W.bind (lk env 3) fun d => W.bind (W.pure []) fun ds => W.pure (d :: ds)) fun ds => W.pure (d :: ds)) (callM 2 (m_l_holds 5))) truD) (fun env => lk env 3) env) ds) fun ys => W.pure (.lst ys)) fun d => W.bind (W.pure []) fun ds => W.pure (d :: ds)) fun ds => W.pure (d :: ds)) mkTup) fun d => W.pure (.rt d)
theorem ok_l_aim {P : Program} {w : World} {K : PySem.W.Frag} {mg : Str → Option Value} {base : Heap} (T : Top P K mg) (TS : LamX.TabB base mg T.cd_l_sets T.tb_l_sets) : FnT P w K mg base T.cm T.tbs 7 T.a_l_aim T.fd_l_aim ["_law_bag_here", "_law_lamps_z"] m_l_aim :=
  fnT (k := 6) T.F_l_aim sc_l_aim fun cdv A outer s H bg J hr hx hpo => (sv_cons (sv_if (tv_cmp (od_eq hr) (ev_call (ok_l_pull T) (hr.mono (by decide)) (by rfl) T.g_l_pull T.F_l_pull.kp T.b_l_pull hx (av_cons (ev_var 0) (av_cons ev_int av_nil))) ev_int) (sv_one (sv_set 2 sc_l_aim.nd rfl (Or.inr rfl) (ev_op od_add (ev_tup (av_cons (ev_str [115, 101, 116, 115]) av_nil)) (ev_callTy ca_tuple (by rfl) T.m_tuple (by decide +kernel) (av_cons (ev_lc (own := [("_law_lit", 3)]) rfl sc_l_aim.nd (iv_seq (ev_callT SubT.self (ok_l_sets T TS) (hr.mono (by decide)) (by rfl) T.g_l_sets T.F_l_sets.kp T.b_l_sets hx (av_cons (ev_var 1) av_nil))) (blkOk_by (own := [("_law_lit", 3)]) (N := ["_law_bag_here", "_law_lamps_z", "_law_sentence_z", "_law_lit"]) (sc := defScope s_l_aim) (by decide +kernel)) (fun _ _ _ _ _ => (gv_name 3 sc_l_aim.nd rfl (Or.inl rfl))) (fun _ _ _ _ _ => (ts_one (tv_cmp (od_eq hr) (ev_call (ok_l_pull T) (hr.mono (by decide)) (by rfl) T.g_l_pull T.F_l_pull.kp T.b_l_pull passNo (av_cons (ev_var 0) (av_cons ev_int av_nil))) ev_int))) (fun _ _ _ _ _ => (ev_var 3))) av_nil))))) (sv_one (sv_set 2 sc_l_aim.nd rfl (Or.inr rfl) (ev_call (ok_l_sentence T 4) (hr.mono (by decide)) (by rfl) T.g_l_sentence T.F_l_sentence.kp T.b_l_sentence hx (av_cons (ev_var 0) (av_cons (ev_var 1) (av_cons ev_int av_nil))))))) (sv_one (sv_ret (ev_tup (av_cons (ev_var 2) (av_cons (ev_lc (own := [("_law_lit", 3)]) rfl sc_l_aim.nd (iv_seq (ev_callT SubT.self (ok_l_sets T TS) (hr.mono (by decide)) (by rfl) T.g_l_sets T.F_l_sets.kp T.b_l_sets hx (av_cons (ev_var 1) av_nil))) (blkOk_by (own := [("_law_lit", 3)]) (N := ["_law_bag_here", "_law_lamps_z", "_law_sentence_z", "_law_lit"]) (sc := defScope s_l_aim) (by decide +kernel)) (fun _ _ _ _ _ => (gv_name 3 sc_l_aim.nd rfl (Or.inl rfl))) (fun _ _ _ _ _ => (ts_one (tv_val (ev_call (ok_l_holds T 5) (hr.mono (by decide)) (by rfl) T.g_l_holds T.F_l_holds.kp T.b_l_holds passNo (av_cons (ev_var 2) (av_cons (ev_var 3) av_nil)))))) (fun _ _ _ _ _ => (ev_var 3))) av_nil))))))
end Rg

set_option Elab.async false
set_option linter.all false
set_option maxRecDepth 100000
set_option maxHeartbeats 4500000
namespace Rg
open PySem PySem.Spec PyProof.Rows LamX L2
def lams : Nat → LamT
  | 0 => lamOf s_law true (argE (argE (exS (subS ((defBody s_law).getD 1 (.Pass ⟨0, 0, 0, 0⟩)) 8)) 0) 1)
  | _ => lamOf s_law false (argE (argE (exS (subS ((defBody s_law).getD 1 (.Pass ⟨0, 0, 0, 0⟩)) 8)) 0) 0)
theorem lams_all {p : LamT → Prop} (h0 : p (lams 0)) (h1 : p (lams 1)) : ∀ i, p (lams i)
  | 0 => h0
  | _ + 1 => h1
theorem lamsL : ∀ i, LamN (["_law_script", "_law_bag_here", "_law_turn", "_law_lamps_z", "_law_sentence_z", "_law_true", "_law_goal", "_law_lit", "_law_told", "_law_odd", "_law_some"] : List Str) (defScope s_law) (lams i).scope := lams_all (p := fun l => LamN (["_law_script", "_law_bag_here", "_law_turn", "_law_lamps_z", "_law_sentence_z", "_law_true", "_law_goal", "_law_lit", "_law_told", "_law_odd", "_law_some"] : List Str) (defScope s_law) l.scope) (lamN_by (by decide +kernel)) (lamN_by (by decide +kernel))
theorem lamsN : ∀ i y, (y, NameKind.free) ∈ (lams i).scope.names → y ∈ (["_law_script", "_law_bag_here", "_law_turn", "_law_lamps_z", "_law_sentence_z", "_law_true", "_law_goal", "_law_lit", "_law_told", "_law_odd", "_law_some"] : List Str) := lams_all (p := fun l => ∀ y, (y, NameKind.free) ∈ l.scope.names → y ∈ (["_law_script", "_law_bag_here", "_law_turn", "_law_lamps_z", "_law_sentence_z", "_law_true", "_law_goal", "_law_lit", "_law_told", "_law_odd", "_law_some"] : List Str)) (freeN_by (by decide +kernel)) (freeN_by (by decide +kernel))
theorem lamsP {X : Cx} : ∀ i, (lams i).plain X := lams_all (p := fun l => l.plain X) (.inr ⟨rfl, _, _, _, rfl, rfl⟩) (.inl ⟨rfl, rfl⟩)
theorem lamsB {X : Cx} : ∀ i, (lams i).binds X := lams_all (p := fun l => l.binds X) (LamT.binds1 (a := "_law_a") rfl rfl (fun _ _ _ _ _ => ⟨_, rfl, fun _ => rfl⟩)) (LamT.binds0 rfl (fun _ _ _ _ => rfl))
def mbL : Nat → Ev → W D
  | 0 => fun env => W.bind (lk env 9) fun d => W.bind (lk env 6) fun e => inO "Goal" m_M_Goal_contains d e
  | _ => fun env => W.bind (lk env 6) fun d => W.bind (insOf "Goal" d) fun _ => W.bind (W.bind (lk env 9) fun d => W.bind (W.pure []) fun ds => W.pure (d :: ds)) fun ds => callM 2 m_M_Goal_call (d :: ds)
def mb_law : Ev → W Fl := fun env => seqF (W.bind (W.bind (W.bind (W.pure (.int 7)) fun d => W.bind (W.pure []) fun ds => W.pure (d :: ds)) rng1) fun ds => forW (fun x env => W.bind (W.noX ((fun d env => W.pure (env.set 2 (some d))) x env)) fun env => seqF (W.bind (W.bind (W.bind (lk env 1) fun d => W.bind (W.bind (W.pure (.int 9)) fun d => W.bind (W.pure []) fun ds => W.pure (d :: ds)) fun ds => W.pure (d :: ds)) (callM 2 m_l_lamps)) fun d => W.pure (.nx (env.set 3 (some d)))) fun env => seqF (W.bind (W.bind (W.bind (lk env 1) fun d => W.bind (W.bind (lk env 3) fun d => W.bind (W.pure []) fun ds => W.pure (d :: ds)) fun ds => W.pure (d :: ds)) (callM 2 m_l_aim)) fun d => W.bind (W.noX ((gTupW 2 (gConsW (fun d env => W.pure (env.set 4 (some d))) (gConsW (fun d env => W.pure (env.set 5 (some d))) (gNilW)))) d env)) fun env' => W.pure (.nx env')) fun env => seqF (W.bind (W.bind (W.bind (lk env 4) fun d => W.bind (W.bind (lk env 3) fun d => W.bind (W.pure []) fun ds => W.pure (d :: ds)) fun ds => W.pure (d :: ds)) fun ds => W.bind (W.need (ds.length = 2)) fun _ => makeM "Goal" 2 m_M_Goal_init (pick ds [1, 0])) fun d => W.pure (.nx (env.set 6 (some d)))) fun env => seqF (W.bind (W.bind (W.bind (W.bind (lk env 3) fun d => W.bind (W.pure []) fun ds => W.pure (d :: ds)) (callM 1 m_l_sets)) seqOf) fun ds => forW (fun x env => W.bind (W.noX ((fun d env => W.pure (env.set 7 (some d))) x env)) fun env => W.bind (W.bind (W.bind (W.bind (W.bind (W.bind (W.bind (W.bind (lk env 6) fun d => W.bind (insOf "Goal" d) fun _ => W.bind (W.bind (lk env 7) fun d => W.bind (W.pure []) fun ds => W.pure (d :: ds)) fun ds => callM 2 m_M_Goal_call (d :: ds)) fun d => W.bind (W.bind (W.bind (lk env 6) fun d => W.bind (insOf "Goal" d) fun _ => W.bind (W.bind (lk env 7) fun d => W.bind (W.pure []) fun ds => W.pure (d :: ds)) fun ds => W.bind (W.need (ds.length = 1)) fun _ => callM 2 m_M_Goal_call (selfK [0] [d] ds)) fun d => W.bind (W.bind (W.bind (lk env 7) fun d => W.bind (lk env 6) fun e => inO "Goal" m_M_Goal_contains d e) fun d => W.bind (W.pure []) fun ds => W.pure (d :: ds)) fun ds => W.pure (d :: ds)) fun ds => W.pure (d :: ds)) mkLst) fun d => W.bind (W.bind (W.bind (W.bind (W.bind (W.bind (lk env 7) fun d => W.bind (lk env 5) fun e => (inD false) d e) fun d => W.bind (W.pure []) fun ds => W.pure (d :: ds)) mkLst) fun d => W.bind (W.pure (.int 3)) fun e => mulL d e) fun d => W.bind (W.pure []) fun ds => W.pure (d :: ds)) fun ds => W.pure (d :: ds)) (callM 2 (m_l_same 6))) truD) fun k => W.pure (!k)) fun k => iteW k (W.bind (W.pure (.bl false)) fun d => W.pure (.rt d)) (W.pure (.nx env))) ds env) fun env => seqF (W.bind (W.bind (W.bind (W.bind (lk env 6) fun d => W.bind (insOf "Goal" d) fun gs => W.bind (W.need (gs.lookup ("sets" : Str) = none)) fun _ => callM 1 m_M_Goal_sets [d]) fun d => W.bind (W.bind (W.bind (lk env 6) fun d => W.bind (insOf "Goal" d) fun _ => W.noX (m_M_Goal_lamps [d])) fun d => W.bind (W.bind (W.bind (lk env 6) fun d => W.bind (insOf "Goal" d) fun _ => W.noX (m_M_Goal_sentence [d])) fun d => W.bind (W.bind (W.bind (W.bind (lk env 6) fun d => W.bind (W.pure []) fun ds => W.pure (d :: ds)) (one1 (lenO "Goal" m_M_Goal_len))) fun d => W.bind (W.bind (W.bind (W.bind (lk env 6) fun d => W.bind (W.pure []) fun ds => W.pure (d :: ds)) (one1 (reprO "Goal" m_M_Goal_repr))) fun d => W.bind (W.pure []) fun ds => W.pure (d :: ds)) fun ds => W.pure (d :: ds)) fun ds => W.pure (d :: ds)) fun ds => W.pure (d :: ds)) fun ds => W.pure (d :: ds)) mkLst) fun d => W.pure (.nx (env.set 8 (some d)))) fun env => seqF (W.bind (W.bind (W.bind (W.bind (W.bind (lk env 8) fun d => W.bind (W.bind (W.bind (W.bind (lk env 5) fun d => W.bind (W.bind (lk env 3) fun d => W.bind (W.bind (lk env 4) fun d => W.bind (W.bind (W.bind (W.bind (lk env 5) fun d => W.bind (W.pure []) fun ds => W.pure (d :: ds)) (one1 lenD)) fun d => W.bind (W.bind (W.bind (W.bind (W.bind (W.bind (W.pure (.str [71, 111, 97, 108, 40])) fun d => W.bind (lk env 3) fun e => addD d e) fun d => W.bind (W.pure (.str [44, 32])) fun e => addD d e) fun d => W.bind (W.bind (W.bind (W.bind (W.bind (lk env 5) fun d => W.bind (W.pure []) fun ds => W.pure (d :: ds)) (one1 lenD)) fun d => W.bind (W.pure []) fun ds => W.pure (d :: ds)) (one1 strD)) fun e => addD d e) fun d => W.bind (W.pure (.str [32, 115, 101, 116, 115, 41])) fun e => addD d e) fun d => W.bind (W.pure []) fun ds => W.pure (d :: ds)) fun ds => W.pure (d :: ds)) fun ds => W.pure (d :: ds)) fun ds => W.pure (d :: ds)) fun ds => W.pure (d :: ds)) mkLst) fun d => W.bind (W.pure []) fun ds => W.pure (d :: ds)) fun ds => W.pure (d :: ds)) (callM 2 (m_l_same 6))) truD) fun k => W.pure (!k)) fun k => iteW k (W.bind (W.pure (.bl false)) fun d => W.pure (.rt d)) (W.pure (.nx env))) fun env => seqF (W.bind (W.bind (lk env 6) fun d => W.bind (insOf "Goal" d) fun gs => W.bind (W.need (gs.lookup ("sets" : Str) = none)) fun _ => callO 1 o_M_Goal_sets [d]) fun ds => W.bind (W.pure (.str [113])) fun (_ : D) => W.pure (.nx env)) fun env => seqF (W.bind (W.bind (W.bind (lk env 1) fun d => W.bind (W.bind (W.bind (W.bind (W.pure (.str [113])) fun d => W.bind (W.bind (W.bind (lk env 3) fun d => W.bind (lk env 3) fun e => addD d e) fun d => W.bind (W.bind (W.pure .non) fun d => W.bind (W.bind (W.pure (.int 3)) fun d => W.bind (W.bind (W.bind (W.bind (lk env 3) fun d => W.bind (W.pure []) fun ds => W.pure (d :: ds)) mkLst) fun d => W.bind (W.bind (W.bind (W.bind (lk env 3) revSD) fun d => W.bind (W.pure (.str [65])) fun e => addD d e) fun d => W.bind (W.bind (W.pure (.str [65])) fun d => W.bind (W.pure []) fun ds => W.pure (d :: ds)) fun ds => W.pure (d :: ds)) fun ds => W.pure (d :: ds)) fun ds => W.pure (d :: ds)) fun ds => W.pure (d :: ds)) fun ds => W.pure (d :: ds)) fun ds => W.pure (d :: ds)) mkLst) fun d => W.bind (W.pure []) fun ds => W.pure (d :: ds)) fun ds => W.pure (d :: ds)) (callM 2 m_l_of)) fun d => W.pure (.nx (env.set 9 (some d)))) fun env => seqF (W.bind (W.bind (W.bind (W.bind (W.pure (.lam 1)) fun d => W.bind (W.bind (W.pure (.lam 0)) fun d => W.bind (W.pure []) fun ds => W.pure (d :: ds)) fun ds => W.pure (d :: ds)) mkLst) fun d => W.bind (W.need (noOwn env)) fun _ => W.bind (W.noX ((whysM fun i => mbL i env) [d])) fun r => W.bind (W.need (noLam r = true)) fun _ => W.pure r) fun d => W.pure (.nx (env.set 8 (some d)))) fun env => W.bind (W.bind (W.bind (W.bind (W.bind (W.bind (lk env 8) fun d => W.bind (W.bind (W.bind (W.bind (W.bind (W.bind (W.bind (W.pure (.str [73, 110, 118, 97, 108, 105, 100, 83, 101, 116])) fun d => W.bind (W.bind (lk env 9) fun d => W.bind (W.pure []) fun ds => W.pure (d :: ds)) fun ds => W.pure (d :: ds)) mkTup) fun d => W.bind (W.pure []) fun ds => W.pure (d :: ds)) mkLst) fun d => W.bind (W.pure (.int 2)) fun e => mulL d e) fun d => W.bind (W.pure []) fun ds => W.pure (d :: ds)) fun ds => W.pure (d :: ds)) (callM 2 (m_l_same 6))) truD) fun k => W.pure (!k)) fun k => iteW k (W.pure true) (W.bind (W.bind (W.bind (lk env 6) fun d => W.bind (insOf "Goal" d) fun gs => W.bind (W.need (gs.lookup ("sets" : Str) = none)) fun _ => callM 1 m_M_Goal_sets [d]) fun d => W.bind (lk env 5) fun e => neD d e) ofB)) fun k => iteW k (W.bind (W.pure (.bl false)) fun d => W.pure (.rt d)) (W.pure (.nx env))) ds env) fun env => seqF (W.bind (W.bind (W.bind (W.pure (.str [97, 98, 99, 100])) fun d => W.bind (W.bind (W.bind (W.bind (W.pure (.str [108, 101, 97, 115, 116])) fun d => W.bind (W.bind (W.pure (.int 2)) fun d => W.bind (W.bind (W.pure (.str [97, 99, 100])) fun d => W.bind (W.pure []) fun ds => W.pure (d :: ds)) fun ds => W.pure (d :: ds)) fun ds => W.pure (d :: ds)) mkTup) fun d => W.bind (W.pure []) fun ds => W.pure (d :: ds)) fun ds => W.pure (d :: ds)) (makeM "Goal" 2 m_M_Goal_init)) fun d => W.pure (.nx (env.set 10 (some d)))) fun env => W.bind (W.bind (W.bind (W.bind (W.bind (lk env 10) fun d => W.bind (insOf "Goal" d) fun _ => W.bind (W.bind (W.pure (.str [97, 98])) fun d => W.bind (W.pure []) fun ds => W.pure (d :: ds)) fun ds => callM 2 m_M_Goal_call (d :: ds)) fun d => W.bind (W.bind (W.bind (lk env 10) fun d => W.bind (insOf "Goal" d) fun _ => W.bind (W.bind (W.pure (.str [99, 100])) fun d => W.bind (W.pure []) fun ds => W.pure (d :: ds)) fun ds => callM 2 m_M_Goal_call (d :: ds)) fun d => W.bind (W.bind (W.bind (lk env 10) fun d => W.bind (insOf "Goal" d) fun _ => W.bind (W.bind (W.pure (.str [97, 98, 100])) fun d => W.bind (W.pure []) fun ds => W.pure (d :: ds)) fun ds => callM 2 m_M_Goal_call (d :: ds)) fun d => W.bind (W.bind (W.bind (lk env 10) fun d => W.bind (insOf "Goal" d) fun _ => W.bind (W.bind (W.pure (.str [])) fun d => W.bind (W.pure []) fun ds => W.pure (d :: ds)) fun ds => callM 2 m_M_Goal_call (d :: ds)) fun d => W.bind (W.pure []) fun ds => W.pure (d :: ds)) fun ds => W.pure (d :: ds)) fun ds => W.pure (d :: ds)) fun ds => W.pure (d :: ds)) mkLst) fun d => W.bind (W.bind (W.bind (W.pure (.bl false)) fun d => W.bind (W.bind (W.pure (.bl true)) fun d => W.bind (W.bind (W.pure (.bl true)) fun d => W.bind (W.bind (W.pure (.bl false)) fun d => W.bind (W.pure []) fun ds => W.pure (d :: ds)) fun ds => W.pure (d :: ds)) fun ds => W.pure (d :: ds)) fun ds => W.pure (d :: ds)) mkLst) fun e => eqD d e) fun d => W.pure (.rt d)
theorem Top.okField {P : Program} {w : World} {K : PySem.W.Frag} {mg : Str → Option Value} {base : Heap} (T : Top P K mg) : FnQ P w K mg base 2 T.a_l_field T.fd_l_field ["_law_one"] (sp_fld K fld) := ok_field (k := 0) T.F_l_field T.F_l_part_of T.b_l_part_of T.g_l_part_of T.F_l_last_field T.b_l_last_field T.g_l_last_field
theorem Top.errK {P : Program} {K : PySem.W.Frag} {mg : Str → Option Value} (T : Top P K mg) : ∀ c ∈ (["InvalidSet"] : List Str), ∀ C, T.cm c = some C → ErrK K C ∧ PySem.W.exmAny K (.ref C) [.ref T.N_GoalError, .ref T.N_UnknownName, .ref T.N_NothingLeft] = some true := by
  intro c hc C hC
  rcases (List.mem_cons (a := c)).mp hc with rfl | hc
  · rw [T.cm_InvalidSet] at hC
    cases hC
    exact ⟨T.ek_InvalidSet, T.ex_InvalidSet⟩
  cases hc
abbrev lawX {P : Program} (w : World) {K : PySem.W.Frag} {mg : Str → Option Value} (base : Heap) (T : Top P K mg) (A : Around) (outer : List Env) (s : Shared) (H : Hp) (E : XK) : Cx := (cxOf CX0 P w K mg base (["_law_script", "_law_bag_here", "_law_turn", "_law_lamps_z", "_law_sentence_z", "_law_true", "_law_goal", "_law_lit", "_law_told", "_law_odd", "_law_some"] : List Str) "law" (defScope s_law) T.a_law (.ref T.cd_law) A outer s H E).nox
abbrev lawZ {P : Program} (w : World) {K : PySem.W.Frag} {mg : Str → Option Value} (base : Heap) (T : Top P K mg) (A : Around) (outer : List Env) (s : Shared) (H : Hp) (E : XK) (bag : Option (Addr × Addr)) : Zk := ⟨T.cm, ⟨bag, (T.tb_law, (envOfC "law" (defScope s_law) 0 T.a_law (.ref T.cd_law)).qual ++ "<lambda>") :: T.tbs, lmOf (lawX w base T A outer s H E) lams⟩⟩
theorem lams_do {P : Program} {w : World} {K : PySem.W.Frag} {mg : Str → Option Value} {base : Heap} (T : Top P K mg) (A : Around) (outer : List Env) (s : Shared) (H : Hp) (E : XK) (bag : Option (Addr × Addr)) : ∀ i (A' : Around) (outer' : List Env) (s' : Shared) (H' : Hp) (f c' : Addr) (J' : Jx K (lawZ w base T A outer s H E bag).low), Room 7 (A'.deeper (LamX.lamEnv (lawX w base T A outer s H E) (lams i).scope s'.heap.objs.size f c')) → Passes (L2.CX P w) (LamX.lamCx (lawX w base T A outer s H E) A' outer' s' H' J'.E (lams i).scope f c') J'.E → EV (LamX.lamCx (lawX w base T A outer s H E) A' outer' s' H' J'.E (lams i).scope f c') (z := (lawZ w base T A outer s H E bag).low) J' (lams i).body (mbL i)
    | 0 => fun A outer s H f c' J' hr hxx => (ev_inO T.cm_Goal T.me_Goal___contains__.at_ T.me_Goal___contains__.fn (ok_M_Goal_contains T) (hr.mono (by decide)) T.b_M_Goal_contains hxx (ev_var 9) (ev_var 6))
    | _ + 1 => fun A outer s H f c' J' hr hxx => (ev_callO T.cm_Goal ⟨T.me_Goal___call__.at_, T.me_Goal___call__.fn, fun_fnIn T.F_M_Goal_call⟩ (ok_M_Goal_call T) (hr.mono (by decide)) T.b_M_Goal_call hxx (ev_var 6) (av_cons (ev_var 9) av_nil))
theorem asked_why {P : Program} {w : World} {K : PySem.W.Frag} {mg : Str → Option Value} {base : Heap} (T : Top P K mg) (A : Around) (outer : List Env) (s : Shared) (H : Hp) (E : XK) (bag : Option (Addr × Addr)) : Asked (lawX w base T A outer s H E) (lawZ w base T A outer s H E bag) lams mbL 9 T.a_l_why T.fd_l_why "_law_ask" (whyW ["InvalidSet"]) :=
  asked_by (k := 7) rfl (conv_why T.errK) T.F_l_why sc_l_why rfl (Or.inl rfl) (fun A outer cdv hr => why_gives (k := 0) (hr.mono (by decide)) T.okField T.F_l_field.kp T.b_l_field T.g_l_field T.n_GoalError T.n_UnknownName T.n_NothingLeft) lamsL lamsB (lams_do T A outer s H E bag) (fun A outer s H E sc f c' => passes_call (takes_of rfl rfl rfl rfl) (fun _ _ _ _ h => h))
theorem asked_whys {P : Program} {w : World} {K : PySem.W.Frag} {mg : Str → Option Value} {base : Heap} (T : Top P K mg) (A : Around) (outer : List Env) (s : Shared) (H : Hp) (E : XK) (bag : Option (Addr × Addr)) : ∀ σ C env Gw, (lawX w base T A outer s H E).Ok → σ.length = (lawX w base T A outer s H E).N.length → (∀ i, HoldC (lawX w base T A outer s H E) (lams i).scope σ C) → EnvD K (lawZ w base T A outer s H E bag).low Gw σ env → noOwn env → FnOk P w K mg base C8.CX0 10 T.a_l_whys T.fd_l_whys ["_law_asks"] (spShown K (lawZ w base T A outer s H E bag).low Gw (whysM fun i => mbL i env) C) := by
  intro σ C env Gw ok len hold en no
  have A_why := asked_why (P := P) (w := w) (base := base) T A outer s H E bag
  generalize hms : (fun i => mbL i env) = ms
  subst hms
  exact fn_shown (k := 9) T.F_l_whys sc_l_whys rfl fun cdv A outer s H E G hr win sm => (sv_one (sv_ret (ev_lc (own := [("_law_ask", 1)]) rfl sc_l_whys.nd (iv_seq (ev_var 0)) (blkOk_by (own := [("_law_ask", 1)]) (N := ["_law_asks", "_law_ask"]) (sc := defScope s_l_whys) (by decide +kernel)) (fun _ _ _ _ _ => (gv_name 1 sc_l_whys.nd rfl (Or.inl rfl))) (fun _ _ _ _ _ => ts_nil) (fun _ _ _ _ _ => (A_why.ev ok len hold en no win sm hr (by rfl) T.g_l_why T.F_l_why.kp T.b_l_why (av_cons (ev_var 1) av_nil))))))
theorem sv_law {P : Program} {w : World} {K : PySem.W.Frag} {mg : Str → Option Value} {base : Heap} (T : Top P K mg) (TB : LamX.TabB base mg T.cd_law T.tb_law) (TS : LamX.TabB base mg T.cd_l_sets T.tb_l_sets) (A : Around) (outer : List Env) (s : Shared) (H : Hp) (E : XK) (hr : Room 10 (A.deeper (envOfC "law" (defScope s_law) s.heap.objs.size T.a_law (.ref T.cd_law)))) (bag : Option (Addr × Addr)) (G0 H0 : Hp) :
    SVs (lawX w base T A outer s H E) (Jx.calm (z := (lawZ w base T A outer s H E bag)) G0 H0) ((defBody s_law).drop 1) mb_law := by
  have A_why := asked_why (P := P) (w := w) (base := base) T A outer s H E bag
  have A_whys := asked_whys (P := P) (w := w) (base := base) T A outer s H E bag
  exact (sv_cons (sv_for PassesOwn.never rfl (iv_range1 (by rfl) T.m_range (av_cons ev_int av_nil)) (gv_name 2 sc_law.nd rfl (Or.inl rfl)) (sv_cons (sv_set 3 sc_law.nd rfl (Or.inl rfl) (ev_call (ok_l_lamps T) (hr.mono (by decide)) (by rfl) T.g_l_lamps T.F_l_lamps.kp T.b_l_lamps passNo (av_cons (ev_var 1) (av_cons ev_int av_nil)))) (sv_cons (sv_asg (ev_callT (subT_cons rfl T.ne_tbs) (ok_l_aim T TS) (hr.mono (by decide)) (by rfl) T.g_l_aim T.F_l_aim.kp T.b_l_aim passNo (av_cons (ev_var 1) (av_cons (ev_var 3) av_nil))) (gv_tup rfl (gvs_cons (gv_name 4 sc_law.nd rfl (Or.inl rfl)) (gvs_cons (gv_name 5 sc_law.nd rfl (Or.inl rfl)) gvs_nil)))) (sv_cons (sv_set 6 sc_law.nd rfl (Or.inr rfl) (ev_makeK [1, 0] T.cm_Goal T.M_Goal (ok_M_Goal_init T) (hr.mono (by decide)) (by rfl) T.c_Goal T.kn_M_Goal_init_1_0 passNo (kv_cons (ev_var 4) (kv_cons (ev_var 3) kv_nil)))) (sv_cons (sv_for PassesOwn.never rfl (iv_seq (ev_callT (subT_cons rfl T.ne_tbs) (ok_l_sets T TS) (hr.mono (by decide)) (by rfl) T.g_l_sets T.F_l_sets.kp T.b_l_sets passNo (av_cons (ev_var 3) av_nil))) (gv_name 7 sc_law.nd rfl (Or.inl rfl)) (sv_one (sv_if (tv_not (tv_val (ev_call (ok_l_same T 6) (hr.mono (by decide)) (by rfl) T.g_l_same T.F_l_same.kp T.b_l_same passNo (av_cons (ev_lst (av_cons (ev_callO T.cm_Goal ⟨T.me_Goal___call__.at_, T.me_Goal___call__.fn, fun_fnIn T.F_M_Goal_call⟩ (ok_M_Goal_call T) (hr.mono (by decide)) T.b_M_Goal_call passNo (ev_var 6) (av_cons (ev_var 7) av_nil)) (av_cons (ev_callOK [0] T.cm_Goal ⟨T.me_Goal___call__.at_, T.me_Goal___call__.fn, fun_fnIn T.F_M_Goal_call⟩ (ok_M_Goal_call T) (hr.mono (by decide)) T.kn_M_Goal_call_0 passNo (ev_var 6) (kv_cons (ev_var 7) kv_nil)) (av_cons (ev_inO T.cm_Goal T.me_Goal___contains__.at_ T.me_Goal___contains__.fn (ok_M_Goal_contains T) (hr.mono (by decide)) T.b_M_Goal_contains passNo (ev_var 7) (ev_var 6)) av_nil)))) (av_cons (ev_op od_mulL (ev_lst (av_cons (ev_cmp (od_in hr) (ev_var 7) (ev_var 5)) av_nil)) ev_int) av_nil))))) (sv_one (sv_ret ev_bl)) sv_nil))) (sv_cons (sv_set 8 sc_law.nd rfl (Or.inl rfl) (ev_lst (av_cons (ev_meth0 T.cm_Goal T.cl_Goal T.me_Goal_sets (ok_M_Goal_sets T) (hr.mono (by decide)) T.b_M_Goal_sets passNo (ev_var 6)) (av_cons (ev_prop T.cm_Goal T.cl_Goal T.pr_Goal_lamps (ok_M_Goal_lamps T) (hr.mono (by decide)) T.b_M_Goal_lamps (ev_var 6)) (av_cons (ev_prop T.cm_Goal T.cl_Goal T.pr_Goal_sentence (ok_M_Goal_sentence T) (hr.mono (by decide)) T.b_M_Goal_sentence (ev_var 6)) (av_cons (ev_callB (ca_lenO T.cm_Goal T.me_Goal___len__.at_ T.me_Goal___len__.fn (ok_M_Goal_len T) (hr.mono (by decide)) T.b_M_Goal_len) (by rfl) T.m_len PySem.boot_len (av_cons (ev_var 6) av_nil)) (av_cons (ev_callB (ca_reprO T.cm_Goal T.me_Goal___repr__.at_ T.me_Goal___repr__.fn (ok_M_Goal_repr T) (hr.mono (by decide)) T.b_M_Goal_repr) (by rfl) T.m_repr (by decide +kernel) (av_cons (ev_var 6) av_nil)) av_nil))))))) (sv_cons (sv_if (tv_not (tv_val (ev_call (ok_l_same T 6) (hr.mono (by decide)) (by rfl) T.g_l_same T.F_l_same.kp T.b_l_same passNo (av_cons (ev_var 8) (av_cons (ev_lst (av_cons (ev_var 5) (av_cons (ev_var 3) (av_cons (ev_var 4) (av_cons (ev_callB ca_len (by rfl) T.m_len PySem.boot_len (av_cons (ev_var 5) av_nil)) (av_cons (ev_op od_add (ev_op od_add (ev_op od_add (ev_op od_add (ev_str [71, 111, 97, 108, 40]) (ev_var 3)) (ev_str [44, 32])) (ev_callTy ca_str (by rfl) T.m_str (by decide +kernel) (av_cons (ev_callB ca_len (by rfl) T.m_len PySem.boot_len (av_cons (ev_var 5) av_nil)) av_nil))) (ev_str [32, 115, 101, 116, 115, 41])) av_nil)))))) av_nil))))) (sv_one (sv_ret ev_bl)) sv_nil) (sv_cons (sv_appO (eo_meth0 T.cm_Goal T.cl_Goal T.me_Goal_sets (okO_M_Goal_sets T) (hr.mono (by decide)) T.b_M_Goal_sets passNo (ev_var 6)) (ev_str [113])) (sv_cons (sv_set 9 sc_law.nd rfl (Or.inr rfl) (ev_call (ok_l_of T) (hr.mono (by decide)) (by rfl) T.g_l_of T.F_l_of.kp T.b_l_of passNo (av_cons (ev_var 1) (av_cons (ev_lst (av_cons (ev_str [113]) (av_cons (ev_op od_add (ev_var 3) (ev_var 3)) (av_cons ev_non (av_cons ev_int (av_cons (ev_lst (av_cons (ev_var 3) av_nil)) (av_cons (ev_op od_add (ev_revS (ev_var 3)) (ev_str [65])) (av_cons (ev_str [65]) av_nil)))))))) av_nil)))) (sv_cons (sv_set 8 sc_law.nd rfl (Or.inl rfl) (ev_asks (ls := lams) (m := fun env => (whysM fun i => mbL i env)) A_whys (hr.mono (by decide)) (by rfl) T.g_l_whys T.F_l_whys.kp T.b_l_whys lamsL lamsN cells_late (ev_lst (av_cons (ev_layM (l := lams 1) (i := 1) TB rfl List.mem_cons_self (one_cons T.ne_tbs) (lamsL 1) (lamsP 1) (fun _ _ _ => rfl) rfl rfl) (av_cons (ev_layM (l := lams 0) (i := 0) TB rfl List.mem_cons_self (one_cons T.ne_tbs) (lamsL 0) (lamsP 0) (fun _ _ _ => rfl) rfl rfl) av_nil))))) (sv_one (sv_if (TW.tv (tw_or (tv_not (tv_val (ev_call (ok_l_same T 6) (hr.mono (by decide)) (by rfl) T.g_l_same T.F_l_same.kp T.b_l_same passNo (av_cons (ev_var 8) (av_cons (ev_op od_mulL (ev_lst (av_cons (ev_tup (av_cons (ev_str [73, 110, 118, 97, 108, 105, 100, 83, 101, 116]) (av_cons (ev_var 9) av_nil))) av_nil)) ev_int) av_nil))))) (tw_or1 (tv_cmp (od_ne hr) (ev_meth0 T.cm_Goal T.cl_Goal T.me_Goal_sets (ok_M_Goal_sets T) (hr.mono (by decide)) T.b_M_Goal_sets passNo (ev_var 6)) (ev_var 5))))) (sv_one (sv_ret ev_bl)) sv_nil)))))))))))) (sv_cons (sv_set 10 sc_law.nd rfl (Or.inl rfl) (ev_make T.cm_Goal T.M_Goal (ok_M_Goal_init T) (hr.mono (by decide)) (by rfl) T.c_Goal T.b_M_Goal_init passNo (av_cons (ev_str [97, 98, 99, 100]) (av_cons (ev_tup (av_cons (ev_str [108, 101, 97, 115, 116]) (av_cons ev_int (av_cons (ev_str [97, 99, 100]) av_nil)))) av_nil)))) (sv_one (sv_ret (ev_cmp (od_eq hr) (ev_lst (av_cons (ev_callO T.cm_Goal ⟨T.me_Goal___call__.at_, T.me_Goal___call__.fn, fun_fnIn T.F_M_Goal_call⟩ (ok_M_Goal_call T) (hr.mono (by decide)) T.b_M_Goal_call passNo (ev_var 10) (av_cons (ev_str [97, 98]) av_nil)) (av_cons (ev_callO T.cm_Goal ⟨T.me_Goal___call__.at_, T.me_Goal___call__.fn, fun_fnIn T.F_M_Goal_call⟩ (ok_M_Goal_call T) (hr.mono (by decide)) T.b_M_Goal_call passNo (ev_var 10) (av_cons (ev_str [99, 100]) av_nil)) (av_cons (ev_callO T.cm_Goal ⟨T.me_Goal___call__.at_, T.me_Goal___call__.fn, fun_fnIn T.F_M_Goal_call⟩ (ok_M_Goal_call T) (hr.mono (by decide)) T.b_M_Goal_call passNo (ev_var 10) (av_cons (ev_str [97, 98, 100]) av_nil)) (av_cons (ev_callO T.cm_Goal ⟨T.me_Goal___call__.at_, T.me_Goal___call__.fn, fun_fnIn T.F_M_Goal_call⟩ (ok_M_Goal_call T) (hr.mono (by decide)) T.b_M_Goal_call passNo (ev_var 10) (av_cons (ev_str []) av_nil)) av_nil))))) (ev_lst (av_cons ev_bl (av_cons ev_bl (av_cons ev_bl (av_cons ev_bl av_nil))))))))))

end Rg

set_option Elab.async false
set_option linter.all false
set_option maxRecDepth 100000
set_option maxHeartbeats 4500000
namespace Rg
open PySem PySem.Spec PyProof.Rows LamX L2
/-- what is wanted of the law -/
def sp_law (TBL TBS : Addr) (K : PySem.W.Frag) : Sp := fun vs H Q _ => ∃ (a : Addr) (ns : List Int), vs = [.ref a] ∧ SqL K H a (ns.map V.int) ∧ ns.length ≤ 63 ∧ (∀ H', Q (.bl true) H') ∧ H TBL = some (.tbl #[]) ∧ H TBS = some (.tbl #[])
theorem ok_law {P : Program} {w : World} {K : PySem.W.Frag} {mg : Str → Option Value} {base : Heap} (T : Top P K mg) (TB : LamX.TabB base mg T.cd_law T.tb_law) (TS : LamX.TabB base mg T.cd_l_sets T.tb_l_sets) (truth : (mb_law [none, some .bag, none, none, none, none, none, none, none, none, none]).wp (fun f => f = .rt (.bl true)) (fun _ => False)) : FnOk P w K mg base CX0 11 T.a_law T.fd_law ["_law_script"] (sp_law T.tb_law T.tb_l_sets K) := by
  have G_l_bag := ok_bag (P := P) (w := w) (mg := mg) (base := base) (k := 0) T.F_l_bag T.m_list
  obtain ⟨oc, od, kV, doc, pm, an, ct, osl, efd, lk, hcd⟩ := T.lw
  rw [efd] at lk ⊢
  refine fn_of lk hcd sc_law (fun vs H Q E h => ?_) (fun A outer s H vs Q E hr h => ?_)
  · obtain ⟨a, ns, rfl, _⟩ := h
    rfl
  obtain ⟨a, ns, rfl, hS, _, q, hTb, hTs⟩ := h
  have rest := fun bag G0 H0 => sv_law (P := P) (w := w) (base := base) T TB TS A outer s H E (hr.mono (by decide)) bag G0 H0
  refine ⟨_, (pss_cons (ps_set (i := 1) sc_law.nd rfl (Or.inl rfl) (pe_call G_l_bag (hr.mono (by decide)) (by rfl) T.g_l_bag T.F_l_bag.kp T.b_l_bag .nil pass0 (pa_cons (pv 0) pa_nil))) (u := fun N σ H => ∃ bg G0 H0, (rest bg G0 H0).choose N σ H) ⟨fun pins s' σ H' N I h => (rest h.choose h.choose_spec.choose h.choose_spec.choose_spec.choose).choose_spec.1.run pins s' σ H' N I h.choose_spec.choose_spec.choose_spec⟩).nox, ?_⟩
  refine ⟨.ref a, rfl, a, ns, rfl, hS, fun H1 B Lb s1 nB nL hB => ⟨some (B, Lb), fun _ => none, H1, ?_⟩⟩
  have vw : Vw (lawZ w base T A outer s H E (some (B, Lb))) (fun _ => none) H1 := ⟨fun _ _ e => (nomatch e), fun B' L' e => by
    cases e
    exact ⟨hB, rfl, rfl⟩, ⟨fun p hp => by rcases List.mem_cons.mp hp with rfl | hp; exact LamX.TabS.nil (s1 _ _ hTb); rw [List.mem_singleton.mp hp]; exact LamX.TabS.nil (s1 _ _ hTs), fun _ _ => rfl⟩⟩
  have at_ : At K (lawZ w base T A outer s H E (some (B, Lb))) (fun _ => none) H1 ((L2.start (["_law_script", "_law_bag_here", "_law_turn", "_law_lamps_z", "_law_sentence_z", "_law_true", "_law_goal", "_law_lit", "_law_told", "_law_odd", "_law_some"] : List Str) [V.ref a]).set 1 (some (.ref B))) H1 (fun _ => none) [none, some .bag, none, none, none, none, none, none, none, none, none] := by
    refine ⟨.refl vw, vw, ⟨rfl, fun i d e _ => ?_⟩, ⟨fun i ds e => (lawE (n := 9) e).2.elim, fun i j ds es p _ e => (lawE (n := 9) e).2.elim⟩⟩
    obtain ⟨rfl, hb⟩ := lawE (n := 9) e
    cases d with
    | bag => exact ⟨.ref B, rfl, .bag rfl⟩
    | _ => exact hb.elim
  refine (rest (some (B, Lb)) (fun _ => none) H1).choose_spec.2 _ _ _ [none, some .bag, none, none, none, none, none, none, none, none, none] _ at_ ?_
  refine W.mono (mb_law [none, some .bag, none, none, none, none, none, none, none, none, none]) (Q := fun f => f = .rt (.bl true)) (E := fun _ => False) (fun f hf => ?_) (fun _ z => z) ?_
  · subst hf
    intro v H2 G2 g dv
    cases dv
    exact q H2
  · exact truth
end Rg

set_option Elab.async false
set_option linter.all false
set_option maxRecDepth 100000
set_option maxHeartbeats 4500000
/-! the law's own same: equal data are the same -/
namespace Rg
open PySem PySem.Spec PyProof.Rows L2
theorem all_true {α : Type} : ∀ l : List α, (l.map fun _ => true).all id = true
  | [] => rfl
  | _ :: r => by
    show (true && (r.map fun _ => true).all id) = true
    rw [all_true r]
    rfl
theorem plains_mem : ∀ {n : Nat} {xs : List D} {d : D}, plains n xs = true → d ∈ xs → plain n d = true
  | _, [], _, _, h => nomatch h
  | n, x :: r, d, p, h => by
    unfold plains at p
    obtain ⟨p1, p2⟩ := Bool.and_eq_true_iff.mp p
    cases h with
    | head => exact p1
    | tail _ rest => exact plains_mem p2 rest
theorem plain_own {n : Nat} {d : D} (h : plain n d = true) : isMut d = false := by
  cases d <;> first | rfl | (unfold plain at h; cases h)
theorem same_self : ∀ (n : Nat) (d : D), plain n d = true → m_l_same (n + 1) [d, d] = W.pure (.bl true)
  | n, .non, _ => by
    simp only [m_l_same, runF, startE_0, startE_1, startE_z, lk, ofS, W.pure_bind, isN_f, isNon, ofB, iteW, seqF_rt, endF]
  | n, .bl b, _ => by
    have e1 : isiD (.bl b) (.ty "bool") = W.pure (.bl true) := (isi_eq (u := "bool") rfl (by decide)).trans rfl
    simp only [m_l_same, runF, startE_0, startE_1, startE_z, lk, ofS, W.pure_bind, isN_f, isNon, ofB, iteW, seqF_rt, seqF_nx, endF, two2_eq, e1, truD, eqD_bl, beq_self_eq_true]
  | n, .int i, _ => by
    have e1 : isiD (.int i) (.ty "bool") = W.pure (.bl false) := (isi_eq (u := "bool") rfl (by decide)).trans rfl
    have e2 : isiD (.int i) (.tup [.ty "list", .ty "tuple"]) = W.pure (.bl false) := (isi_two rfl).trans rfl
    have e3 : isiD (.int i) (.ty "int") = W.pure (.bl true) := (isi_eq (u := "int") rfl (by decide)).trans rfl
    have e4 : isiD (.int i) (.ty "str") = W.pure (.bl false) := (isi_eq (u := "str") rfl (by decide)).trans rfl
    simp only [m_l_same, runF, startE_0, startE_1, startE_z, lk, ofS, W.pure_bind, isN_f, isNon, ofB, iteW, seqF_rt, seqF_nx, endF, two2_eq, e1, e2, e3, e4, mkTup_2, truD, neD_bl, eqD_int, beq_self_eq_true, Bool.not_true]
  | n, .str l, _ => by
    have e1 : isiD (.str l) (.ty "bool") = W.pure (.bl false) := (isi_eq (u := "bool") rfl (by decide)).trans rfl
    have e2 : isiD (.str l) (.tup [.ty "list", .ty "tuple"]) = W.pure (.bl false) := (isi_two rfl).trans rfl
    have e3 : isiD (.str l) (.ty "int") = W.pure (.bl false) := (isi_eq (u := "int") rfl (by decide)).trans rfl
    have e4 : isiD (.str l) (.ty "str") = W.pure (.bl true) := (isi_eq (u := "str") rfl (by decide)).trans rfl
    simp only [m_l_same, runF, startE_0, startE_1, startE_z, lk, ofS, W.pure_bind, isN_f, isNon, ofB, iteW, seqF_rt, seqF_nx, endF, two2_eq, e1, e2, e3, e4, mkTup_2, truD, neD_bl, eqD_str, beq_self_eq_true, Bool.not_true]
  | 0, .lst xs, h => by unfold plain at h; cases h
  | 0, .tup xs, h => by unfold plain at h; cases h
  | n + 1, .lst xs, h => by
    have e1 : isiD (.lst xs) (.ty "bool") = W.pure (.bl false) := (isi_eq (u := "bool") rfl (by decide)).trans rfl
    have e2 : isiD (.lst xs) (.tup [.ty "list", .ty "tuple"]) = W.pure (.bl true) := (isi_two rfl).trans rfl
    have e3 : isiD (.lst xs) (.ty "list") = W.pure (.bl true) := (isi_eq (u := "list") rfl (by decide)).trans rfl
    have e4 : isiD (.lst xs) (.ty "tuple") = W.pure (.bl false) := (isi_eq (u := "tuple") rfl (by decide)).trans rfl
    rw [m_l_same]
    simp only [runF, startE_0, startE_1, startE_z, lk, ofS, W.pure_bind, isN_f, isNon, ofB, iteW, seqF_rt, seqF_nx, endF, two2_eq, one1_eq, e1, e2, e3, e4, mkTup_2, truD, neD_bl, neD_int, lenD, beq_self_eq_true, Bool.not_true, zip2, zipTwo, zip_self]
    rw [compW_all (fun d => D.tup [d, d]) (fun _ => D.bl true) xs]
    · simp only [W.pure_bind, one1_eq, allB, bls_map (fun _ => true), Option.map, ofO, all_true, seqF_rt, endF]
    · intro d hd
      have ih := same_self n d (plains_mem h hd)
      have hd' : ofS (some d) = W.pure d := by
        have := plain_own (plains_mem h hd)
        cases d <;> first | rfl | cases this
      simp only [turnW, wipeE, List.set, gTupW, tupOf, gConsW, gNilW, W.pure_bind, List.length_cons, List.length_nil, need_T, lk, hd', callM_2, ih, iteW, W.noX_pure]
  | n + 1, .tup xs, h => by
    have e1 : isiD (.tup xs) (.ty "bool") = W.pure (.bl false) := (isi_eq (u := "bool") rfl (by decide)).trans rfl
    have e2 : isiD (.tup xs) (.tup [.ty "list", .ty "tuple"]) = W.pure (.bl true) := (isi_two rfl).trans rfl
    have e3 : isiD (.tup xs) (.ty "list") = W.pure (.bl false) := (isi_eq (u := "list") rfl (by decide)).trans rfl
    have e4 : isiD (.tup xs) (.ty "tuple") = W.pure (.bl true) := (isi_eq (u := "tuple") rfl (by decide)).trans rfl
    rw [m_l_same]
    simp only [runF, startE_0, startE_1, startE_z, lk, ofS, W.pure_bind, isN_f, isNon, ofB, iteW, seqF_rt, seqF_nx, endF, two2_eq, one1_eq, e1, e2, e3, e4, mkTup_2, truD, neD_bl, neD_int, lenD, beq_self_eq_true, Bool.not_true, zip2, zipTwo, zip_self]
    rw [compW_all (fun d => D.tup [d, d]) (fun _ => D.bl true) xs]
    · simp only [W.pure_bind, one1_eq, allB, bls_map (fun _ => true), Option.map, ofO, all_true, seqF_rt, endF]
    · intro d hd
      have ih := same_self n d (plains_mem h hd)
      have hd' : ofS (some d) = W.pure d := by
        have := plain_own (plains_mem h hd)
        cases d <;> first | rfl | cases this
      simp only [turnW, wipeE, List.set, gTupW, tupOf, gConsW, gNilW, W.pure_bind, List.length_cons, List.length_nil, need_T, lk, hd', callM_2, ih, iteW, W.noX_pure]
  | n, .ins _ _, h => by unfold plain at h; cases h
  | n, .bag, h => by unfold plain at h; cases h
  | n, .ty _, h => by unfold plain at h; cases h
  | n, .cls _, h => by unfold plain at h; cases h
  | n, .lam _, h => by unfold plain at h; cases h
  | n, .own _, h => by unfold plain at h; cases h
end Rg

set_option Elab.async false
set_option linter.all false
set_option maxRecDepth 100000
set_option maxHeartbeats 4500000
/-! what is drawn -/
namespace Rg
open PySem PySem.Spec PyProof.Rows L2
theorem pull_wp {m : Int} {Q : D → Prop} {E : ExD → Prop} (h0 : 0 < m) (h1 : m < 1000000) (h : ∀ r : Int, 0 ≤ r → r < m → Q (.int r)) : (m_l_pull [.bag, .int m]).wp Q E := by
  show _ ∧ _
  refine ⟨⟨h0, h1⟩, fun d hd => ?_⟩
  obtain ⟨r, rfl, r0, r1⟩ := hd
  exact h r r0 r1
theorem atI_in {α : Type} {xs : List α} {r : Int} (h0 : 0 ≤ r) (h1 : r < xs.length) : ∃ v, atI xs r = some v ∧ v ∈ xs := by
  obtain ⟨j, rfl⟩ : ∃ j : Nat, r = (j : Int) := ⟨r.toNat, by omega⟩
  have hj : j < xs.length := by omega
  exact ⟨xs[j], atI_nat (List.getElem?_eq_getElem hj), List.getElem_mem hj⟩
theorem of_lst {ds : List D} {Q : D → Prop} {E : ExD → Prop} (h0 : 0 < ds.length) (h1 : ds.length < 1000000) (h : ∀ d ∈ ds, Q d) : (m_l_of [.bag, .lst ds]).wp Q E := by
  simp only [m_l_of, runF, startE_0, startE_1, startE_z, lk, ofS, W.pure_bind, one1_eq, lenD, callM_2]
  show (m_l_pull [.bag, .int ds.length]).wp _ E
  refine pull_wp (by omega) (by omega) fun r r0 r1 => ?_
  obtain ⟨v, e, hv⟩ := atI_in (xs := ds) r0 r1
  show (ofO (atI ds r)).wp _ E
  rw [e]
  exact h v hv
theorem of_str {l : List Nat} {Q : D → Prop} {E : ExD → Prop} (h0 : 0 < l.length) (h1 : l.length < 1000000) (h : ∀ c ∈ l, Q (.str [c])) : (m_l_of [.bag, .str l]).wp Q E := by
  simp only [m_l_of, runF, startE_0, startE_1, startE_z, lk, ofS, W.pure_bind, one1_eq, lenD, callM_2]
  show (m_l_pull [.bag, .int l.length]).wp _ E
  refine pull_wp (by omega) (by omega) fun r r0 r1 => ?_
  obtain ⟨v, e, hv⟩ := atI_in (xs := l) r0 r1
  show (ofO ((atI l r).map fun c => D.str [c])).wp _ E
  rw [e]
  exact h v hv
def nine : List (List Nat) := [[97, 98], [97], [97, 98, 99], [97, 98], [120, 121, 122], [98, 100], [97, 98, 99], [97, 98, 99, 100], [110, 111, 112, 116]]
theorem mkLst_of {ds : List D} (h : ds.length ≤ big) : mkLst ds = W.pure (.lst ds) := W.need_true h _
theorem lamps_wp {Q : D → Prop} {E : ExD → Prop} (h : ∀ l ∈ nine, Q (.str l)) : (m_l_lamps [.bag, .int 9]).wp Q E := by
  have e : m_l_lamps [.bag, .int 9] = W.bind (m_l_of [.bag, .lst (nine.map D.str)]) fun d => W.pure d := by
    simp only [m_l_lamps, runF, startE_0, startE_1, startE_z, lk, ofS, W.pure_bind, ofI]
    rw [mkLst_of (by decide)]
    simp only [W.pure_bind, slD, callM_2]
    rfl
  rw [e]
  refine of_lst (by decide) (by decide) fun d hd => ?_
  obtain ⟨l, hl, rfl⟩ := List.mem_map.mp hd
  exact h l hl
end Rg

set_option Elab.async false
set_option linter.all false
set_option maxRecDepth 100000
set_option maxHeartbeats 4500000
/-! comprehensions and loops in which something is drawn -/
namespace Rg
open PySem PySem.Spec PyProof.Rows L2
inductive CR (R : D → Option D → Prop) : List D → List D → Prop
  | nil : CR R [] []
  | cons {x : D} {o : Option D} {r ys : List D} : R x o → CR R r ys → CR R (x :: r) (o.toList ++ ys)
theorem compW_rel {f : D → W (Option D)} {E : ExD → Prop} (R : D → Option D → Prop) : ∀ (ds : List D), (∀ x ∈ ds, ∀ Q : Option D → Prop, (∀ o, R x o → Q o) → (f x).wp Q E) → ∀ Q : List D → Prop, (∀ ys, CR R ds ys → Q ys) → (compW f ds).wp Q E
  | [], _, Q, h => h _ .nil
  | x :: r, hf, Q, h => hf x List.mem_cons_self _ fun o ho => compW_rel R r (fun y hy => hf y (List.mem_cons_of_mem _ hy)) _ fun ys hys => h _ (.cons ho hys)
theorem CR.all {R : D → Option D → Prop} {P : D → Prop} (hR : ∀ x o, R x o → ∃ y, o = some y ∧ P y) {ds ys : List D} (h : CR R ds ys) : ys.length = ds.length ∧ ∀ y ∈ ys, P y := by
  induction h with
  | nil => exact ⟨rfl, fun y hy => by cases hy⟩
  | cons h1 h2 ih =>
    obtain ⟨y, rfl, py⟩ := hR _ _ h1
    refine ⟨by simp [ih.1], fun z hz => ?_⟩
    rcases List.mem_cons.mp hz with rfl | q
    · exact py
    · exact ih.2 z q
theorem CR.sub {R : D → Option D → Prop} (hR : ∀ x o, R x o → o = none ∨ o = some x) {ds ys : List D} (h : CR R ds ys) : ys.Sublist ds := by
  induction h with
  | nil => exact .slnil
  | cons h1 h2 ih =>
    rcases hR _ _ h1 with rfl | rfl
    · exact ih.cons _
    · exact ih.cons₂ _
theorem forW_inv {f : D → Ev → W Fl} {E : ExD → Prop} (I : Ev → Prop) : ∀ (ds : List D), (∀ x ∈ ds, ∀ env, I env → (f x env).wp (fun fl => ∃ e, fl = .nx e ∧ I e) E) → ∀ env, I env → (forW f ds env).wp (fun fl => ∃ e, fl = .nx e ∧ I e) E
  | [], _, env, i => ⟨env, rfl, i⟩
  | x :: r, hf, env, i => by
    refine (f x env).mono (fun fl h => ?_) (fun _ q => q) (hf x List.mem_cons_self env i)
    obtain ⟨e, rfl, i'⟩ := h
    exact forW_inv I r (fun y hy => hf y (List.mem_cons_of_mem _ hy)) e i'
end Rg

set_option Elab.async false
set_option linter.all false
set_option maxRecDepth 100000
set_option maxHeartbeats 4500000
/-! the lits that are drawn -/
namespace Rg
open PySem PySem.Spec PyProof.Rows L2
theorem strs_signs : ∀ l : List Nat, strsOf (signs l) = some (l.map fun c => [c])
  | [] => rfl
  | c :: r => by
    show (strsOf (signs r)).map _ = _
    rw [strs_signs r]
    rfl
theorem join_ones : ∀ l : List Nat, joinL [] (l.map fun c => [c]) = l
  | [] => rfl
  | [c] => rfl
  | c :: d :: r => by
    show [c] ++ [] ++ joinL [] ((d :: r).map fun c => [c]) = _
    rw [join_ones (d :: r)]
    rfl
theorem sum_ones : ∀ l : List Nat, ((l.map fun c => [c]).map (·.length)).sum = l.length
  | [] => rfl
  | c :: r => by
    have := sum_ones r
    simp only [List.map_cons, List.sum_cons, List.length_cons, List.length_nil] at *
    omega
theorem signs_sub {l : List Nat} {ys : List D} (h : ys.Sublist (signs l)) : ∃ k : List Nat, k.Sublist l ∧ ys = signs k := by
  obtain ⟨k, hk, e⟩ := List.sublist_map_iff.mp h
  exact ⟨k, hk, e⟩
theorem lits_wp {l : List Nat} {Q : D → Prop} {E : ExD → Prop} (hl : l.length ≤ 26) (h : ∀ k : List Nat, k.Sublist l → Q (.str k)) : (m_l_lits [.bag, .str l]).wp Q E := by
  simp only [m_l_lits, runF, startE_0, startE_1, startE_z, W.pure_bind, strOf]
  show (compW _ (signs l)).wp _ E
  refine compW_rel (fun x o => o = none ∨ o = some x) _ (fun x hx Q' hq => ?_) _ fun ys hys => ?_
  · obtain ⟨sg, _, rfl⟩ := List.mem_map.mp hx
    show _ ∧ (m_l_pull [.bag, .int 2]).wp _ _
    refine ⟨rfl, ?_⟩
    refine pull_wp (by decide) (by decide) fun r r0 r1 => ?_
    show (W.bind (W.bind (eqD (.int r) (.int 0)) ofB) _).wp _ _
    rw [eqD_int]
    by_cases c : r = 0
    · subst c
      exact hq _ (.inr rfl)
    · have : (r == 0) = false := by simpa using c
      rw [this]
      exact hq _ (.inl rfl)
  · obtain ⟨k, hk, rfl⟩ := signs_sub (hys.sub fun _ _ q => q)
    have hlen : k.length ≤ 26 := Nat.le_trans hk.length_le hl
    show (joinD [] (.lst (signs k))).wp _ E
    refine ⟨⟨_, strs_signs k, ?_⟩, ?_⟩
    · rw [sum_ones]
      simp only [List.length_nil, Nat.mul_zero]
      exact Nat.le_trans hlen (by decide)
    · show (ofO ((strsOf (signs k)).map _)).wp _ E
      rw [strs_signs, Option.map_some, join_ones]
      exact h k hk
end Rg

set_option Elab.async false
set_option linter.all false
set_option maxRecDepth 100000
set_option maxHeartbeats 4500000
/-! the plan that is drawn -/
namespace Rg
open PySem PySem.Spec PyProof.Rows L2
theorem CR.mem {R : D → Option D → Prop} {xs ys : List D} (h : CR R xs ys) : ∀ y ∈ ys, ∃ x ∈ xs, R x (some y) := by
  induction h with
  | nil => exact fun _ q => by cases q
  | @cons x o r zs h1 h2 ih =>
    intro y hy
    cases o with
    | none =>
      obtain ⟨x', hx, q⟩ := ih y hy
      exact ⟨x', List.mem_cons_of_mem _ hx, q⟩
    | some v =>
      rcases List.mem_cons.mp hy with rfl | hy1
      · exact ⟨x, List.mem_cons_self, h1⟩
      · obtain ⟨x', hx, q⟩ := ih y hy1
        exact ⟨x', List.mem_cons_of_mem _ hx, q⟩
theorem CR.has {R : D → Option D → Prop} {xs ys : List D} (h : CR R xs ys) : ∀ x ∈ xs, ∃ o, R x o ∧ ∀ y, o = some y → y ∈ ys := by
  induction h with
  | nil => exact fun _ q => by cases q
  | @cons x o r zs h1 h2 ih =>
    intro x' hx
    rcases List.mem_cons.mp hx with rfl | hx1
    · refine ⟨o, h1, fun y e => ?_⟩
      subst e
      exact List.mem_cons_self
    · obtain ⟨o', q, hy⟩ := ih x' hx1
      exact ⟨o', q, fun y e => List.mem_append_right _ (hy y e)⟩
theorem CR.len {R : D → Option D → Prop} {xs ys : List D} (h : CR R xs ys) : ys.length ≤ xs.length := by
  induction h with
  | nil => exact Nat.le_refl _
  | @cons x o r zs h1 h2 ih =>
    cases o with
    | none => simp; omega
    | some v => simp; omega
end Rg

set_option Elab.async false
set_option linter.all false
set_option maxRecDepth 100000
set_option maxHeartbeats 4500000
/-! valid data pass the checks -/
namespace Rg
open PySem PySem.Spec PyProof.Rows L2
theorem CR.bls {R : D → Option D → Prop} (hR : ∀ x o, R x o → o = some (.bl true)) {xs ys : List D} (h : CR R xs ys) : blsOf ys = some (xs.map fun _ => true) := by
  induction h with
  | nil => rfl
  | cons h1 h2 ih =>
    rw [hR _ _ h1]
    show Option.map _ (blsOf _) = _
    simp only [List.nil_append, List.append_eq, ih]
    rfl
theorem asc_wp {k : List Nat} {Q : D → Prop} {E : ExD → Prop} (hk : k.Pairwise (· < ·)) (hl : k.length ≤ 26) (h : Q (.bl true)) : (m_is_ascending [.str k]).wp Q E := by
  simp only [m_is_ascending, runF, startE_0, startE_1, startE_z, W.pure_bind]
  show _ ∧ (compW _ (irange 1 ((k.length : Int) - 1).toNat)).wp _ _
  refine ⟨?_, compW_rel (fun x o => o = some (.bl true)) _ (fun x hx Q' hq => ?_) _ fun ys hys => ?_⟩
  · show -((100000 : Nat) : Int) ≤ 1 ∧ 1 ≤ ((100000 : Nat) : Int) ∧ -((100000 : Nat) : Int) ≤ (k.length : Int) ∧ (k.length : Int) ≤ ((100000 : Nat) : Int) ∧ (k.length : Int) - 1 ≤ ((100000 : Nat) : Int)
    omega
  · obtain ⟨i, hi, rfl⟩ := List.mem_map.mp hx
    have hi' : i < ((k.length : Int) - 1).toNat := by simpa using hi
    have hi1 : i < k.length := by omega
    have hi2 : i + 1 < k.length := by omega
    show (W.bind (ofO ((atI k (1 + (i : Nat) - 1)).map fun c => D.str [c])) _).wp _ _
    rw [show (1 + (i : Nat) - 1 : Int) = (i : Nat) by omega, atI_nat (List.getElem?_eq_getElem hi1)]
    show (W.bind (ofO ((atI k (1 + (i : Nat))).map fun c => D.str [c])) _).wp _ _
    rw [show (1 + (i : Nat) : Int) = ((i + 1 : Nat) : Int) by omega, atI_nat (List.getElem?_eq_getElem hi2)]
    have lt : k[i] < k[i + 1] := List.pairwise_iff_getElem.mp hk i (i + 1) hi1 hi2 (Nat.lt_succ_self i)
    have d1 : decide ([k[i]] < [k[i + 1]]) = true := decide_eq_true (List.Lex.rel lt)
    show Q' (some (.bl (decide ([k[i]] < [k[i + 1]]))))
    rw [d1]
    exact hq _ rfl
  · show (ofO ((blsOf ys).map _)).wp _ _
    rw [hys.bls fun _ _ q => q]
    show Q (.bl (List.all _ id))
    rw [show (List.all (List.map (fun _ => true) (irange 1 ((k.length : Int) - 1).toNat)) id) = true by simp]
    exact h
theorem within_wp {k l : List Nat} {Q : D → Prop} {E : ExD → Prop} (hk : k.Sublist l) (h : Q (.bl true)) : (m_is_within [.str k, .str l]).wp Q E := by
  simp only [m_is_within, runF, startE_0, startE_1, startE_z, W.pure_bind]
  show (compW _ (signs k)).wp _ _
  refine compW_rel (fun x o => o = some (.bl true)) _ (fun x hx Q' hq => ?_) _ fun ys hys => ?_
  · obtain ⟨c, hc, rfl⟩ := List.mem_map.mp hx
    show Q' (some (.bl (l.contains c != false)))
    rw [show (l.contains c != false) = true by simpa using hk.subset hc]
    exact hq _ rfl
  · show (ofO ((blsOf ys).map _)).wp _ _
    rw [hys.bls fun _ _ q => q]
    show Q (.bl (List.all _ id))
    rw [show (List.all (List.map (fun _ => true) (signs k)) id) = true by simp]
    exact h
theorem set_wp {k l : List Nat} {Q : D → Prop} {E : ExD → Prop} (hl : l.Pairwise (· < ·)) (hb : k.length ≤ 26) (hk : k.Sublist l) (h : Q (.bl true)) : (m_is_set [.str k, .str l]).wp Q E := by
  simp only [m_is_set, runF, startE_0, startE_1, startE_z, W.pure_bind]
  refine ⟨by decide, ?_⟩
  show _ ∧ (m_is_ascending [.str k]).wp _ _
  refine ⟨rfl, asc_wp (hl.sublist hk) hb ?_⟩
  exact ⟨rfl, within_wp hk h⟩
end Rg

set_option Elab.async false
set_option linter.all false
set_option maxRecDepth 100000
set_option maxHeartbeats 4500000
/-! lamps and indices pass the checks -/
namespace Rg
open PySem PySem.Spec PyProof.Rows L2
def abc : List Nat := [97, 98, 99, 100, 101, 102, 103, 104, 105, 106, 107, 108, 109, 110, 111, 112, 113, 114, 115, 116, 117, 118, 119, 120, 121, 122]
theorem checkLamps_wp {l : List Nat} {Q : D → Prop} {E : ExD → Prop} (h1 : 1 ≤ l.length) (h4 : l.length ≤ 4) (hl : l.Sublist abc) (h : Q .non) : (m_check_lamps [.str l]).wp Q E := by
  simp only [m_check_lamps, runF, startE_0, startE_1, startE_z, W.pure_bind]
  show _ ∧ (m_is_lamps [.str l]).wp _ _
  refine ⟨rfl, ?_⟩
  simp only [m_is_lamps, runF, startE_0, startE_1, startE_z, W.pure_bind]
  show _ ∧ (m_is_set [.str l, .str abc]).wp _ _
  refine ⟨rfl, set_wp (by decide) (by omega) hl ?_⟩
  show (iteW (decide ((1 : Int) ≤ (l.length : Nat))) _ _).wp _ _
  rw [show decide ((1 : Int) ≤ (l.length : Nat)) = true from decide_eq_true (by omega)]
  show (iteW (!(decide (((l.length : Nat) : Int) ≤ 4))) _ _).wp _ _
  rw [show decide (((l.length : Nat) : Int) ≤ 4) = true from decide_eq_true (by omega)]
  exact h
theorem enum_mem : ∀ {ds : List D} {k : Nat} {x : D}, x ∈ enumD k ds → ∃ (i : Nat) (d : D), x = .tup [.int i, d] ∧ d ∈ ds ∧ i < k + ds.length
  | [], _, _, h => by cases h
  | d :: r, k, x, h => by
    rcases (List.mem_cons (a := x)).mp h with q | q
    · exact ⟨k, d, q, List.mem_cons_self, by simp⟩
    · obtain ⟨i, e, h1, h2, h3⟩ := enum_mem q
      exact ⟨i, e, h1, List.mem_cons_of_mem _ h2, by simp; omega⟩
def Sq (d : D) (ds : List D) : Prop := d = .lst ds ∨ d = .tup ds
theorem pure_wp {α : Type} (a : α) (Q : α → Prop) (E : ExD → Prop) : (W.pure a).wp Q E = Q a := rfl
theorem bind_wp {α β : Type} (m : W α) (f : α → W β) (Q : β → Prop) (E : ExD → Prop) : (W.bind m f).wp Q E = m.wp (fun a => (f a).wp Q E) E := rfl
theorem seqF_wp (m : W Fl) (f : Ev → W Fl) (Q : Fl → Prop) (E : ExD → Prop) : (seqF m f).wp Q E = m.wp (fun r => (match r with
  | .nx env => f env
  | r => W.pure r).wp Q E) E := rfl
theorem forW_at {f : D → Ev → W Fl} {E : ExD → Prop} (I : Nat → Ev → Prop) : ∀ (ds : List D) (k : Nat), (∀ j x env, ds[j]? = some x → I (k + j) env → (f x env).wp (fun fl => ∃ e, fl = .nx e ∧ I (k + j + 1) e) E) → ∀ env, I k env → (forW f ds env).wp (fun fl => ∃ e, fl = .nx e ∧ I (k + ds.length) e) E
  | [], k, _, env, i => ⟨env, rfl, i⟩
  | x :: r, k, hf, env, i => by
    refine (f x env).mono (fun fl h => ?_) (fun _ q => q) (hf 0 x env rfl i)
    obtain ⟨e, rfl, i'⟩ := h
    have := forW_at I r (k + 1) (fun j y env hj hI => by
      have := hf (j + 1) y env hj (by rw [show k + (j + 1) = k + 1 + j by omega]; exact hI)
      rw [show k + (j + 1) + 1 = k + 1 + j + 1 by omega] at this
      exact this) e i'
    rw [show k + (x :: r).length = k + 1 + r.length by simp; omega]
    exact this
end Rg

set_option Elab.async false
set_option linter.all false
set_option maxRecDepth 100000
set_option maxHeartbeats 4500000
/-! the sets that are listed -/
namespace Rg
open PySem PySem.Spec PyProof.Rows L2
theorem ofS_ins (c : Str) (l : List (Str × D)) : ofS (some (.ins c l)) = W.pure (.ins c l) := rfl
theorem ofS_lst (l : List D) : ofS (some (.lst l)) = W.pure (.lst l) := rfl
theorem ofS_tup (l : List D) : ofS (some (.tup l)) = W.pure (.tup l) := rfl
theorem ofS_str (l : List Nat) : ofS (some (.str l)) = W.pure (.str l) := rfl
theorem ofS_int (i : Int) : ofS (some (.int i)) = W.pure (.int i) := rfl
theorem ofS_bag : ofS (some .bag) = W.pure .bag := rfl
theorem ofS_of {d : D} (m : isMut d = false) : ofS (some d) = W.pure d := by cases d <;> first | rfl | cases m
theorem ixT {xs : List D} {j : Nat} {d : D} (h : xs[j]? = some d) : ixD (.tup xs) (.int (j : Nat)) = W.pure d := by
  show ofO (atI xs ((j : Nat) : Int)) = _
  rw [atI_nat h]
  rfl
theorem ix_0 (a : D) (r : List D) : ixD (.tup (a :: r)) (.int 0) = W.pure a := ixT (j := 0) rfl
theorem need_wp {p : Prop} (Q : Unit → Prop) (E : ExD → Prop) : (W.need p).wp Q E = (p ∧ Q ()) := rfl
theorem noX_wp {α : Type} (m : W α) (Q : α → Prop) (E : ExD → Prop) : (W.noX m).wp Q E = m.wp Q (fun _ => False) := rfl
theorem compW_wp {α : Type} {f : D → W (Option D)} {E : ExD → Prop} (h g : α → D) : ∀ (l : List α), (∀ a ∈ l, ∀ Q : Option D → Prop, Q (some (g a)) → (f (h a)).wp Q E) → ∀ Q : List D → Prop, Q (l.map g) → (compW f (l.map h)).wp Q E
  | [], _, Q, q => q
  | a :: r, hf, Q, q => hf a List.mem_cons_self _ (compW_wp h g r (fun x hx => hf x (List.mem_cons_of_mem _ hx)) _ q)
theorem ixL {xs : List D} {j : Nat} {d : D} (h : xs[j]? = some d) : ixD (.lst xs) (.int (j : Nat)) = W.pure d := by
  show ofO (atI xs ((j : Nat) : Int)) = _
  rw [atI_nat h]
  rfl
theorem ix_1 (a b : D) (r : List D) : ixD (.tup (a :: b :: r)) (.int 1) = W.pure b := ixT (j := 1) rfl
theorem ix_2 (a b c : D) (r : List D) : ixD (.tup (a :: b :: c :: r)) (.int 2) = W.pure c := ixT (j := 2) rfl
theorem strs_map : ∀ ls : List (List Nat), strsOf (ls.map D.str) = some ls
  | [] => rfl
  | l :: r => by
    show Option.map _ (strsOf (r.map D.str)) = _
    rw [strs_map r]
    rfl
theorem sortD_eq {f : List (List Nat) → List (List Nat)} {ls : List (List Nat)} (h : ls.length ≤ 1000) : sortD f (.lst (ls.map D.str)) = W.pure (.lst ((f ls).map D.str)) := by
  simp only [sortD, strs_map]
  exact W.need_true h _
theorem addS {a b : List Nat} (h : a.length + b.length ≤ 100000) : addD (.str a) (.str b) = W.pure (.str (a ++ b)) := W.need_true h _
theorem addL {a b : List D} (h : a.length + b.length ≤ 100000) : addD (.lst a) (.lst b) = W.pure (.lst (a ++ b)) := W.need_true h _
theorem addI (a b : Int) : addD (.int a) (.int b) = W.pure (.int (a + b)) := rfl
theorem mkLst_ok {ds : List D} (h : ds.length ≤ 100000) : mkLst ds = W.pure (.lst ds) := W.need_true h _
/-- one letter more -/
def grown (fs : List (List Nat)) (c : Nat) : List (List Nat) := fs ++ fs.map (· ++ [c])
def raw (l : List Nat) : List (List Nat) := l.foldl grown [[]]
theorem foldl_len : ∀ (l : List Nat) (fs : List (List Nat)), (l.foldl grown fs).length = fs.length * 2 ^ l.length
  | [], fs => by simp
  | c :: r, fs => by
    rw [List.foldl_cons, foldl_len r, List.length_cons, Nat.pow_succ]
    unfold grown
    rw [List.length_append, List.length_map, ← Nat.two_mul, Nat.mul_comm 2, Nat.mul_assoc, Nat.mul_comm 2]
theorem raw_len (l : List Nat) : (raw l).length = 2 ^ l.length := by
  unfold raw
  rw [foldl_len]
  simp
theorem grown_small {fs : List (List Nat)} {c n : Nat} (h : ∀ f ∈ fs, f.length + (n + 1) ≤ 1000) : ∀ f ∈ grown fs c, f.length + n ≤ 1000 := fun f hf => by
  unfold grown at hf
  rcases List.mem_append.mp hf with q | q
  · have := h f q
    omega
  · obtain ⟨g, hg, rfl⟩ := List.mem_map.mp q
    have := h g hg
    simp only [List.length_singleton, List.length_append]
    omega
theorem sets_loop {l : List Nat} {body : D → Ev → W Fl} (hb : ∀ (fs : List (List Nat)) (c : Nat) (s2 : Option D), fs.length * 2 ≤ 1000 → (∀ f ∈ fs, f.length + 1 ≤ 1000) → body (.str [c]) [some (.str l), some (.lst (fs.map D.str)), s2, none] = W.pure (.nx [some (.str l), some (.lst ((grown fs c).map D.str)), some (.str [c]), none])) :
    ∀ (cs : List Nat) (fs : List (List Nat)) (s2 : Option D), fs.length * 2 ^ cs.length ≤ 1000 → (∀ f ∈ fs, f.length + cs.length ≤ 1000) → ∃ s2', forW body (signs cs) [some (.str l), some (.lst (fs.map D.str)), s2, none] = W.pure (.nx [some (.str l), some (.lst ((cs.foldl grown fs).map D.str)), s2', none])
  | [], fs, s2, _, _ => ⟨s2, rfl⟩
  | c :: r, fs, s2, h1, h2 => by
    have p1 : 1 ≤ 2 ^ r.length := Nat.one_le_two_pow
    rw [List.length_cons, Nat.pow_succ] at h1
    have h3 : fs.length * 2 ≤ 1000 := Nat.le_trans (by
      rw [Nat.mul_comm (2 ^ r.length), ← Nat.mul_assoc]
      exact Nat.le_mul_of_pos_right _ p1) h1
    have e := hb fs c s2 h3 fun f hf => by
      have := h2 f hf
      rw [List.length_cons] at this
      omega
    have gl : (grown fs c).length = fs.length * 2 := by
      unfold grown
      rw [List.length_append, List.length_map]
      omega
    obtain ⟨s', i⟩ := sets_loop hb r (grown fs c) (some (.str [c])) (by rw [gl, Nat.mul_assoc, Nat.mul_comm 2]; exact h1) (grown_small fun f hf => h2 f hf)
    refine ⟨s', ?_⟩
    show W.bind (body (.str [c]) _) _ = _
    rw [e, W.pure_bind]
    exact i
theorem small_pow {n : Nat} (h : n ≤ 4) : 2 ^ n ≤ 16 := by
  have : n = 0 ∨ n = 1 ∨ n = 2 ∨ n = 3 ∨ n = 4 := by omega
  rcases this with rfl | rfl | rfl | rfl | rfl <;> decide
theorem more_eq {fs : List (List Nat)} {c : Nat} : fs.map D.str ++ (fs.map fun f => D.str (f ++ [c])) = (grown fs c).map D.str := by
  unfold grown
  rw [List.map_append, List.map_map]
  rfl
theorem mkLst_1' (a : D) : mkLst [a] = W.pure (.lst [a]) := W.need_true (show 1 ≤ big by decide) _
theorem sets_use {l : List Nat} {body : D → Ev → W Fl} {k : Ev → W Fl} {R : W D} (h : l.length ≤ 4) (hb : ∀ (fs : List (List Nat)) (c : Nat) (s2 : Option D), fs.length * 2 ≤ 1000 → (∀ f ∈ fs, f.length + 1 ≤ 1000) → body (.str [c]) [some (.str l), some (.lst (fs.map D.str)), s2, none] = W.pure (.nx [some (.str l), some (.lst ((grown fs c).map D.str)), some (.str [c]), none]))
    (hk : ∀ s', W.bind (k [some (.str l), some (.lst ((raw l).map D.str)), s', none]) endF = R) : W.bind (seqF (forW body (signs l) [some (.str l), some (.lst [.str []]), none, none]) k) endF = R := by
  have p4 := small_pow h
  obtain ⟨s', e⟩ := sets_loop (l := l) hb l [[]] none (by simp; omega) (fun f hf => by
    rw [List.mem_singleton.mp hf]
    show 0 + l.length ≤ 1000
    omega)
  rw [show ([[]] : List (List Nat)).map D.str = [.str []] from rfl] at e
  rw [e, seqF_nx]
  exact hk s'
theorem l_sets_eq {l : List Nat} (h : l.length ≤ 4) : m_l_sets [.str l] = W.pure (.lst ((ordK (raw l)).map D.str)) := by
  have p4 := small_pow h
  simp only [m_l_sets, runF, startE_0, startE_1, startE_z, lk, ofS, W.pure_bind, mkLst_1, seqF_nx, List.set, seqOf]
  refine sets_use h (fun fs c s2 h1 h2 => ?_) fun s' => ?_
  · simp only [W.noX_pure, W.pure_bind, List.set, lk, ofS, seqOf]
    rw [compW_all D.str (fun f => D.str (f ++ [c])) fs fun f hf => by
      have := h2 f hf
      simp only [turnW, wipeE, List.set, W.pure_bind, lk, ofS, W.noX_pure, iteW_t]
      rw [addS (by rw [List.length_singleton]; omega)]
      rfl]
    rw [W.pure_bind, W.pure_bind, addL (by rw [List.length_map, List.length_map]; omega), W.pure_bind, more_eq]
  · simp only [lk, ofS, W.pure_bind]
    rw [sortD_eq (by rw [raw_len]; omega)]
    rfl
theorem listed_eq {l : List Nat} (h : l.length ≤ 4) : m_listed_sets [.str l] = W.pure (.lst ((ordL (ordS (raw l))).map D.str)) := by
  have p4 := small_pow h
  simp only [m_listed_sets, runF, startE_0, startE_1, startE_z, lk, ofS, W.pure_bind, mkLst_1, seqF_nx, List.set, seqOf]
  refine sets_use h (fun fs c s2 h1 h2 => ?_) fun s' => ?_
  · simp only [W.noX_pure, W.pure_bind, List.set, lk, ofS, seqOf, itemsOf]
    rw [compW_all D.str (fun f => D.str (f ++ [c])) fs fun f hf => by
      have := h2 f hf
      simp only [turnW, wipeE, List.set, W.pure_bind, lk, ofS, W.noX_pure, iteW_t]
      rw [addS (by rw [List.length_singleton]; omega)]
      rfl]
    simp only [W.pure_bind, itemsOf, List.append_nil]
    rw [mkLst_ok (by rw [List.length_append, List.length_map, List.length_map]; omega), W.pure_bind, more_eq]
  · have l1 : (ordS (raw l)).length = 2 ^ l.length := by rw [(ordS_perm _).length_eq, raw_len]
    simp only [lk, ofS, W.pure_bind, one1_eq]
    rw [sortD_eq (by rw [raw_len]; omega), W.pure_bind, sortD_eq (by rw [l1]; omega)]
    rfl
/-- how many sets there are -/
theorem listed_len (l : List Nat) : ((ordL (ordS (raw l))).map D.str).length = 2 ^ l.length := by rw [List.length_map, (ordL_perm _).length_eq, (ordS_perm _).length_eq, raw_len]
theorem l_sets_len (l : List Nat) : ((ordK (raw l)).map D.str).length = 2 ^ l.length := by rw [List.length_map, (ordK_perm _).length_eq, raw_len]
end Rg

set_option Elab.async false
set_option linter.all false
set_option maxRecDepth 100000
set_option maxHeartbeats 4500000
/-! the two ways of listing the sets come to the same -/
namespace Rg
open PySem PySem.Spec PyProof.Rows L2
/-- two rows made one, in at most n steps -/
def mgF {α : Type} (le : α → α → Bool) : Nat → List α → List α → List α
  | 0, xs, ys => xs ++ ys
  | _ + 1, [], ys => ys
  | _ + 1, xs, [] => xs
  | n + 1, x :: xs, y :: ys => if le x y = true then x :: mgF le n xs (y :: ys) else y :: mgF le n (x :: xs) ys
theorem mgF_eq {α : Type} (le : α → α → Bool) : ∀ (n : Nat) (xs ys : List α), xs.length + ys.length ≤ n → xs.merge ys le = mgF le n xs ys
  | 0, xs, ys, h => by
    have h1 : xs = [] := List.length_eq_zero_iff.mp (by omega)
    have h2 : ys = [] := List.length_eq_zero_iff.mp (by omega)
    subst h1 h2
    rw [List.merge.eq_1]
    rfl
  | n + 1, [], ys, h => by
    rw [List.merge.eq_1]
    rfl
  | n + 1, x :: xs, [], h => by
    rw [show (x :: xs).merge [] le = x :: xs by simp]
    rfl
  | n + 1, x :: xs, y :: ys, h => by
    simp only [List.length_cons] at h
    rw [List.merge.eq_3, mgF_eq le n xs (y :: ys) (by rw [List.length_cons]; omega), mgF_eq le n (x :: xs) ys (by rw [List.length_cons]; omega)]
    rfl
/-- a row in order, by halves -/
def srF {α : Type} (le : α → α → Bool) : Nat → List α → List α
  | 0, xs => xs
  | _ + 1, [] => []
  | _ + 1, [a] => [a]
  | n + 1, xs => mgF le xs.length (srF le n (xs.take ((xs.length + 1) / 2))) (srF le n (xs.drop ((xs.length + 1) / 2)))
theorem srF_eq {α : Type} (le : α → α → Bool) : ∀ (n : Nat) (xs : List α), xs.length ≤ n → xs.mergeSort le = srF le n xs
  | 0, xs, h => by
    rw [List.length_eq_zero_iff.mp (by omega : xs.length = 0), List.mergeSort.eq_1]
    rfl
  | n + 1, [], h => by
    rw [List.mergeSort.eq_1]
    rfl
  | n + 1, [a], h => by
    rw [List.mergeSort.eq_2]
    rfl
  | n + 1, a :: b :: r, h => by
    have hl : (a :: b :: r).length = r.length + 2 := rfl
    rw [hl] at h
    have e1 := srF_eq le n ((a :: b :: r).take ((r.length + 2 + 1) / 2)) (by rw [List.length_take, hl]; omega)
    have e2 := srF_eq le n ((a :: b :: r).drop ((r.length + 2 + 1) / 2)) (by rw [List.length_drop, hl]; omega)
    rw [List.mergeSort.eq_3, List.MergeSort.Internal.splitInTwo_fst, List.MergeSort.Internal.splitInTwo_snd]
    show ((List.take ((r.length + 2 + 1) / 2) (a :: b :: r)).mergeSort le).merge ((List.drop ((r.length + 2 + 1) / 2) (a :: b :: r)).mergeSort le) le = _
    rw [mgF_eq le (r.length + 2) _ _ (by rw [List.length_mergeSort, List.length_mergeSort, List.length_take, List.length_drop, hl]; omega), e1, e2]
    rfl
theorem ordS_fast (n : Nat) (ls : List (List Nat)) (h : ls.length ≤ n) : ordS ls = srF (fun a b => decide (a ≤ b)) n ls := srF_eq _ n ls h
theorem ordL_fast (n : Nat) (ls : List (List Nat)) (h : ls.length ≤ n) : ordL ls = srF (fun a b => decide ((a.length : Int) ≤ (b.length : Int))) n ls := srF_eq _ n ls h
theorem ordK_fast (n : Nat) (ls : List (List Nat)) (h : ls.length ≤ n) : ordK ls = srF (PySem.W.dataLe false fun l => PyData.tuple [.int (l.length : Int), .str (sOf l)]) n ls := srF_eq _ n ls h
/-- the sets of the lamps -/
def ssF (l : List Nat) : List (List Nat) := srF (PySem.W.dataLe false fun l => PyData.tuple [.int (l.length : Int), .str (sOf l)]) 16 (raw l)
theorem ssK {l : List Nat} (h4 : l.length ≤ 4) : ordK (raw l) = ssF l := ordK_fast 16 _ (by rw [raw_len]; exact small_pow h4)
theorem ssL {l : List Nat} (h4 : l.length ≤ 4) : ordL (ordS (raw l)) = srF (fun a b => decide ((a.length : Int) ≤ (b.length : Int))) 16 (srF (fun a b => decide (a ≤ b)) 16 (raw l)) := by
  have p4 := small_pow h4
  rw [ordS_fast 16 _ (by rw [raw_len]; exact p4)]
  exact ordL_fast 16 _ (by rw [← ordS_fast 16 _ (by rw [raw_len]; exact p4), (ordS_perm _).length_eq, raw_len]; exact p4)
theorem ss_eq : ∀ l ∈ nine ++ [[113], [109, 113]], srF (fun a b => decide ((a.length : Int) ≤ (b.length : Int))) 16 (srF (fun a b => decide (a ≤ b)) 16 (raw l)) = ssF l := by decide +kernel
end Rg

set_option Elab.async false
set_option linter.all false
set_option maxRecDepth 100000
set_option maxHeartbeats 4500000
/-! sentences: what they are, what they hold for -/
namespace Rg
open PySem PySem.Spec PyProof.Rows L2
abbrev wLit : List Nat := [108, 105, 116]
abbrev wLeast : List Nat := [108, 101, 97, 115, 116]
abbrev wSets : List Nat := [115, 101, 116, 115]
abbrev wNot : List Nat := [110, 111, 116]
abbrev wAnd : List Nat := [97, 110, 100]
abbrev wOr : List Nat := [111, 114]
mutual
/-- d is a sentence about the lamps l, so deep, with so many parts, that holds for the sets for which f is true -/
inductive Sen (l : List Nat) : D → Nat → Nat → (List Nat → Bool) → Prop
  | lit {c : Nat} : c ∈ l → Sen l (.tup [.str wLit, .str [c]]) 1 1 (fun k => k.contains c)
  | least {n : Nat} {s : List Nat} : 1 ≤ n → n ≤ 4 → s.Sublist l → Sen l (.tup [.str wLeast, .int (n : Nat), .str s]) 1 1 (fun k => decide (n ≤ (s.filter fun c => k.contains c).length))
  | sets {ks : List (List Nat)} : ks.length ≤ 16 → (∀ k ∈ ks, k.Sublist l) → Sen l (.tup (.str wSets :: ks.map D.str)) 1 1 (fun k => ks.contains k)
  | neg {d : D} {dp sz : Nat} {f : List Nat → Bool} : Sen l d dp sz f → Sen l (.tup [.str wNot, d]) (dp + 1) (sz + 1) (fun k => !f k)
  | conj {ds : List D} {dp sz : Nat} {fs : List (List Nat → Bool)} : Sens l ds dp sz fs → 2 ≤ ds.length → ds.length ≤ 4 → Sen l (.tup (.str wAnd :: ds)) (dp + 1) (sz + 1) (fun k => (fs.map fun f => f k).all id)
  | disj {ds : List D} {dp sz : Nat} {fs : List (List Nat → Bool)} : Sens l ds dp sz fs → 2 ≤ ds.length → ds.length ≤ 4 → Sen l (.tup (.str wOr :: ds)) (dp + 1) (sz + 1) (fun k => (fs.map fun f => f k).any id)
inductive Sens (l : List Nat) : List D → Nat → Nat → List (List Nat → Bool) → Prop
  | nil : Sens l [] 0 0 []
  | cons {d : D} {dp sz : Nat} {f : List Nat → Bool} {ds : List D} {dp' sz' : Nat} {fs : List (List Nat → Bool)} : Sen l d dp sz f → Sens l ds dp' sz' fs → Sens l (d :: ds) (max dp dp') (sz + sz') (f :: fs)
end
theorem Sen.mut {l : List Nat} {d : D} {dp sz : Nat} {f : List Nat → Bool} (h : Sen l d dp sz f) : isMut d = false := by cases h <;> rfl
theorem Sen.pos {l : List Nat} {d : D} {dp sz : Nat} {f : List Nat → Bool} (h : Sen l d dp sz f) : 1 ≤ sz := by cases h <;> omega
theorem plains_strs (n : Nat) : ∀ ks : List (List Nat), plains n (ks.map D.str) = true
  | [] => rfl
  | _ :: r => by
    show (true && plains n (r.map D.str)) = true
    rw [plains_strs n r]
    rfl
theorem any_str (k : List Nat) : ∀ ks : List (List Nat), (ks.map D.str).any (fun y => eqvD y (.str k)) = ks.contains k
  | [] => rfl
  | q :: r => by
    have ih := any_str k r
    show ((q == k) || (r.map D.str).any _) = _
    rw [ih, List.contains_cons]
    congr 1
    exact Bool.eq_iff_iff.mpr (by simp only [beq_iff_eq]; exact ⟨Eq.symm, Eq.symm⟩)
theorem in_strs (k : List Nat) (ks : List (List Nat)) (neg : Bool) : inD neg (.str k) (.lst (ks.map D.str)) = W.pure (.bl (ks.contains k != neg)) := by
  show W.bind (W.need (plain 59 (D.str k) = true ∧ plains 59 (ks.map D.str) = true)) _ = _
  rw [W.need_true ⟨rfl, plains_strs 59 ks⟩, any_str]
theorem in_sign (c : Nat) (k : List Nat) (neg : Bool) : inD neg (.str [c]) (.str k) = W.pure (.bl (k.contains c != neg)) := rfl
theorem in_join (s : List Nat) : inD false (.str s) (.tup [.str wAnd, .str wOr]) = W.pure (.bl ((wAnd == s || (wOr == s || false)) != false)) := W.need_true (show flatD (D.str s) = true ∧ List.all [D.str wAnd, D.str wOr] flatD = true from ⟨rfl, rfl⟩) _
theorem filt_len {α : Type} (p : Nat → Bool) (x : Nat → α) : ∀ l : List Nat, (l.filterMap fun c => if p c then some (x c) else none).length = (l.filter p).length
  | [] => rfl
  | c :: r => by
    have ih := filt_len p x r
    rw [List.filterMap_cons, List.filter_cons]
    by_cases h : p c = true
    · rw [if_pos h, if_pos h, List.length_cons, List.length_cons, ih]
    · rw [if_neg h, if_neg h]
      exact ih
theorem head_eq (d : D) {r : List D} (h : r.length ≤ 1000) : headT (.tup (d :: r)) = W.pure (d, r) := W.need_true h _
theorem head_1 (a b : D) : headT (.tup [a, b]) = W.pure (a, [b]) := head_eq a (show 1 ≤ 1000 by decide)
theorem head_2 (a b c : D) : headT (.tup [a, b, c]) = W.pure (a, [b, c]) := head_eq a (show 2 ≤ 1000 by decide)
theorem lk_hd (o : Option D) (r : Ev) : lk (o :: r) 0 = ofS o := rfl
theorem ixL0 (a : D) (r : List D) : ixD (.lst (a :: r)) (.int 0) = W.pure a := by
  show ofO (atI (a :: r) ((0 : Nat) : Int)) = _
  rw [atI_nat (j := 0) rfl]
  rfl
theorem ixL1 (a b : D) (r : List D) : ixD (.lst (a :: b :: r)) (.int 1) = W.pure b := by
  show ofO (atI (a :: b :: r) ((1 : Nat) : Int)) = _
  rw [atI_nat (j := 1) rfl]
  rfl
theorem comp_signs {g : D → W (Option D)} (p : Nat → Bool) (s : List Nat) (h : ∀ c ∈ s, g (.str [c]) = W.pure (if p c then some (.str [c]) else none)) : compW g (signs s) = W.pure (s.filterMap fun c => if p c then some (.str [c]) else none) :=
  compW_some (fun c => D.str [c]) (fun c => if p c then some (.str [c]) else none) s h
theorem geI (i j : Int) : intOp0 (fun i j => D.bl (decide (j ≤ i))) (.int i) (.int j) = W.pure (.bl (decide (j ≤ i))) := rfl
theorem leI (i j : Int) : intOp0 (fun i j => D.bl (decide (i ≤ j))) (.int i) (.int j) = W.pure (.bl (decide (i ≤ j))) := rfl
theorem Sens.len {l : List Nat} : ∀ {ds : List D} {dp sz : Nat} {fs : List (List Nat → Bool)}, Sens l ds dp sz fs → ds.length = fs.length ∧ ds.length ≤ sz
  | _, _, _, _, .nil => ⟨rfl, Nat.le_refl _⟩
  | _, _, _, _, .cons h1 h2 => by
    have := h2.len
    have := h1.pos
    simp only [List.length_cons]
    omega
theorem pure_fl (d : D) : W.bind (W.pure (Fl.rt d)) endF = W.pure d := rfl
mutual
theorem Sen.holds {l : List Nat} : ∀ {d : D} {dp sz : Nat} {f : List Nat → Bool}, Sen l d dp sz f → ∀ n, dp ≤ n → ∀ k : List Nat, m_sentence_holds n [d, .str k] = W.pure (.bl (f k))
  | _, _, _, _, .lit hc, n + 1, _, k => by
    simp only [m_sentence_holds, runF, startE_0, startE_1, startE_z, lk, ofS_tup, ofS_str, ofS_lst, W.pure_bind, head_1, List.set, seqF_nx, eqD_str, ofB, show (wLit == wLit) = true by decide, iteW_t, ixL0, in_sign, seqF_rt, xor_ff, endF]
  | _, _, _, _, .least (n := m) (s := s) h1 h2 h3, n + 1, _, k => by
    simp only [m_sentence_holds, runF, startE_0, startE_1, startE_z, lk, ofS_tup, ofS_str, ofS_lst, W.pure_bind, head_2, List.set, seqF_nx, eqD_str, ofB, show (wLeast == wLit) = false by decide, show (wLeast == wLeast) = true by decide, iteW_t, iteW_f, ixL0, ixL1, seqOf]
    rw [comp_signs (fun c => k.contains c) s fun c _ => by
      simp only [turnW, wipeE, List.set, W.pure_bind, lk, ofS_str, in_sign, xor_ff, ofB, W.noX_pure]
      cases k.contains c <;> rfl]
    simp only [W.pure_bind, one1_eq, lenD, filt_len (fun c => k.contains c), geI, seqF_rt, endF]
    congr 2
    exact decide_eq_decide.mpr (show _ ↔ _ by omega)
  | _, _, _, _, .sets (ks := ks) h1 h2, n + 1, _, k => by
    simp only [m_sentence_holds, runF, startE_0, startE_1, startE_z, lk, ofS_tup, ofS_str, ofS_lst, W.pure_bind, head_eq _ (show (ks.map D.str).length ≤ 1000 by rw [List.length_map]; omega), List.set, seqF_nx, eqD_str, ofB, show (wSets == wLit) = false by decide, show (wSets == wLeast) = false by decide, show (wSets == wSets) = true by decide, iteW_t, iteW_f, in_strs, xor_ff, seqF_rt, endF]
  | _, _, _, _, .neg (d := d) (f := f) h, n + 1, hn, k => by
    have ih := Sen.holds h n (by omega) k
    have e : ∀ g : D → W (Option D), g d = W.pure (some (.bl (f k))) → compW g [d] = W.pure [.bl (f k)] := fun g hg => by
      show W.bind (g d) _ = _
      rw [hg]
      rfl
    simp only [m_sentence_holds, runF, startE_0, startE_1, startE_z, lk, ofS_tup, ofS_str, ofS_lst, W.pure_bind, head_1, List.set, seqF_nx, eqD_str, ofB, show (wNot == wLit) = false by decide, show (wNot == wLeast) = false by decide, show (wNot == wSets) = false by decide, show (wNot == wNot) = true by decide, iteW_t, iteW_f, seqOf]
    rw [e _ (by simp only [turnW, wipeE, List.set, W.pure_bind, lk, ofS_of h.mut, ofS_str, callM_2, ih, W.noX_pure, iteW_t])]
    simp only [W.pure_bind, seqF_nx, lk, ofS_str, ofS_lst, eqD_str, ofB, show (wNot == wNot) = true by decide, iteW_t, ixL0, seqF_rt, endF]
  | _, _, _, _, .conj (ds := ds) (fs := fs) h h2 h4, n + 1, hn, k => by
    have ih := Sens.holds h n (by omega) k
    simp only [m_sentence_holds, runF, startE_0, startE_1, startE_z, lk, ofS_tup, ofS_str, ofS_lst, W.pure_bind, head_eq _ (show ds.length ≤ 1000 by omega), List.set, seqF_nx, eqD_str, ofB, show (wAnd == wLit) = false by decide, show (wAnd == wLeast) = false by decide, show (wAnd == wSets) = false by decide, iteW_f, seqOf]
    rw [ih _ fun d dp sz f hd e => by simp only [turnW, wipeE, List.set, W.pure_bind, lk, ofS_of hd.mut, ofS_str, callM_2, e, W.noX_pure, iteW_t]]
    simp only [W.pure_bind, seqF_nx, lk, ofS_str, ofS_lst, eqD_str, ofB, show (wAnd == wNot) = false by decide, show (wAnd == wAnd) = true by decide, iteW_t, iteW_f, one1_eq, allB, bls_map (fun f : List Nat → Bool => f k), Option.map, ofO, endF]
  | _, _, _, _, .disj (ds := ds) (fs := fs) h h2 h4, n + 1, hn, k => by
    have ih := Sens.holds h n (by omega) k
    simp only [m_sentence_holds, runF, startE_0, startE_1, startE_z, lk, ofS_tup, ofS_str, ofS_lst, W.pure_bind, head_eq _ (show ds.length ≤ 1000 by omega), List.set, seqF_nx, eqD_str, ofB, show (wOr == wLit) = false by decide, show (wOr == wLeast) = false by decide, show (wOr == wSets) = false by decide, iteW_f, seqOf]
    rw [ih _ fun d dp sz f hd e => by simp only [turnW, wipeE, List.set, W.pure_bind, lk, ofS_of hd.mut, ofS_str, callM_2, e, W.noX_pure, iteW_t]]
    simp only [W.pure_bind, seqF_nx, lk, ofS_str, ofS_lst, eqD_str, ofB, show (wOr == wNot) = false by decide, show (wOr == wAnd) = false by decide, iteW_t, iteW_f, one1_eq, allB, bls_map (fun f : List Nat → Bool => f k), Option.map, ofO, endF]
  | _, _, _, _, .lit _, 0, hn, _ => absurd hn (by omega)
  | _, _, _, _, .least _ _ _, 0, hn, _ => absurd hn (by omega)
  | _, _, _, _, .sets _ _, 0, hn, _ => absurd hn (by omega)
  | _, _, _, _, .neg _, 0, hn, _ => absurd hn (by omega)
  | _, _, _, _, .conj _ _ _, 0, hn, _ => absurd hn (by omega)
  | _, _, _, _, .disj _ _ _, 0, hn, _ => absurd hn (by omega)
theorem Sens.holds {l : List Nat} : ∀ {ds : List D} {dp sz : Nat} {fs : List (List Nat → Bool)}, Sens l ds dp sz fs → ∀ n, dp ≤ n → ∀ k : List Nat, ∀ g : D → W (Option D), (∀ d dp sz f, Sen l d dp sz f → m_sentence_holds n [d, .str k] = W.pure (.bl (f k)) → g d = W.pure (some (.bl (f k)))) → compW g ds = W.pure (fs.map fun f => .bl (f k))
  | _, _, _, _, .nil, n, _, k, g, _ => rfl
  | _, _, _, _, .cons (d := d) h1 h2, n, hn, k, g, hg => by
    show W.bind (g d) _ = _
    rw [hg d _ _ _ h1 (Sen.holds h1 n (by omega) k), W.pure_bind, Sens.holds h2 n (by omega) k g hg, W.pure_bind]
    rfl
end
end Rg

set_option Elab.async false
set_option linter.all false
set_option maxRecDepth 100000
set_option maxHeartbeats 4500000
/-! sentences pass the check; goals are made -/
namespace Rg
open PySem PySem.Spec PyProof.Rows L2
theorem isT (xs : List D) : isiD (.tup xs) (.ty "tuple") = W.pure (.bl true) := (isi_eq (u := "tuple") rfl (by decide)).trans rfl
theorem isNum (i : Int) : m_is_number [.int i] = W.pure (.bl true) := by
  have e1 : isiD (.int i) (.ty "int") = W.pure (.bl true) := (isi_eq (u := "int") rfl (by decide)).trans rfl
  have e2 : isiD (.int i) (.ty "bool") = W.pure (.bl false) := (isi_eq (u := "bool") rfl (by decide)).trans rfl
  simp only [m_is_number, runF, startE_0, startE_1, startE_z, lk, ofS_int, W.pure_bind, two2_eq, e1, e2, ofB, iteW_t, Bool.not_false, endF]
theorem isCount {n : Nat} (h1 : 1 ≤ n) (h4 : n ≤ 4) : m_is_count [.int (n : Nat)] = W.pure (.bl true) := by
  simp only [m_is_count, runF, startE_0, startE_1, startE_z, lk, ofS_int, W.pure_bind, callM_1, isNum, ofB, iteW_t, leI, show decide ((1 : Int) ≤ (n : Nat)) = true from decide_eq_true (by omega), show decide (((n : Nat) : Int) ≤ 4) = true from decide_eq_true (by omega), endF]
/-- lamps that are tried -/
structure Lamps (l : List Nat) : Prop where
  mem : l ∈ nine ++ [[113], [109, 113]]
  len1 : 1 ≤ l.length
  len4 : l.length ≤ 4
  sub : l.Sublist abc
  asc : l.Pairwise (· < ·)
theorem lamps_of {l : List Nat} (h : l ∈ nine ++ [[113], [109, 113]]) : Lamps l :=
  have q : ∀ l ∈ nine ++ [[113], [109, 113]], 1 ≤ l.length ∧ l.length ≤ 4 ∧ l.Sublist abc ∧ l.Pairwise (· < ·) := by decide
  ⟨h, (q l h).1, (q l h).2.1, (q l h).2.2.1, (q l h).2.2.2⟩
theorem sub_len {l k : List Nat} (L : Lamps l) (h : k.Sublist l) : k.length ≤ 26 := by
  have := h.length_le
  have := L.len4
  omega
theorem listed_ss {l : List Nat} (L : Lamps l) : m_listed_sets [.str l] = W.pure (.lst ((ssF l).map D.str)) := by
  rw [listed_eq L.len4, ssL L.len4, ss_eq l L.mem]
theorem l_sets_ss {l : List Nat} (h4 : l.length ≤ 4) : m_l_sets [.str l] = W.pure (.lst ((ssF l).map D.str)) := by rw [l_sets_eq h4, ssK h4]
theorem ss_len {l : List Nat} (h4 : l.length ≤ 4) : (ssF l).length ≤ 16 := by
  rw [← ssK h4, (ordK_perm _).length_eq, raw_len]
  exact small_pow h4
theorem allTrue_wp {f : D → W (Option D)} {xs : List D} {Q : D → Prop} {E : ExD → Prop} (hf : ∀ x ∈ xs, ∀ Q' : Option D → Prop, Q' (some (.bl true)) → (f x).wp Q' E) (h : Q (.bl true)) : (compW f xs).wp (fun ys => (one1 (allB fun bs => bs.all id) [.lst ys]).wp Q E) E := by
  have := compW_wp (f := f) (E := E) (fun x : D => x) (fun _ => D.bl true) xs hf (fun ys => (one1 (allB fun bs => bs.all id) [.lst ys]).wp Q E)
  rw [List.map_id'] at this
  refine this ?_
  simp only [one1_eq, allB, bls_map (fun _ : D => true), Option.map, ofO, pure_wp, all_true]
  exact h
section
variable {l : List Nat} {Q : D → Prop} {E : ExD → Prop}
theorem form_wp {d : D} {dp sz : Nat} {f : List Nat → Bool} (L : Lamps l) (hd : Sen l d dp sz f) (h : Q (.bl true)) : (m_has_form [.str l, d]).wp Q E := by
  have z0 : ∀ n : Nat, (((n + 1 : Nat) : Int) == 0) = false := fun n => beq_false_of_ne (by omega)
  cases hd with
  | @lit c hc =>
    simp only [m_has_form, runF, startE_0, startE_1, startE_z, lk, ofS_tup, ofS_str, ofS_lst, W.pure_bind, two2_eq, isT, truD, Bool.not_true, iteW_f, one1_eq, lenD, List.length_cons, List.length_nil, eqD_int, z0, ofB, head_1, List.set, seqF_nx, eqD_str, show (wLit == wLit) = true by decide, iteW_t, ixL0, show (((0 + 1 : Nat) : Int) == 1) = true by decide, callM_2, bind_wp, seqF_wp]
    refine set_wp L.asc (show 1 ≤ 26 by decide) (List.singleton_sublist.mpr hc) ?_
    simp only [pure_wp, ofB, iteW_t, lk, ofS_lst, ixL0, W.pure_bind, one1_eq, lenD, eqD_int, bind_wp]
    exact h
  | @least n s h1 h2 h3 =>
    simp only [m_has_form, runF, startE_0, startE_1, startE_z, lk, ofS_tup, ofS_str, ofS_lst, W.pure_bind, two2_eq, isT, truD, Bool.not_true, iteW_f, one1_eq, lenD, List.length_cons, List.length_nil, eqD_int, z0, ofB, head_2, List.set, seqF_nx, eqD_str, show (wLeast == wLit) = false by decide, show (wLeast == wLeast) = true by decide, iteW_t, ixL0, ixL1, show (((0 + 1 + 1 : Nat) : Int) == 2) = true by decide, callM_1, callM_2, isCount h1 h2, bind_wp, seqF_wp]
    refine set_wp L.asc (sub_len L h3) h3 ?_
    exact h
  | @sets ks h1 h2 =>
    have e16 : decide (((ks.length : Nat) : Int) ≤ 16) = true := decide_eq_true (by omega)
    simp only [m_has_form, runF, startE_0, startE_1, startE_z, lk, ofS_tup, ofS_str, ofS_lst, W.pure_bind, two2_eq, isT, truD, Bool.not_true, iteW_f, one1_eq, lenD, List.length_cons, List.length_map, eqD_int, z0, ofB, head_eq _ (show (ks.map D.str).length ≤ 1000 by rw [List.length_map]; omega), List.set, seqF_nx, eqD_str, show (wSets == wLit) = false by decide, show (wSets == wLeast) = false by decide, show (wSets == wSets) = true by decide, iteW_t, leI, e16, seqOf, bind_wp, seqF_wp]
    refine allTrue_wp (fun x hx Q' q => ?_) h
    obtain ⟨k, hk, rfl⟩ := List.mem_map.mp hx
    simp only [turnW, wipeE, List.set, W.pure_bind, lk, ofS_str, callM_2, noX_wp, bind_wp, pure_wp, iteW_t]
    exact set_wp L.asc (sub_len L (h2 k hk)) (h2 k hk) q
  | @neg d dp sz f hd =>
    simp only [m_has_form, runF, startE_0, startE_1, startE_z, lk, ofS_tup, ofS_str, ofS_lst, W.pure_bind, two2_eq, isT, truD, Bool.not_true, iteW_f, one1_eq, lenD, List.length_cons, List.length_nil, eqD_int, z0, ofB, head_1, List.set, seqF_nx, eqD_str, show (wNot == wLit) = false by decide, show (wNot == wLeast) = false by decide, show (wNot == wSets) = false by decide, show (wNot == wNot) = true by decide, iteW_t, show (((0 + 1 : Nat) : Int) == 1) = true by decide, seqF_rt, endF, pure_wp]
    exact h
  | @conj ds dp sz fs hs h2 h4 =>
    simp only [m_has_form, runF, startE_0, startE_1, startE_z, lk, ofS_tup, ofS_str, ofS_lst, W.pure_bind, two2_eq, isT, truD, Bool.not_true, iteW_f, one1_eq, lenD, List.length_cons, eqD_int, z0, ofB, head_eq _ (show ds.length ≤ 1000 by omega), List.set, seqF_nx, eqD_str, show (wAnd == wLit) = false by decide, show (wAnd == wLeast) = false by decide, show (wAnd == wSets) = false by decide, show (wAnd == wNot) = false by decide, in_join, show ((wAnd == wAnd || (wOr == wAnd || false)) != false) = true by decide, iteW_t, leI, show decide ((2 : Int) ≤ (ds.length : Nat)) = true from decide_eq_true (by omega), show decide (((ds.length : Nat) : Int) ≤ 4) = true from decide_eq_true (by omega), endF, pure_wp]
    exact h
  | @disj ds dp sz fs hs h2 h4 =>
    simp only [m_has_form, runF, startE_0, startE_1, startE_z, lk, ofS_tup, ofS_str, ofS_lst, W.pure_bind, two2_eq, isT, truD, Bool.not_true, iteW_f, one1_eq, lenD, List.length_cons, eqD_int, z0, ofB, head_eq _ (show ds.length ≤ 1000 by omega), List.set, seqF_nx, eqD_str, show (wOr == wLit) = false by decide, show (wOr == wLeast) = false by decide, show (wOr == wSets) = false by decide, show (wOr == wNot) = false by decide, in_join, show ((wAnd == wOr || (wOr == wOr || false)) != false) = true by decide, iteW_t, leI, show decide ((2 : Int) ≤ (ds.length : Nat)) = true from decide_eq_true (by omega), show decide (((ds.length : Nat) : Int) ≤ 4) = true from decide_eq_true (by omega), endF, pure_wp]
    exact h
theorem ixT0 (a : D) (r : List D) : ixD (.tup (a :: r)) (.int 0) = W.pure a := ix_0 a r
theorem sl_1 (a : D) (r : List D) : slD (some 1) none (.tup (a :: r)) = W.pure (.tup r) := by
  show W.pure (D.tup (cutL (a :: r) (some ((1 : Nat) : Int)) none)) = _
  unfold cutL
  have e : HT.sIx (a :: r).length 0 (some ((1 : Nat) : Int)) = 1 := by
    unfold HT.sIx
    simp only [List.length_cons]
    split <;> omega
  rw [e]
  simp [HT.sIx]
theorem slL_1 (a : D) (r : List D) : slD (some 1) none (.lst (a :: r)) = W.pure (.lst r) := by
  show W.pure (D.lst (cutL (a :: r) (some ((1 : Nat) : Int)) none)) = _
  unfold cutL
  have e : HT.sIx (a :: r).length 0 (some ((1 : Nat) : Int)) = 1 := by
    unfold HT.sIx
    simp only [List.length_cons]
    split <;> omega
  rw [e]
  simp [HT.sIx]
/-- the sentences that stand directly in one -/
theorem inner_of {d : D} {dp sz : Nat} {f : List Nat → Bool} (hd : Sen l d dp sz f) : ∃ ds dp' sz' fs, Sens l ds dp' sz' fs ∧ sz = sz' + 1 ∧ ds.length ≤ 4 ∧ m_inner_sentences [d] = W.pure (.tup ds) := by
  have mk0 : mkTup [] = W.pure (.tup []) := W.need_true (show 0 ≤ big by decide) _
  cases hd with
  | @lit c hc =>
    refine ⟨[], 0, 0, [], .nil, rfl, by decide, ?_⟩
    simp only [m_inner_sentences, runF, startE_0, startE_1, startE_z, lk, ofS_tup, W.pure_bind, ix_0, eqD_str, show (wLit == wNot) = false by decide, ofB, iteW_f, in_join, show ((wAnd == wLit || (wOr == wLit || false)) != false) = false by decide, mk0, endF]
  | @least n s h1 h2 h3 =>
    refine ⟨[], 0, 0, [], .nil, rfl, by decide, ?_⟩
    simp only [m_inner_sentences, runF, startE_0, startE_1, startE_z, lk, ofS_tup, W.pure_bind, ix_0, eqD_str, show (wLeast == wNot) = false by decide, ofB, iteW_f, in_join, show ((wAnd == wLeast || (wOr == wLeast || false)) != false) = false by decide, mk0, endF]
  | @sets ks h1 h2 =>
    refine ⟨[], 0, 0, [], .nil, rfl, by decide, ?_⟩
    simp only [m_inner_sentences, runF, startE_0, startE_1, startE_z, lk, ofS_tup, W.pure_bind, ix_0, eqD_str, show (wSets == wNot) = false by decide, ofB, iteW_f, in_join, show ((wAnd == wSets || (wOr == wSets || false)) != false) = false by decide, mk0, endF]
  | @neg d dp sz f hd =>
    refine ⟨[d], _, _, _, .cons hd .nil, by omega, (show 1 ≤ 4 by decide), ?_⟩
    simp only [m_inner_sentences, runF, startE_0, startE_1, startE_z, lk, ofS_tup, W.pure_bind, ix_0, eqD_str, show (wNot == wNot) = true by decide, ofB, iteW_t, ofI, sl_1, endF]
  | @conj ds dp sz fs hs h2 h4 =>
    refine ⟨ds, _, _, _, hs, rfl, h4, ?_⟩
    simp only [m_inner_sentences, runF, startE_0, startE_1, startE_z, lk, ofS_tup, W.pure_bind, ix_0, eqD_str, show (wAnd == wNot) = false by decide, ofB, iteW_f, in_join, show ((wAnd == wAnd || (wOr == wAnd || false)) != false) = true by decide, iteW_t, ofI, sl_1, endF]
  | @disj ds dp sz fs hs h2 h4 =>
    refine ⟨ds, _, _, _, hs, rfl, h4, ?_⟩
    simp only [m_inner_sentences, runF, startE_0, startE_1, startE_z, lk, ofS_tup, W.pure_bind, ix_0, eqD_str, show (wOr == wNot) = false by decide, ofB, iteW_f, in_join, show ((wAnd == wOr || (wOr == wOr || false)) != false) = true by decide, iteW_t, ofI, sl_1, endF]
theorem Sens.app : ∀ {ds : List D} {dp sz : Nat} {fs : List (List Nat → Bool)} {es : List D} {dp' sz' : Nat} {gs : List (List Nat → Bool)}, Sens l ds dp sz fs → Sens l es dp' sz' gs → ∃ dp'', Sens l (ds ++ es) dp'' (sz + sz') (fs ++ gs)
  | _, _, _, _, _, _, _, _, .nil, h => ⟨_, by rw [Nat.zero_add]; exact h⟩
  | _, _, _, _, _, _, _, _, .cons h1 h2, h => by
    obtain ⟨dp'', h3⟩ := h2.app h
    exact ⟨_, by rw [Nat.add_assoc]; exact .cons h1 h3⟩
theorem next_eq {d : D} {ws : List D} {ds : List D} (im : isMut d = false) (hi : m_inner_sentences [d] = W.pure (.tup ds)) (hl : ds.length + ws.length ≤ 100) : m_next_parts [.lst (d :: ws)] = W.pure (.lst (ds ++ ws)) := by
  simp only [m_next_parts, runF, startE_0, startE_1, startE_z, lk, ofS_lst, W.pure_bind, ixL0, callM_1, hi, itemsOf, ofI, slL_1, List.append_nil]
  rw [mkLst_ok (by rw [List.length_append]; omega)]
  rfl
theorem check_loop {d : D} {body : D → Ev → W Fl} {Q' : Fl → Prop} (L : Lamps l) (hq : Q' (.rt .non))
    (hb : ∀ (x : D) (w : D) (ws nxt : List D) (s3 : Option D) (P : Fl → Prop), isMut x = false → isMut w = false → (∀ Q : D → Prop, Q (.bl true) → (m_has_form [.str l, w]).wp Q E) → m_next_parts [.lst (w :: ws)] = W.pure (.lst nxt) → (nxt = [] → P (.rt .non)) → (nxt ≠ [] → P (.nx [some (.str l), some d, some (.lst nxt), some x])) → (body x [some (.str l), some d, some (.lst (w :: ws)), s3]).wp P E) :
    ∀ (ns : List D) (ws : List D) (dp sz : Nat) (fs : List (List Nat → Bool)) (s3 : Option D), (∀ x ∈ ns, isMut x = false) → Sens l ws dp sz fs → ws ≠ [] → sz ≤ ns.length → ns.length ≤ 20 → ws.length ≤ 50 → (forW body ns [some (.str l), some d, some (.lst ws), s3]).wp Q' E
  | [], ws, dp, sz, fs, s3, _, hs, ne, h0, _, _ => by
    have := hs.len.2
    have := List.length_pos_iff.mpr ne
    simp at h0
    omega
  | x :: ns, [], _, _, _, _, _, _, ne, _, _, _ => (ne rfl).elim
  | x :: ns, w :: ws, dp, sz, fs, s3, hm, hs, ne, h0, hn, hw => by
    obtain ⟨_, a, _, _, b, _, h1, h2, rfl⟩ : ∃ dp a f dp' b fs, Sen l w dp a f ∧ Sens l ws dp' b fs ∧ sz = a + b := by
      cases hs with
      | cons h1 h2 => exact ⟨_, _, _, _, _, _, h1, h2, rfl⟩
    obtain ⟨ds, dp', sz', gs, i1, i2, i3, i4⟩ := inner_of h1
    obtain ⟨dp'', i5⟩ := i1.app h2
    have l2 := h2.len.2
    simp only [List.length_cons] at h0 hn hw
    have nx := next_eq (ws := ws) h1.mut i4 (by omega)
    show (W.bind (body x _) _).wp Q' E
    refine hb x w ws (ds ++ ws) s3 _ (hm x List.mem_cons_self) h1.mut (fun Q q => form_wp L h1 q) nx (fun _ => hq) fun c => ?_
    have l5 := i5.len.2
    exact check_loop L hq hb ns (ds ++ ws) _ _ _ _ (fun y hy => hm y (List.mem_cons_of_mem _ hy)) i5 c (by omega) (by omega) (by rw [List.length_append]; omega)
theorem rng1_20 : rng1 [.int 20] = W.pure (irange 0 20) := by
  simp only [rng1, one1_eq, int1, W.pure_bind]
  exact W.need_true (by decide) _
theorem check_wp {d : D} {dp sz : Nat} {f : List Nat → Bool} (L : Lamps l) (hd : Sen l d dp sz f) (hz : sz ≤ 20) (h : Q .non) : (m_check_sentence [.str l, d]).wp Q E := by
  simp only [m_check_sentence, runF, startE_0, startE_1, startE_z, lk, ofS_str, W.pure_bind, callM_1, bind_wp, seqF_wp]
  refine checkLamps_wp L.len1 L.len4 L.sub ?_
  simp only [pure_wp, lk, ofS_of hd.mut, W.pure_bind, mkLst_1, List.set, rng1_20, bind_wp, seqF_wp]
  refine check_loop (d := d) L h (fun x w ws nxt s3 P ix iw hf hn p1 p2 => ?_) (irange 0 20) [d] _ _ _ none (fun x hx => ?_) (.cons hd .nil) (by simp) (by simp [irange]; omega) (by simp [irange]) (show 1 ≤ 50 by decide)
  · simp only [W.noX_pure, W.pure_bind, List.set, lk, ofS_str, ofS_lst, ixL0, callM_2, bind_wp, seqF_wp]
    refine hf _ ?_
    simp only [truD, pure_wp, Bool.not_true, iteW_f, List.set, lk, ofS_lst, W.pure_bind, callM_1, hn, seqF_nx, bind_wp, one1_eq, lenD, eqD_int, ofB]
    by_cases c : nxt = []
    · rw [c]
      exact p1 c
    · have lp := List.length_pos_iff.mpr c
      rw [show (((nxt.length : Nat) : Int) == 0) = false from beq_false_of_ne (by omega)]
      exact p2 c
  · obtain ⟨i, _, rfl⟩ := List.mem_map.mp hx
    rfl
/-- the goal itself -/
def gD (l : List Nat) (d : D) (f : List Nat → Bool) : D := .ins "Goal" [("letters", .str l), ("wording", d), ("held", .tup (((ssF l).filter f).map D.str))]
theorem comp_filt {g : D → W (Option D)} (p : List Nat → Bool) (ks : List (List Nat)) (h : ∀ k ∈ ks, g (.str k) = W.pure (if p k then some (.str k) else none)) : compW g (ks.map D.str) = W.pure ((ks.filter p).map D.str) := by
  rw [compW_some D.str (fun k => if p k then some (.str k) else none) ks h]
  congr 1
  induction ks with
  | nil => rfl
  | cons k r ih =>
    have ih := ih fun x hx => h x (List.mem_cons_of_mem _ hx)
    rw [List.filterMap_cons, List.filter_cons]
    by_cases c : p k = true
    · rw [if_pos c, if_pos c, List.map_cons, ih]
    · rw [if_neg c, if_neg c]
      exact ih
theorem goal_wp {d : D} {dp sz : Nat} {f : List Nat → Bool} (L : Lamps l) (hd : Sen l d dp sz f) (hz : sz ≤ 20) (hp : dp ≤ 6) (h : Q (gD l d f)) : (makeM "Goal" 2 m_M_Goal_init [.str l, d]).wp Q E := by
  refine ⟨rfl, ?_⟩
  simp only [m_M_Goal_init, runI, startE_0, startE_1, startE_z, lk, ofS_str, ofS_of hd.mut, W.pure_bind, callM_2, bind_wp]
  refine check_wp L hd hz ?_
  refine ⟨by decide, ?_⟩
  refine ⟨(show 1 < 1000 by decide), ?_⟩
  simp only [pure_wp, callM_1, listed_ss L, W.pure_bind, seqOf, bind_wp]
  rw [comp_filt f _ fun k _ => by
    simp only [turnW, wipeE, List.set, W.pure_bind, lk, ofS_str, ofS_of hd.mut, callM_2, hd.holds 6 hp, truD, W.noX_pure]
    cases f k <;> rfl]
  simp only [pure_wp, one1_eq, tupleD, bind_wp]
  exact ⟨(show 2 < 1000 by decide), h⟩
end
end Rg

set_option Elab.async false
set_option linter.all false
set_option maxRecDepth 100000
set_option maxHeartbeats 4500000
/-! goals of sets; what goals tell -/
namespace Rg
open PySem PySem.Spec PyProof.Rows L2
theorem foldl_sub : ∀ (l : List Nat) (fs : List (List Nat)) (pre : List Nat), (∀ f ∈ fs, f.Sublist pre) → ∀ k ∈ l.foldl grown fs, k.Sublist (pre ++ l)
  | [], fs, pre, h, k, hk => by
    rw [List.append_nil]
    exact h k hk
  | c :: r, fs, pre, h, k, hk => by
    rw [List.foldl_cons] at hk
    have := foldl_sub r (grown fs c) (pre ++ [c]) (fun f hf => by
      rcases List.mem_append.mp hf with q | q
      · exact (h f q).trans (List.sublist_append_left _ _)
      · obtain ⟨g, hg, rfl⟩ := List.mem_map.mp q
        exact (h g hg).append (List.Sublist.refl _)) k hk
    rwa [List.append_assoc, List.singleton_append] at this
theorem ss_sub {l k : List Nat} (h4 : l.length ≤ 4) (h : k ∈ ssF l) : k.Sublist l := by
  rw [← ssK h4] at h
  have := foldl_sub l [[]] [] (fun f hf => by
    rw [List.mem_singleton.mp hf]
    exact List.Sublist.refl _) k ((ordK_perm _).mem_iff.mp h)
  rwa [List.nil_append] at this
theorem mem_foldl : ∀ (l : List Nat) (fs : List (List Nat)) (f k : List Nat), f ∈ fs → k.Sublist l → f ++ k ∈ l.foldl grown fs
  | [], fs, f, k, hf, hk => by
    rw [List.sublist_nil.mp hk, List.append_nil]
    exact hf
  | c :: r, fs, f, k, hf, hk => by
    rw [List.foldl_cons]
    cases hk with
    | cons _ h => exact mem_foldl r _ f k (List.mem_append_left _ hf) h
    | cons_cons _ h =>
      rename_i k'
      have := mem_foldl r (grown fs c) (f ++ [c]) k' (List.mem_append_right _ (List.mem_map.mpr ⟨f, hf, rfl⟩)) h
      rwa [List.append_assoc, List.singleton_append] at this
theorem mem_ss {l k : List Nat} (h4 : l.length ≤ 4) (h : k.Sublist l) : k ∈ ssF l := by
  rw [← ssK h4]
  exact (ordK_perm _).mem_iff.mpr (by
    have := mem_foldl l [[]] [] k List.mem_cons_self h
    rwa [List.nil_append] at this)
/-- the sets with p -/
def pick_ (l : List Nat) (p : List Nat → Bool) : List (List Nat) := (ssF l).filter p
/-- the sentence that lists them -/
def setsD (l : List Nat) (p : List Nat → Bool) : D := .tup (.str wSets :: (pick_ l p).map D.str)
/-- a list or a tuple of sets -/
def SqS (d : D) (ks : List (List Nat)) : Prop := d = .lst (ks.map D.str) ∨ d = .tup (ks.map D.str)
theorem SqS.im {d : D} {ks : List (List Nat)} (h : SqS d ks) : isMut d = false := by rcases h with rfl | rfl <;> rfl
theorem flat_strs (P : List (List Nat)) : (P.map D.str).all flatD = true := by
  rw [List.all_eq_true]
  intro x hx
  obtain ⟨i, _, rfl⟩ := List.mem_map.mp hx
  rfl
theorem SqS.in_ {d : D} {ks : List (List Nat)} (h : SqS d ks) (k : List Nat) (neg : Bool) : inD neg (.str k) d = W.pure (.bl (ks.contains k != neg)) := by
  rcases h with rfl | rfl
  · exact in_strs k ks neg
  · show W.bind (W.need (flatD (D.str k) = true ∧ (ks.map D.str).all flatD = true)) _ = _
    rw [W.need_true ⟨rfl, flat_strs ks⟩, any_str]
section
variable {l : List Nat} {Q : D → Prop} {E : ExD → Prop}
theorem pick_len (h4 : l.length ≤ 4) (p : List Nat → Bool) : (pick_ l p).length ≤ 16 := Nat.le_trans (List.length_filter_le _ _) (ss_len h4)
theorem pick_sub (h4 : l.length ≤ 4) (p : List Nat → Bool) : ∀ k ∈ pick_ l p, k.Sublist l := fun k hk => ss_sub h4 (List.mem_filter.mp hk).1
theorem sen_pick (h4 : l.length ≤ 4) (p : List Nat → Bool) : Sen l (setsD l p) 1 1 (fun k => (pick_ l p).contains k) := .sets (pick_len h4 p) (pick_sub h4 p)
theorem pick_pick (p : List Nat → Bool) : (ssF l).filter (fun k => (pick_ l p).contains k) = pick_ l p := by
  unfold pick_
  refine List.filter_congr fun k hk => ?_
  by_cases c : p k = true
  · rw [c]
    exact List.contains_iff_mem.mpr (List.mem_filter.mpr ⟨hk, c⟩)
  · have : p k = false := by simpa using c
    rw [this]
    exact Bool.eq_false_iff.mpr fun z => c (List.mem_filter.mp (List.contains_iff_mem.mp z)).2
/-- the goal of the sets with p -/
def gP (l : List Nat) (p : List Nat → Bool) : D := .ins "Goal" [("letters", .str l), ("wording", setsD l p), ("held", .tup ((pick_ l p).map D.str))]
theorem gP_of (l : List Nat) (p : List Nat → Bool) : gD l (setsD l p) (fun k => (pick_ l p).contains k) = gP l p := by
  unfold gD gP
  rw [pick_pick]
theorem goalP_wp {p : List Nat → Bool} (L : Lamps l) (h : Q (gP l p)) : (makeM "Goal" 2 m_M_Goal_init [.str l, setsD l p]).wp Q E := goal_wp L (sen_pick L.len4 p) (by decide) (by decide) (by rw [gP_of]; exact h)
theorem insOf_self (c : Str) (gs : List (Str × D)) : insOf c (.ins c gs) = W.pure gs := if_pos rfl
variable {d : D} {ks : List (List Nat)}
abbrev gF (l : List Nat) (d : D) (ks : List (List Nat)) : List (Str × D) := [("letters", .str l), ("wording", d), ("held", .tup (ks.map D.str))]
theorem fs_letters : (gF l d ks).lookup ("letters" : Str) = some (.str l) := rfl
theorem fs_wording : (gF l d ks).lookup ("wording" : Str) = some d := rfl
theorem fs_held : (gF l d ks).lookup ("held" : Str) = some (.tup (ks.map D.str)) := rfl
theorem fs_sets : (gF l d ks).lookup ("sets" : Str) = none := rfl
theorem gsets_eq : m_M_Goal_sets [.ins "Goal" (gF l d ks)] = W.pure (.lst (ks.map D.str)) := by
  simp only [m_M_Goal_sets, runF, startE_0, startE_1, startE_z, lk, ofS, W.pure_bind, fldD, insOf_self, fs_held, ofO, one1_eq, listD, endF]
theorem gsen_eq : m_M_Goal_sentence [.ins "Goal" (gF l d ks)] = W.pure d := by
  simp only [m_M_Goal_sentence, runF, startE_0, startE_1, startE_z, lk, ofS, W.pure_bind, fldD, insOf_self, fs_wording, ofO, endF]
end
end Rg

set_option Elab.async false
set_option linter.all false
set_option maxRecDepth 100000
set_option maxHeartbeats 4500000
/-! sentences by the law: what they hold for, how they are drawn -/
namespace Rg
open PySem PySem.Spec PyProof.Rows L2
theorem ix_2t (a b c : D) (r : List D) : ixD (.tup (a :: b :: c :: r)) (.int 2) = W.pure c := ixT (j := 2) rfl
theorem in_tups (k : List Nat) (ks : List (List Nat)) (neg : Bool) : inD neg (.str k) (.tup (ks.map D.str)) = W.pure (.bl (ks.contains k != neg)) := SqS.in_ (.inr rfl) k neg
mutual
theorem Sen.l_holds {l : List Nat} : ∀ {d : D} {dp sz : Nat} {f : List Nat → Bool}, Sen l d dp sz f → ∀ n, dp ≤ n → ∀ k : List Nat, m_l_holds n [d, .str k] = W.pure (.bl (f k))
  | _, _, _, _, .lit hc, n + 1, _, k => by
    simp only [m_l_holds, runF, startE_0, startE_1, startE_z, lk, ofS_tup, ofS_str, W.pure_bind, ix_0, List.set, seqF_nx, eqD_str, ofB, show (wLit == wLit) = true by decide, iteW_t, ix_1, in_sign, seqF_rt, xor_ff, endF]
  | _, _, _, _, .least (n := m) (s := s) h1 h2 h3, n + 1, _, k => by
    simp only [m_l_holds, runF, startE_0, startE_1, startE_z, lk, ofS_tup, ofS_str, W.pure_bind, ix_0, List.set, seqF_nx, eqD_str, ofB, show (wLeast == wLit) = false by decide, show (wLeast == wLeast) = true by decide, iteW_t, iteW_f, ix_1, ix_2t, seqOf]
    rw [comp_signs (fun c => k.contains c) s fun c _ => by
      simp only [turnW, wipeE, List.set, W.pure_bind, lk, ofS_str, in_sign, xor_ff, ofB, W.noX_pure]
      cases k.contains c <;> rfl]
    simp only [W.pure_bind, one1_eq, lenD, filt_len (fun c => k.contains c), geI, seqF_rt, endF]
    congr 2
    exact decide_eq_decide.mpr (show _ ↔ _ by omega)
  | _, _, _, _, .sets (ks := ks) h1 h2, n + 1, _, k => by
    simp only [m_l_holds, runF, startE_0, startE_1, startE_z, lk, ofS_tup, ofS_str, W.pure_bind, ix_0, List.set, seqF_nx, eqD_str, ofB, show (wSets == wLit) = false by decide, show (wSets == wLeast) = false by decide, show (wSets == wSets) = true by decide, iteW_t, iteW_f, ofI, sl_1, in_tups, xor_ff, seqF_rt, endF]
  | _, _, _, _, .neg (d := d) (f := f) h, n + 1, hn, k => by
    have ih := Sen.l_holds h n (by omega) k
    have e : ∀ g : D → W (Option D), g d = W.pure (some (.bl (f k))) → compW g [d] = W.pure [.bl (f k)] := fun g hg => by
      show W.bind (g d) _ = _
      rw [hg]
      rfl
    simp only [m_l_holds, runF, startE_0, startE_1, startE_z, lk, ofS_tup, ofS_str, W.pure_bind, ix_0, List.set, seqF_nx, eqD_str, ofB, show (wNot == wLit) = false by decide, show (wNot == wLeast) = false by decide, show (wNot == wSets) = false by decide, show (wNot == wNot) = true by decide, iteW_t, iteW_f, ofI, sl_1, seqOf]
    rw [e _ (by simp only [turnW, wipeE, List.set, W.pure_bind, lk, ofS_of h.mut, ofS_str, callM_2, ih, W.noX_pure, iteW_t])]
    simp only [W.pure_bind, seqF_nx, lk, ofS_str, ofS_lst, eqD_str, ofB, show (wNot == wNot) = true by decide, iteW_t, ixL0, seqF_rt, endF]
  | _, _, _, _, .conj (ds := ds) (fs := fs) h h2 h4, n + 1, hn, k => by
    have ih := Sens.l_holds h n (by omega) k
    simp only [m_l_holds, runF, startE_0, startE_1, startE_z, lk, ofS_tup, ofS_str, W.pure_bind, ix_0, List.set, seqF_nx, eqD_str, ofB, show (wAnd == wLit) = false by decide, show (wAnd == wLeast) = false by decide, show (wAnd == wSets) = false by decide, iteW_f, ofI, sl_1, seqOf]
    rw [ih _ fun d dp sz f hd e => by simp only [turnW, wipeE, List.set, W.pure_bind, lk, ofS_of hd.mut, ofS_str, callM_2, e, W.noX_pure, iteW_t]]
    simp only [W.pure_bind, seqF_nx, lk, ofS_str, ofS_lst, eqD_str, ofB, show (wAnd == wNot) = false by decide, show (wAnd == wAnd) = true by decide, iteW_t, iteW_f, one1_eq, allB, bls_map (fun f : List Nat → Bool => f k), Option.map, ofO, endF]
  | _, _, _, _, .disj (ds := ds) (fs := fs) h h2 h4, n + 1, hn, k => by
    have ih := Sens.l_holds h n (by omega) k
    simp only [m_l_holds, runF, startE_0, startE_1, startE_z, lk, ofS_tup, ofS_str, W.pure_bind, ix_0, List.set, seqF_nx, eqD_str, ofB, show (wOr == wLit) = false by decide, show (wOr == wLeast) = false by decide, show (wOr == wSets) = false by decide, iteW_f, ofI, sl_1, seqOf]
    rw [ih _ fun d dp sz f hd e => by simp only [turnW, wipeE, List.set, W.pure_bind, lk, ofS_of hd.mut, ofS_str, callM_2, e, W.noX_pure, iteW_t]]
    simp only [W.pure_bind, seqF_nx, lk, ofS_str, ofS_lst, eqD_str, ofB, show (wOr == wNot) = false by decide, show (wOr == wAnd) = false by decide, iteW_t, iteW_f, one1_eq, allB, bls_map (fun f : List Nat → Bool => f k), Option.map, ofO, endF]
  | _, _, _, _, .lit _, 0, hn, _ => absurd hn (by omega)
  | _, _, _, _, .least _ _ _, 0, hn, _ => absurd hn (by omega)
  | _, _, _, _, .sets _ _, 0, hn, _ => absurd hn (by omega)
  | _, _, _, _, .neg _, 0, hn, _ => absurd hn (by omega)
  | _, _, _, _, .conj _ _ _, 0, hn, _ => absurd hn (by omega)
  | _, _, _, _, .disj _ _ _, 0, hn, _ => absurd hn (by omega)
theorem Sens.l_holds {l : List Nat} : ∀ {ds : List D} {dp sz : Nat} {fs : List (List Nat → Bool)}, Sens l ds dp sz fs → ∀ n, dp ≤ n → ∀ k : List Nat, ∀ g : D → W (Option D), (∀ d dp sz f, Sen l d dp sz f → m_l_holds n [d, .str k] = W.pure (.bl (f k)) → g d = W.pure (some (.bl (f k)))) → compW g ds = W.pure (fs.map fun f => .bl (f k))
  | _, _, _, _, .nil, n, _, k, g, _ => rfl
  | _, _, _, _, .cons (d := d) h1 h2, n, hn, k, g, hg => by
    show W.bind (g d) _ = _
    rw [hg d _ _ _ h1 (Sen.l_holds h1 n (by omega) k), W.pure_bind, Sens.l_holds h2 n (by omega) k g hg, W.pure_bind]
    rfl
end
mutual
theorem Sen.plain {l : List Nat} : ∀ {d : D} {dp sz : Nat} {f : List Nat → Bool}, Sen l d dp sz f → ∀ n, dp ≤ n → plain n d = true
  | _, _, _, _, .lit _, n + 1, _ => rfl
  | _, _, _, _, .least _ _ _, n + 1, _ => rfl
  | _, _, _, _, .sets (ks := ks) _ _, n + 1, _ => by
    show (true && plains n (ks.map D.str)) = true
    rw [plains_strs]
    rfl
  | _, _, _, _, .neg h, n + 1, hn => by
    show (true && (Rg.plain n _ && true)) = true
    rw [Sen.plain h n (by omega)]
    rfl
  | _, _, _, _, .conj (ds := ds) h _ _, n + 1, hn => by
    show (Rg.plain n (.str wAnd) && plains n ds) = true
    rw [Sens.plain h n (by omega), Bool.and_true]
    cases n <;> rfl
  | _, _, _, _, .disj (ds := ds) h _ _, n + 1, hn => by
    show (Rg.plain n (.str wOr) && plains n ds) = true
    rw [Sens.plain h n (by omega), Bool.and_true]
    cases n <;> rfl
  | _, _, _, _, .lit _, 0, hn => absurd hn (by omega)
  | _, _, _, _, .least _ _ _, 0, hn => absurd hn (by omega)
  | _, _, _, _, .sets _ _, 0, hn => absurd hn (by omega)
  | _, _, _, _, .neg _, 0, hn => absurd hn (by omega)
  | _, _, _, _, .conj _ _ _, 0, hn => absurd hn (by omega)
  | _, _, _, _, .disj _ _ _, 0, hn => absurd hn (by omega)
theorem Sens.plain {l : List Nat} : ∀ {ds : List D} {dp sz : Nat} {fs : List (List Nat → Bool)}, Sens l ds dp sz fs → ∀ n, dp ≤ n → plains n ds = true
  | _, _, _, _, .nil, n, _ => rfl
  | _, _, _, _, .cons h1 h2, n, hn => by
    show (Rg.plain n _ && plains n _) = true
    rw [Sen.plain h1 n (by omega), Sens.plain h2 n (by omega)]
    rfl
end
/-- most parts of a sentence that is drawn so deep -/
def bnd : Nat → Nat
  | 0 => 1
  | 1 => 4
  | _ => 17
theorem comp_lits {l : List Nat} {E : ExD → Prop} {f : D → W (Option D)} (hf : ∀ x, ∀ Q' : Option D → Prop, (∀ k : List Nat, k.Sublist l → Q' (some (.str k))) → (f x).wp Q' E) {ds : List D} {Q' : List D → Prop} (h : ∀ ks : List (List Nat), ks.length = ds.length → (∀ k ∈ ks, k.Sublist l) → Q' (ks.map D.str)) : (compW f ds).wp Q' E := by
  refine compW_rel (fun x o => ∃ y, o = some y ∧ ∃ k : List Nat, k.Sublist l ∧ y = .str k) _ (fun x hx Q2 hq => hf x _ fun k hk => hq _ ⟨_, rfl, k, hk, rfl⟩) _ fun ys hys => ?_
  obtain ⟨yl, yo⟩ := hys.all (P := fun y => ∃ k : List Nat, k.Sublist l ∧ y = .str k) fun _ _ q => q
  have getS : ∀ ys : List D, (∀ y ∈ ys, ∃ k : List Nat, k.Sublist l ∧ y = .str k) → ∃ ks : List (List Nat), ys = ks.map D.str ∧ ∀ k ∈ ks, k.Sublist l := by
    intro ys
    induction ys with
    | nil => exact fun _ => ⟨[], rfl, fun _ z => nomatch z⟩
    | cons y ys ih =>
      intro hy
      obtain ⟨k, hk, rfl⟩ := hy y List.mem_cons_self
      obtain ⟨ks, rfl, hks⟩ := ih fun z hz => hy z (List.mem_cons_of_mem _ hz)
      refine ⟨k :: ks, rfl, fun x hx => ?_⟩
      rcases (List.mem_cons).mp hx with rfl | hx
      · exact hk
      · exact hks x hx
  obtain ⟨ks, rfl, hk⟩ := getS ys yo
  rw [List.length_map] at yl
  exact h ks yl hk
theorem comp_sens {l : List Nat} {E : ExD → Prop} {f : D → W (Option D)} {D0 B : Nat} (hf : ∀ x, ∀ Q' : Option D → Prop, (∀ d dp sz f, Sen l d dp sz f → dp ≤ D0 → sz ≤ B → Q' (some d)) → (f x).wp Q' E) {xs : List D} {Q' : List D → Prop} (h : ∀ ds dp sz fs, Sens l ds dp sz fs → ds.length = xs.length → dp ≤ D0 → sz ≤ xs.length * B → Q' ds) : (compW f xs).wp Q' E := by
  refine compW_rel (fun x o => ∃ d dp sz f, o = some d ∧ Sen l d dp sz f ∧ dp ≤ D0 ∧ sz ≤ B) _ (fun x hx Q2 hq => hf x _ fun d dp sz f h1 h2 h3 => hq _ ⟨d, dp, sz, f, rfl, h1, h2, h3⟩) _ fun ys hys => ?_
  have all : ∀ {xs ys : List D}, CR (fun x o => ∃ d dp sz f, o = some d ∧ Sen l d dp sz f ∧ dp ≤ D0 ∧ sz ≤ B) xs ys → ∃ dp sz fs, Sens l ys dp sz fs ∧ ys.length = xs.length ∧ dp ≤ D0 ∧ sz ≤ xs.length * B := by
    intro xs ys hy
    induction hy with
    | nil => exact ⟨0, 0, [], .nil, rfl, Nat.zero_le _, Nat.zero_le _⟩
    | cons h1 h2 ih =>
      obtain ⟨d, dp, sz, f, rfl, k1, k2, k3⟩ := h1
      obtain ⟨dp', sz', fs, j1, j2, j3, j4⟩ := ih
      refine ⟨_, _, _, .cons k1 j1, congrArg (· + 1) j2, by omega, ?_⟩
      rw [List.length_cons, Nat.add_mul, Nat.one_mul]
      omega
  obtain ⟨dp, sz, fs, a1, a2, a3, a4⟩ := all hys
  exact h ys dp sz fs a1 a2 a3 a4
theorem lam_int {r : Int} {m : Int} (h0 : 0 ≤ r) (h1 : r < m) : ∃ j : Nat, r = (j : Int) ∧ (j : Int) < m := ⟨r.toNat, by omega, by omega⟩
theorem addT {a b : List D} (h : a.length + b.length ≤ 100000) : addD (.tup a) (.tup b) = W.pure (.tup (a ++ b)) := W.need_true h _
theorem gtI (i j : Int) : intOp0 (fun i j => D.bl (decide (j < i))) (.int i) (.int j) = W.pure (.bl (decide (j < i))) := rfl
theorem subI (i j : Int) : intOp0 (fun i j => D.int (i - j)) (.int i) (.int j) = W.pure (.int (i - j)) := rfl
theorem iteW_int (k : Bool) (a b : Int) : iteW k (W.pure (D.int a)) (W.pure (D.int b)) = W.pure (.int (if k = true then a else b)) := by cases k <;> rfl
theorem rngN {n : Nat} (h : n ≤ 100) : rng1 [.int (n : Nat)] = W.pure (irange 0 n) := by
  simp only [rng1, one1_eq, int1, W.pure_bind]
  have b : -((big : Nat) : Int) ≤ (n : Int) ∧ (n : Int) ≤ ((big : Nat) : Int) := by
    show -((100000 : Nat) : Int) ≤ (n : Int) ∧ (n : Int) ≤ ((100000 : Nat) : Int)
    omega
  rw [W.need_true b]
  rfl
theorem irange_len (n : Nat) : (irange 0 n).length = n := by simp [irange]
section
variable {l : List Nat} {Q : D → Prop} {E : ExD → Prop}
theorem sen_wp (L : Lamps l) : ∀ (n deep : Nat) (Q : D → Prop) (E : ExD → Prop), deep ≤ 2 → deep < n → (∀ d dp sz f, Sen l d dp sz f → dp ≤ deep + 1 → sz ≤ bnd deep → Q d) → (m_l_sentence n [.bag, .str l, .int (deep : Nat)]).wp Q E
  | 0, deep, Q, E, h2, hn, h => absurd hn (by omega)
  | n + 1, deep, Q, E, h2, hn, h => by
    have l1 := L.len1
    have l4 := L.len4
    have b1 : 1 ≤ bnd deep := by
      have : deep = 0 ∨ deep = 1 ∨ deep = 2 := by omega
      rcases this with rfl | rfl | rfl <;> decide
    rw [m_l_sentence]
    simp only [runF, startE_0, startE_1, startE_z, lk, ofS_bag, ofS_int, ofS_str, W.pure_bind, gtI, ofB, iteW_int, callM_2, bind_wp]
    rw [seqF_wp, bind_wp]
    refine pull_wp (by split <;> decide) (by split <;> decide) fun r r0 r1 => ?_
    have hr : r = 0 ∨ r = 1 ∨ r = 2 ∨ (1 ≤ deep ∧ 3 ≤ r ∧ r ≤ 6) := by
      by_cases c : deep = 0
      · rw [c, if_neg (by decide)] at r1
        omega
      · rw [if_pos (decide_eq_true (by omega))] at r1
        omega
    clear r0 r1
    simp only [pure_wp, List.set]
    rcases hr with rfl | rfl | rfl | ⟨d1, r3, r6⟩
    · simp only [lk, ofS_bag, ofS_int, ofS_str, W.pure_bind, eqD_int, show ((0 : Int) == 0) = true by decide, ofB, iteW_t, callM_2, bind_wp, seqF_wp]
      refine of_str (by omega) (by omega) fun c hc => ?_
      simp only [pure_wp, mkTup_2]
      exact h _ _ _ _ (.lit hc) (by omega) b1
    · simp only [lk, ofS_bag, ofS_int, ofS_str, W.pure_bind, eqD_int, show ((1 : Int) == 0) = false by decide, show ((1 : Int) == 1) = true by decide, ofB, iteW_t, iteW_f, seqF_nx, callM_2, bind_wp, seqF_wp]
      refine pull_wp (by decide) (by decide) fun a a0 a1 => ?_
      obtain ⟨a, rfl, ha⟩ := lam_int a0 a1
      have ea : addD (.int 1) (.int (a : Nat)) = W.pure (.int ((a + 1 : Nat) : Int)) := by
        rw [addI, show (1 + (a : Nat) : Int) = ((a + 1 : Nat) : Int) by omega]
      simp only [ea, pure_wp]
      refine lits_wp (by omega) fun s hs => ?_
      simp only [pure_wp, mkTup_3]
      exact h _ _ _ _ (.least (by omega) (by omega) hs) (by omega) b1
    · simp only [lk, ofS_bag, ofS_int, ofS_str, W.pure_bind, eqD_int, show ((2 : Int) == 0) = false by decide, show ((2 : Int) == 1) = false by decide, show ((2 : Int) == 2) = true by decide, ofB, iteW_t, iteW_f, seqF_nx, callM_2, mkTup_1, bind_wp, seqF_wp]
      refine pull_wp (by decide) (by decide) fun a a0 a1 => ?_
      obtain ⟨a, rfl, ha⟩ := lam_int a0 a1
      simp only [pure_wp, rngN (show a ≤ 100 by omega)]
      refine comp_lits (l := l) (fun x Q' hq => ?_) fun ks kl hk => ?_
      · simp only [turnW, wipeE, List.set, lk, ofS_bag, ofS_str, W.pure_bind, callM_2, noX_wp, bind_wp, pure_wp, iteW_t]
        exact lits_wp (by omega) hq
      rw [irange_len] at kl
      simp only [pure_wp, one1_eq, tupleD, addT (a := [D.str [115, 101, 116, 115]]) (b := ks.map D.str) (by rw [List.length_singleton, List.length_map]; omega)]
      exact h _ _ _ _ (.sets (by omega) hk) (by omega) b1
    · obtain ⟨dd, rfl⟩ : ∃ dd, deep = dd + 1 := ⟨deep - 1, by omega⟩
      have ih := sen_wp L n dd
      have es : ((dd + 1 : Nat) : Int) - 1 = (dd : Nat) := by omega
      have bs : bnd dd * 4 + 1 ≤ bnd (dd + 1) ∨ (dd = 0) := by
        have : dd = 0 ∨ dd = 1 := by omega
        rcases this with rfl | rfl
        · exact .inr rfl
        · exact .inl (by decide)
      have bs2 : bnd dd + 1 ≤ bnd (dd + 1) := by
        have : dd = 0 ∨ dd = 1 := by omega
        rcases this with q | q <;> subst q <;> decide
      by_cases c3 : r = 3
      · subst c3
        simp only [lk, ofS_bag, ofS_int, ofS_str, W.pure_bind, eqD_int, show ((3 : Int) == 0) = false by decide, show ((3 : Int) == 1) = false by decide, show ((3 : Int) == 2) = false by decide, show ((3 : Int) == 3) = true by decide, ofB, iteW_t, iteW_f, seqF_nx, subI, es, callM_3, bind_wp, seqF_wp]
        refine ih _ _ (by omega) (by omega) fun d dp sz f hd h5 h6 => ?_
        simp only [pure_wp, mkTup_2]
        exact h _ _ _ _ (.neg hd) (by omega) (by omega)
      · have n0 : ((r : Int) == 0) = false := beq_false_of_ne (by omega)
        have n1 : ((r : Int) == 1) = false := beq_false_of_ne (by omega)
        have n2 : ((r : Int) == 2) = false := beq_false_of_ne (by omega)
        have n3 : ((r : Int) == 3) = false := beq_false_of_ne c3
        simp only [lk, ofS_bag, ofS_int, ofS_str, W.pure_bind, eqD_int, n0, n1, n2, n3, ofB, iteW_f, iteW_int, seqF_nx, mkLst_2, callM_2, bind_wp, seqF_wp]
        refine of_lst (Nat.succ_pos _) (show 2 < 1000000 by decide) fun w hw => ?_
        have im : ofS (some w) = W.pure w := by
          simp only [List.mem_cons, List.not_mem_nil, or_false] at hw
          rcases hw with rfl | rfl <;> rfl
        refine pull_wp (by split <;> decide) (by split <;> decide) fun a a0 a1 => ?_
        obtain ⟨a, rfl, ha⟩ := lam_int a0 a1
        have ha3 : a ≤ 2 ∧ (dd = 0 → a ≤ 1) := by
          by_cases c : dd = 0
          · rw [c, if_neg (by decide)] at ha
            omega
          · split at ha <;> omega
        have ea : addD (.int 2) (.int (a : Nat)) = W.pure (.int ((a + 2 : Nat) : Int)) := by
          rw [addI, show (2 + (a : Nat) : Int) = ((a + 2 : Nat) : Int) by omega]
        simp only [ea, pure_wp, parW, List.set, lk, im, ofS_int, W.pure_bind, mkTup_1, rngN (show a + 2 ≤ 100 by omega), bind_wp]
        refine comp_sens (l := l) (D0 := dd + 1) (B := bnd dd) (fun x Q' hq => ?_) fun ds dp sz fs hs dl h5 h6 => ?_
        · simp only [turnW, wipeE, List.set, lk, ofS_bag, ofS_int, ofS_str, W.pure_bind, subI, es, callM_3, noX_wp, bind_wp, pure_wp, iteW_t]
          exact sen_wp L n dd _ _ (by omega) (by omega) fun d dp sz f hd k1 k2 => hq d dp sz f hd k1 k2
        · rw [irange_len] at dl h6
          have szb : sz + 1 ≤ bnd (dd + 1) := by
            rcases bs with q | q
            · have : (a + 2) * bnd dd ≤ 4 * bnd dd := Nat.mul_le_mul_right _ (by omega)
              omega
            · subst q
              have : (a + 2) * bnd 0 ≤ 3 * bnd 0 := Nat.mul_le_mul_right _ (by omega)
              have e1 : bnd 0 = 1 := rfl
              have e2 : bnd (0 + 1) = 4 := rfl
              omega
          simp only [pure_wp, one1_eq, tupleD, addT (a := [w]) (b := ds) (by rw [List.length_singleton]; omega)]
          simp only [List.mem_cons, List.not_mem_nil, or_false] at hw
          rcases hw with rfl | rfl
          · show Q (.tup (.str wAnd :: ds))
            exact h _ _ _ _ (.conj hs (by omega) (by omega)) (by omega) szb
          · show Q (.tup (.str wOr :: ds))
            exact h _ _ _ _ (.disj hs (by omega) (by omega)) (by omega) szb
/-- a goal's sentence and its sets, drawn -/
theorem aim_wp (L : Lamps l) (h : ∀ d dp sz f, Sen l d dp sz f → dp ≤ 3 → sz ≤ 17 → Q (.tup [d, .lst (((ssF l).filter f).map D.str)])) : (m_l_aim [.bag, .str l]).wp Q E := by
  have l4 := L.len4
  simp only [m_l_aim, runF, startE_0, startE_1, startE_z, lk, ofS_bag, ofS_str, W.pure_bind, callM_2, bind_wp]
  rw [seqF_wp]
  refine W.mono _ (Q := fun fl => ∃ d dp sz f, fl = .nx [some .bag, some (.str l), some d, none] ∧ Sen l d dp sz f ∧ dp ≤ 3 ∧ sz ≤ 17) (fun fl hfl => ?_) (fun _ q => q) ?_
  · obtain ⟨d, dp, sz, f, rfl, hd, h1, h2⟩ := hfl
    simp only [lk, ofS_str, ofS_of hd.mut, W.pure_bind, callM_1, l_sets_ss l4, seqOf]
    rw [comp_filt f _ fun k _ => by
      simp only [turnW, wipeE, List.set, W.pure_bind, lk, ofS_str, ofS_of hd.mut, callM_2, hd.l_holds 5 (by omega), truD, W.noX_pure]
      cases f k <;> rfl]
    simp only [W.pure_bind, mkTup_2, pure_wp, endF, bind_wp]
    exact h d dp sz f hd h1 h2
  · simp only [bind_wp]
    refine pull_wp (by decide) (by decide) fun r r0 r1 => ?_
    simp only [eqD_int, pure_wp, ofB]
    by_cases c : r = 0
    · rw [c, show ((0 : Int) == 0) = true by decide]
      simp only [iteW_t, mkTup_1, callM_1, l_sets_ss l4, seqOf, bind_wp, pure_wp]
      refine compW_rel (fun x o => o = none ∨ o = some x) _ (fun x hx Q' hq => ?_) _ fun ys hys => ?_
      · obtain ⟨k, _, rfl⟩ := List.mem_map.mp hx
        simp only [turnW, wipeE, List.set, W.pure_bind, lk, ofS_bag, ofS_str, callM_2, noX_wp, bind_wp, pure_wp]
        refine pull_wp (by decide) (by decide) fun a a0 a1 => ?_
        simp only [eqD_int, pure_wp, ofB]
        by_cases c : a = 0
        · rw [c]
          exact hq _ (.inr rfl)
        · rw [show (a == 0) = false by simpa using c]
          exact hq _ (.inl rfl)
      · obtain ⟨ks, hks, rfl⟩ := List.sublist_map_iff.mp (hys.sub fun _ _ q => q)
        have sl := ss_len l4
        have kl := hks.length_le
        simp only [one1_eq, tupleD, pure_wp, addT (a := [D.str [115, 101, 116, 115]]) (b := ks.map D.str) (by rw [List.length_singleton, List.length_map]; omega)]
        exact ⟨_, _, _, _, rfl, .sets (by omega) fun k hk => ss_sub l4 (hks.subset hk), by decide, by decide⟩
    · rw [show (r == 0) = false by simpa using c]
      simp only [iteW_f, callM_3, bind_wp]
      exact sen_wp L 4 2 _ _ (by decide) (by decide) fun d dp sz f hd h1 h2 => ⟨d, dp, sz, f, rfl, hd, h1, h2⟩
end
end Rg

set_option Elab.async false
set_option linter.all false
set_option maxRecDepth 100000
set_option maxHeartbeats 4500000
/-! what each lambda of the law tells -/
namespace Rg
open PySem PySem.Spec PyProof.Rows L2
abbrev oneE : List Str := ["InvalidSet"]
/-- the lambda i tells r -/
def Told1 (ms : Nat → W D) (i : Nat) (r : D) : Prop := ∀ Q : D → Prop, Q r → (whyW oneE (ms i)).wp Q (fun _ => False)
inductive Tells (ms : Nat → W D) : List Nat → List D → Prop
  | nil : Tells ms [] []
  | cons {i : Nat} {r : D} {is : List Nat} {rs : List D} : Told1 ms i r → Tells ms is rs → Tells ms (i :: is) (r :: rs)
theorem comp_tells {ms : Nat → W D} {f : D → W (Option D)} {E : ExD → Prop} (hf : ∀ i r, Told1 ms i r → ∀ Q : Option D → Prop, Q (some r) → (f (.lam i)).wp Q E) : ∀ {is : List Nat} {rs : List D}, Tells ms is rs → ∀ Q : List D → Prop, Q rs → (compW f (is.map D.lam)).wp Q E
  | _, _, .nil, Q, h => h
  | _, _, .cons h1 h2, Q, h => hf _ _ h1 _ (comp_tells hf h2 _ h)
theorem whys_wp {ms : Nat → W D} {is : List Nat} {rs : List D} (h : Tells ms is rs) {Q : D → Prop} {E : ExD → Prop} (hq : Q (.lst rs)) : (whysM ms [.lst (is.map D.lam)]).wp Q E := by
  simp only [whysM, runF, startE_0, startE_1, startE_z, lk, ofS, W.pure_bind, seqOf, bind_wp]
  refine comp_tells (ms := ms) (fun i r h1 Q' q => ?_) h _ hq
  exact h1 (fun y => Q' (some y)) q
theorem why_err {ms : Nat → W D} {i : Nat} {x : ExD} {t : List Nat} {v : D} (hx : x.cls ∈ oneE) (ht : toldD x = some (t, v)) (h : ∀ Q : D → Prop, ∀ E : ExD → Prop, E x → (ms i).wp Q E) : Told1 ms i (.tup [.str t, v]) := fun Q q => h _ _ ⟨hx, t, v, ht, q⟩
theorem CR.blsF {R : D → Option D → Prop} {Wr : D → Prop} (hR : ∀ x o, R x o → ∃ b : Bool, o = some (.bl b) ∧ (Wr x → b = false)) {xs ys : List D} (h : CR R xs ys) : ∃ bs, blsOf ys = some bs ∧ ((∃ x ∈ xs, Wr x) → bs.all id = false) := by
  induction h with
  | nil => exact ⟨[], rfl, fun ⟨x, hx, _⟩ => by cases hx⟩
  | @cons x o r zs h1 h2 ih =>
    obtain ⟨b, rfl, hb⟩ := hR _ _ h1
    obtain ⟨bs, e, q⟩ := ih
    refine ⟨b :: bs, ?_, fun ⟨x', hx, bx⟩ => ?_⟩
    · show Option.map _ (blsOf zs) = _
      rw [e]
      rfl
    · show (b && bs.all id) = false
      rcases List.mem_cons.mp hx with rfl | hx1
      · rw [hb bx]
        rfl
      · rw [q ⟨x', hx1, bx⟩, Bool.and_false]
theorem allFalse_wp {f : D → W (Option D)} {Wr : D → Prop} {xs : List D} {Q : D → Prop} {E : ExD → Prop} (hf : ∀ x ∈ xs, ∃ b : Bool, (Wr x → b = false) ∧ ∀ Q' : Option D → Prop, Q' (some (.bl b)) → (f x).wp Q' E) (hb : ∃ x ∈ xs, Wr x) (h : Q (.bl false)) : (compW f xs).wp (fun ys => (one1 (allB fun bs => bs.all id) [.lst ys]).wp Q E) E := by
  refine compW_rel (fun x o => ∃ b : Bool, o = some (.bl b) ∧ (Wr x → b = false)) _ (fun x hx Q' hq => ?_) _ fun zs hzs => ?_
  · obtain ⟨b, k, w⟩ := hf x hx
    exact w Q' (hq _ ⟨b, rfl, k⟩)
  · obtain ⟨bs, e, q⟩ := hzs.blsF fun _ _ z => z
    show (ofO ((blsOf zs).map _)).wp _ _
    rw [e]
    show Q (.bl (bs.all id))
    rw [q hb]
    exact h
section
variable {l : List Nat} {Q : D → Prop} {E : ExD → Prop}
theorem ascF_wp {k : List Nat} {i : Nat} (hl : k.length ≤ 26) (hi : i + 1 < k.length) (no : ¬ k[i] < k[i + 1]) (h : Q (.bl false)) : (m_is_ascending [.str k]).wp Q E := by
  simp only [m_is_ascending, runF, startE_0, startE_1, startE_z, W.pure_bind]
  show _ ∧ (compW _ (irange 1 ((k.length : Int) - 1).toNat)).wp _ _
  refine ⟨?_, allFalse_wp (Wr := fun x => x = .int (1 + (i : Nat))) (fun x hx => ?_) ⟨.int (1 + (i : Nat)), List.mem_map.mpr ⟨i, List.mem_range.mpr (by omega), rfl⟩, rfl⟩ h⟩
  · show -((100000 : Nat) : Int) ≤ 1 ∧ 1 ≤ ((100000 : Nat) : Int) ∧ -((100000 : Nat) : Int) ≤ (k.length : Int) ∧ (k.length : Int) ≤ ((100000 : Nat) : Int) ∧ (k.length : Int) - 1 ≤ ((100000 : Nat) : Int)
    omega
  · obtain ⟨j, hj, rfl⟩ := List.mem_map.mp hx
    have hj' : j < ((k.length : Int) - 1).toNat := by simpa using hj
    have hj1 : j < k.length := by omega
    have hj2 : j + 1 < k.length := by omega
    refine ⟨decide ([k[j]] < [k[j + 1]]), fun e => ?_, fun Q' q => ?_⟩
    · injection e with e
      have : j = i := by omega
      subst this
      have lt1 : ∀ a b : Nat, [a] < [b] → a < b := fun a b z => by
        cases z with
        | rel z => exact z
        | cons z => cases z
      exact decide_eq_false fun z => no (lt1 _ _ z)
    · show (W.bind (ofO ((atI k (1 + (j : Nat) - 1)).map fun c => D.str [c])) _).wp _ _
      rw [show (1 + (j : Nat) - 1 : Int) = (j : Nat) by omega, atI_nat (List.getElem?_eq_getElem hj1)]
      show (W.bind (ofO ((atI k (1 + (j : Nat))).map fun c => D.str [c])) _).wp _ _
      rw [show (1 + (j : Nat) : Int) = ((j + 1 : Nat) : Int) by omega, atI_nat (List.getElem?_eq_getElem hj2)]
      exact q
theorem withinF_wp {k : List Nat} {c : Nat} (hc : c ∈ k) (no : c ∉ l) (h : Q (.bl false)) : (m_is_within [.str k, .str l]).wp Q E := by
  simp only [m_is_within, runF, startE_0, startE_1, startE_z, W.pure_bind]
  show (compW _ (signs k)).wp _ _
  refine allFalse_wp (Wr := fun x => x = .str [c]) (fun x hx => ?_) ⟨.str [c], List.mem_map.mpr ⟨c, hc, rfl⟩, rfl⟩ h
  obtain ⟨d, hd, rfl⟩ := List.mem_map.mp hx
  refine ⟨l.contains d != false, fun e => ?_, fun Q' q => q⟩
  injection e with e
  injection e with e
  subst e
  simpa using no
/-! values that are no sets -/
def Bad (l : List Nat) (d : D) : Prop := d = .str [113] ∨ d = .str (l ++ l) ∨ d = .non ∨ d = .int 3 ∨ d = .lst [.str l] ∨ d = .str (l.reverse ++ [65]) ∨ d = .str [65]
theorem Bad.im {l : List Nat} {d : D} (h : Bad l d) : isMut d = false := by rcases h with rfl | rfl | rfl | rfl | rfl | rfl | rfl <;> rfl
theorem nine_z : ∀ l ∈ nine, 113 ∉ l ∧ 65 ∉ l ∧ (∃ i < 8, i + 1 < (l ++ l).length ∧ ¬ (l ++ l).getD i 0 < (l ++ l).getD (i + 1) 0) ∧ (∃ i < 8, i + 1 < (l.reverse ++ [65]).length ∧ ¬ (l.reverse ++ [65]).getD i 0 < (l.reverse ++ [65]).getD (i + 1) 0) := by decide +kernel
theorem isStr (k : List Nat) : isiD (.str k) (.ty "str") = W.pure (.bl true) := (isi_eq (u := "str") rfl (by decide)).trans rfl
theorem foreign_wp {k : List Nat} {c : Nat} (ha : k.Pairwise (· < ·)) (hk : k.length ≤ 26) (hc : c ∈ k) (no : c ∉ l) (h : Q (.bl false)) : (m_is_set [.str k, .str l]).wp Q E := by
  simp only [m_is_set, runF, startE_0, startE_1, startE_z, lk, ofS, W.pure_bind, two2_eq, isStr, ofB, iteW_t, callM_1, callM_2, bind_wp]
  refine asc_wp ha hk ?_
  simp only [pure_wp, iteW_t]
  exact withinF_wp hc no h
theorem unsorted_wp {k : List Nat} {i : Nat} (hl : k.length ≤ 26) (hi : i + 1 < k.length) (no : ¬ k[i] < k[i + 1]) (h : Q (.bl false)) : (m_is_set [.str k, .str l]).wp Q E := by
  simp only [m_is_set, runF, startE_0, startE_1, startE_z, lk, ofS, W.pure_bind, two2_eq, isStr, ofB, iteW_t, callM_1, callM_2, bind_wp]
  refine ascF_wp hl hi no ?_
  simp only [pure_wp, iteW_f]
  exact h
theorem noStr_wp {d : D} {t : String} (im : isMut d = false) (hd : tyOf d = some t) (ht : isSub t "str" = false) (h : Q (.bl false)) : (m_is_set [d, .str l]).wp Q E := by
  have e : isiD d (.ty "str") = W.pure (.bl false) := (isi_eq (u := "str") hd (by decide)).trans (by rw [ht])
  simp only [m_is_set, runF, startE_0, startE_1, startE_z, lk, ofS_of im, W.pure_bind, two2_eq, e, ofB, iteW_f]
  exact h
theorem unsortedD_wp {k : List Nat} (hl : k.length ≤ 26) (hi : ∃ i < 8, i + 1 < k.length ∧ ¬ k.getD i 0 < k.getD (i + 1) 0) (h : Q (.bl false)) : (m_is_set [.str k, .str l]).wp Q E := by
  obtain ⟨i, _, h1, h2⟩ := hi
  have e1 : k.getD i 0 = k[i] := by simp [List.getD, List.getElem?_eq_getElem (show i < k.length by omega)]
  have e2 : k.getD (i + 1) 0 = k[i + 1] := by simp [List.getD, List.getElem?_eq_getElem h1]
  rw [e1, e2] at h2
  exact unsorted_wp hl h1 h2 h
theorem badSet_wp {d : D} (L : Lamps l) (hn : l ∈ nine) (hd : Bad l d) (h : Q (.bl false)) : (m_is_set [d, .str l]).wp Q E := by
  obtain ⟨q1, q2, q3, q4⟩ := nine_z l hn
  have l4 := L.len4
  rcases hd with rfl | rfl | rfl | rfl | rfl | rfl | rfl
  · exact foreign_wp (List.pairwise_singleton _ _) (by decide) List.mem_cons_self q1 h
  · exact unsortedD_wp (by rw [List.length_append]; omega) q3 h
  · exact noStr_wp rfl rfl (by decide) h
  · exact noStr_wp rfl rfl (by decide) h
  · exact noStr_wp rfl rfl (by decide) h
  · exact unsortedD_wp (by rw [List.length_append, List.length_reverse, show [65].length = 1 from rfl]; omega) q4 h
  · exact foreign_wp (List.pairwise_singleton _ _) (by decide) List.mem_cons_self q2 h
def setX (d : D) : ExD := ⟨"InvalidSet", [("given", d), ("tag", .str (("InvalidSet" : Str).cps.toList))]⟩
abbrev wSet : List Nat := [73, 110, 118, 97, 108, 105, 100, 83, 101, 116]
theorem told_set (d : D) : toldD (setX d) = some (wSet, d) := by rfl
theorem copied_flat (n : Nat) {d : D} {t : String} (hd : tyOf d = some t) (h1 : isSub t "list" = false) (h2 : isSub t "tuple" = false) (im : isMut d = false) : m_copied (n + 1) [d] = W.pure d := by
  have s1 : isiD d (.ty "list") = W.pure (.bl false) := (isi_eq (u := "list") hd (by decide)).trans (by rw [h1])
  have s2 : isiD d (.ty "tuple") = W.pure (.bl false) := (isi_eq (u := "tuple") hd (by decide)).trans (by rw [h2])
  simp only [m_copied, runF, startE_0, startE_1, startE_z, lk, ofS_of im, W.pure_bind, two2_eq, s1, s2, truD, iteW_f, seqF_nx, seqF_rt, endF]
theorem copied_one : m_copied 3 [.lst [.str l]] = W.pure (.lst [.str l]) := by
  have s1 : isiD (.lst [.str l]) (.ty "list") = W.pure (.bl true) := (isi_eq (u := "list") rfl (by decide)).trans rfl
  have e : ∀ g : D → W (Option D), g (.str l) = W.pure (some (.str l)) → compW g [.str l] = W.pure [.str l] := fun g hg => by
    show W.bind (g (.str l)) _ = _
    rw [hg]
    rfl
  have c2 : m_copied 2 [.str l] = W.pure (.str l) := copied_flat 1 (t := "str") rfl (by decide) (by decide) rfl
  rw [m_copied]
  simp only [runF, startE_0, startE_1, startE_z, lk, ofS_lst, W.pure_bind, two2_eq, s1, truD, iteW_t, seqOf]
  rw [e _ (by simp only [turnW, wipeE, List.set, W.pure_bind, lk, ofS_str, callM_1, c2, W.noX_pure, iteW_t])]
  rfl
theorem copied_bad {d : D} (h : Bad l d) : m_copied 3 [d] = W.pure d := by
  rcases h with rfl | rfl | rfl | rfl | rfl | rfl | rfl
  · exact copied_flat 2 (t := "str") rfl (by decide) (by decide) rfl
  · exact copied_flat 2 (t := "str") rfl (by decide) (by decide) rfl
  · exact copied_flat 2 (t := "NoneType") rfl (by decide) (by decide) rfl
  · exact copied_flat 2 (t := "int") rfl (by decide) (by decide) rfl
  · exact copied_one
  · exact copied_flat 2 (t := "str") rfl (by decide) (by decide) rfl
  · exact copied_flat 2 (t := "str") rfl (by decide) (by decide) rfl
theorem raise_set {d : D} (L : Lamps l) (h : Bad l d) : raiseD "InvalidSet" "InvalidSet" "given" repOk m_E_InvalidSet d = (W.raise (setX d) : W Fl) := by
  have e1 : m_E_InvalidSet d = W.pure d := by
    simp only [m_E_InvalidSet, lk, ofS_of h.im, W.pure_bind, callM_1, copied_bad h]
  have rp : repOk d := by
    have l4 := L.len4
    rcases h with rfl | rfl | rfl | rfl | rfl | rfl | rfl
    · show [113].length ≤ 1000
      decide
    · show (l ++ l).length ≤ 1000
      rw [List.length_append]
      omega
    · trivial
    · show (3 : Int).natAbs < 1000000000
      decide
    · show l.length ≤ 100
      omega
    · show (l.reverse ++ [65]).length ≤ 1000
      rw [List.length_append, List.length_reverse, show [65].length = 1 from rfl]
      omega
    · show [65].length ≤ 1000
      decide
  unfold raiseD
  rw [W.need_true rp, e1]
  rfl
/-! what goals tell -/
variable {dd : D} {ks : List (List Nat)}
theorem fs_holds : (gF l dd ks).lookup ("holds_for" : Str) = none := rfl
theorem holds_wp {k : List Nat} (L : Lamps l) (hk : k.Sublist l) (h : Q (.bl (ks.contains k))) : (m_M_Goal_holds_for [.ins "Goal" (gF l dd ks), .str k]).wp Q E := by
  simp only [m_M_Goal_holds_for, runF, startE_0, startE_1, startE_z, lk, ofS_ins, ofS_str, W.pure_bind, fldD, insOf_self, fs_letters, fs_held, ofO, callM_2, bind_wp, seqF_wp]
  refine set_wp L.asc (sub_len L hk) hk ?_
  simp only [truD, pure_wp, Bool.not_true, iteW_f, lk, ofS_ins, ofS_str, W.pure_bind, fldD, insOf_self, fs_held, ofO, in_tups, xor_ff, endF]
  exact h
theorem holdsX_wp {o : D} (L : Lamps l) (hn : l ∈ nine) (ho : Bad l o) (h : E (setX o)) : (m_M_Goal_holds_for [.ins "Goal" (gF l dd ks), o]).wp Q E := by
  simp only [m_M_Goal_holds_for, runF, startE_0, startE_1, startE_z, lk, ofS_ins, ofS_of ho.im, W.pure_bind, fldD, insOf_self, fs_letters, fs_held, ofO, callM_2, bind_wp, seqF_wp]
  refine badSet_wp L hn ho ?_
  simp only [truD, pure_wp, Bool.not_false, iteW_t, raise_set L ho]
  exact h
theorem call_wp {k : List Nat} (L : Lamps l) (hk : k.Sublist l) (h : Q (.bl (ks.contains k))) : (m_M_Goal_call [.ins "Goal" (gF l dd ks), .str k]).wp Q E := by
  simp only [m_M_Goal_call, runF, startE_0, startE_1, startE_z, lk, ofS_ins, ofS_str, W.pure_bind, insOf_self, fs_holds, need_T, callM_2, bind_wp]
  refine holds_wp L hk ?_
  exact h
theorem callX_wp {o : D} (L : Lamps l) (hn : l ∈ nine) (ho : Bad l o) (h : E (setX o)) : (m_M_Goal_call [.ins "Goal" (gF l dd ks), o]).wp Q E := by
  simp only [m_M_Goal_call, runF, startE_0, startE_1, startE_z, lk, ofS_ins, ofS_of ho.im, W.pure_bind, insOf_self, fs_holds, need_T, callM_2, bind_wp]
  exact holdsX_wp L hn ho h
theorem has_wp {k : List Nat} (L : Lamps l) (hk : k.Sublist l) (h : Q (.bl (ks.contains k))) : (inO "Goal" m_M_Goal_contains (.str k) (.ins "Goal" (gF l dd ks))).wp Q E := by
  simp only [inO, m_M_Goal_contains, runF, startE_0, startE_1, startE_z, lk, ofS_ins, ofS_str, W.pure_bind, insOf_self, fs_holds, need_T, callM_2, bind_wp]
  refine holds_wp L hk ?_
  exact h
theorem hasX_wp {o : D} (L : Lamps l) (hn : l ∈ nine) (ho : Bad l o) (h : E (setX o)) : (inO "Goal" m_M_Goal_contains o (.ins "Goal" (gF l dd ks))).wp Q E := by
  simp only [inO, m_M_Goal_contains, runF, startE_0, startE_1, startE_z, lk, ofS_ins, ofS_of ho.im, W.pure_bind, insOf_self, fs_holds, need_T, callM_2, bind_wp]
  exact holdsX_wp L hn ho h
theorem glen_eq (h : ks.length ≤ 16) : lenO "Goal" m_M_Goal_len (.ins "Goal" (gF l dd ks)) = W.pure (.int (ks.length : Nat)) := by
  have e : m_M_Goal_len [.ins "Goal" (gF l dd ks)] = W.pure (.int (ks.length : Nat)) := by
    simp only [m_M_Goal_len, runF, startE_0, startE_1, startE_z, lk, ofS_ins, W.pure_bind, fldD, insOf_self, fs_held, ofO, one1_eq, lenD, List.length_map, endF]
  simp only [lenO, insOf_self, W.pure_bind, e, W.noX_pure, int1]
  exact W.need_true (show (0 : Int) ≤ (ks.length : Nat) ∧ ((ks.length : Nat) : Int) ≤ ((100000 : Nat) : Int) by omega) _
theorem glamps_eq : m_M_Goal_lamps [.ins "Goal" (gF l dd ks)] = W.pure (.str l) := by
  simp only [m_M_Goal_lamps, runF, startE_0, startE_1, startE_z, lk, ofS_ins, W.pure_bind, fldD, insOf_self, fs_letters, ofO, endF]
def glText (l : List Nat) (n : Nat) : List Nat := [71, 111, 97, 108, 40] ++ l ++ [44, 32] ++ digs ((n : Nat) : Int) ++ [32, 115, 101, 116, 115, 41]
theorem digs_le {n : Nat} (h : n < 1000000) : (digs ((n : Nat) : Int)).length ≤ 20 := Nat.le_trans (digs_ok (i := ((n : Nat) : Int)) (by omega)).1 (by decide)
theorem grepr_eq (l4 : l.length ≤ 4) (h : ks.length ≤ 16) : reprO "Goal" m_M_Goal_repr (.ins "Goal" (gF l dd ks)) = W.pure (.str (glText l ks.length)) := by
  have d1 := digs_le (n := ks.length) (by omega)
  have n1 : ∀ {x : List Nat} (f : Unit → W (List (List Nat))), x.length ≤ 10000 → W.bind (W.need (x.length ≤ 10000)) f = f () := fun f q => W.need_true q f
  have e : m_M_Goal_repr [.ins "Goal" (gF l dd ks)] = W.pure (.str (glText l ks.length)) := by
    have n3 : ((ks.length : Nat) : Int).natAbs < 1000000000 := by omega
    have m3 : W.bind (W.need (((ks.length : Nat) : Int).natAbs < 1000000000)) (fun _ => W.pure (digs ((ks.length : Nat) : Int))) = W.pure (digs ((ks.length : Nat) : Int)) := W.need_true n3 _
    simp only [m_M_Goal_repr, runF, startE_0, startE_1, startE_z, lk, ofS_ins, W.pure_bind, fldD, insOf_self, fs_letters, fs_held, ofO, one1_eq, lenD, List.length_map, fmtT, m3]
    rw [n1 _ (by decide), n1 _ (by omega), n1 _ (by decide), n1 _ (by omega), n1 _ (by decide)]
    simp only [W.pure_bind, glueD]
    have fl : List.flatten [[71, 111, 97, 108, 40], l, [44, 32], digs ((ks.length : Nat) : Int), [32, 115, 101, 116, 115, 41]] = glText l ks.length := by simp [glText]
    rw [fl, W.need_true (show (glText l ks.length).length ≤ big by unfold glText; simp only [List.length_append, List.length_cons, List.length_nil]; show _ ≤ 100000; omega)]
    rfl
  simp only [reprO, insOf_self, W.pure_bind, e, W.noX_pure, txtO]
end
section
variable {env : Ev} {l : List Nat} {o dd : D} {ks : List (List Nat)}
theorem ask0 (L : Lamps l) (hn : l ∈ nine) (h6 : lk env 6 = W.pure (.ins "Goal" (gF l dd ks))) (h9 : lk env 9 = W.pure o) (ho : Bad l o) : Told1 (fun i => mbL i env) 0 (.tup [.str wSet, o]) :=
  why_err (x := setX o) List.mem_cons_self (told_set o) fun Q E h => by
    show (mbL 0 env).wp Q E
    simp only [mbL, h6, h9, W.pure_bind]
    exact hasX_wp L hn ho h
theorem ask1 (L : Lamps l) (hn : l ∈ nine) (h6 : lk env 6 = W.pure (.ins "Goal" (gF l dd ks))) (h9 : lk env 9 = W.pure o) (ho : Bad l o) : Told1 (fun i => mbL i env) 1 (.tup [.str wSet, o]) :=
  why_err (x := setX o) List.mem_cons_self (told_set o) fun Q E h => by
    show (mbL 1 env).wp Q E
    simp only [mbL, h6, h9, W.pure_bind, insOf_self, callM_2]
    exact callX_wp L hn ho h
end
end Rg

set_option Elab.async false
set_option linter.all false
set_option maxRecDepth 100000
set_option maxHeartbeats 4500000
/-! the law itself -/
namespace Rg
open PySem PySem.Spec PyProof.Rows L2
theorem nine_in {l : List Nat} (h : l ∈ nine) : l ∈ nine ++ [[113], [109, 113]] := List.mem_append_left _ h
theorem same_2 {x : D} (h : plain 5 x = true) : m_l_same 6 [x, x] = W.pure (.bl true) := same_self 5 x h
theorem mkLst_3 (a b c : D) : mkLst [a, b, c] = W.pure (.lst [a, b, c]) := W.need_true (show 3 ≤ big by decide) _
theorem mkLst_4 (a b c d : D) : mkLst [a, b, c, d] = W.pure (.lst [a, b, c, d]) := W.need_true (show 4 ≤ big by decide) _
theorem mkLst_6 (a b c d e f : D) : mkLst [a, b, c, d, e, f] = W.pure (.lst [a, b, c, d, e, f]) := W.need_true (show 6 ≤ big by decide) _
theorem mkLst_5 (a b c d e : D) : mkLst [a, b, c, d, e] = W.pure (.lst [a, b, c, d, e]) := W.need_true (show 5 ≤ big by decide) _
theorem mkTup_5 (a b c d e : D) : mkTup [a, b, c, d, e] = W.pure (.tup [a, b, c, d, e]) := W.need_true (show 5 ≤ big by decide) _
theorem whys3 {ms : Nat → W D} {rs : List D} (h : Tells ms [2, 1, 0] rs) {Q : D → Prop} {E : ExD → Prop} (hq : Q (.lst rs)) : (whysM ms [.lst [.lam 2, .lam 1, .lam 0]]).wp Q E := whys_wp h hq
def nO (o : Option D) : Prop := ∀ ds, o ≠ some (.own ds)
theorem nO_of {d : D} (h : isMut d = false) : nO (some d) := fun ds e => by
  cases e
  cases h
theorem nO_non : nO none := fun ds e => nomatch e
theorem noOwn_of {env : Ev} (h : ∀ o ∈ env, nO o) : noOwn env := fun i ds e => by
  obtain ⟨hi, e2⟩ := List.getElem?_eq_some_iff.mp e
  exact h _ (List.getElem_mem hi) ds e2
theorem eqvs_all : ∀ {ds : List D}, (∀ d ∈ ds, eqvD d d = true) → eqvDs ds ds = true
  | [], _ => rfl
  | d :: r, h => by
    rw [eqvDs, h d List.mem_cons_self, eqvs_all fun x hx => h x (List.mem_cons_of_mem _ hx)]
    rfl
theorem eqvs_strs (ks : List (List Nat)) : eqvDs (ks.map D.str) (ks.map D.str) = true := eqvs_all fun d hd => by
  obtain ⟨k, _, rfl⟩ := List.mem_map.mp hd
  simp [eqvD]
theorem eqL_self (ks : List (List Nat)) : eqD (.lst (ks.map D.str)) (.lst (ks.map D.str)) = W.pure (.bl true) := by
  rw [eqD_of (by rw [plain]; exact plains_strs _ _) (by rw [plain]; exact plains_strs _ _), eqvD, eqvs_strs]
theorem seq_set {m : W D} {g : D → Ev} {f : Ev → W Fl} {Q : Fl → Prop} {E : ExD → Prop} (h : m.wp (fun d => (f (g d)).wp Q E) E) : (seqF (W.bind m fun d => W.pure (.nx (g d))) f).wp Q E := h
theorem seq_to {m : W Fl} {e : Ev} {f : Ev → W Fl} {Q : Fl → Prop} {E : ExD → Prop} (h : m.wp (fun fl => fl = .nx e) E) (h2 : (f e).wp Q E) : (seqF m f).wp Q E := W.mono m (fun fl hfl => by
  subst hfl
  exact h2) (fun _ q => q) h
theorem pairG (i j : Nat) (a b : D) (env : Ev) : gTupW 2 (gConsW (fun d env => W.pure (List.set env i (some d))) (gConsW (fun d env => W.pure (List.set env j (some d))) gNilW)) (.tup [a, b]) env = W.pure ((env.set i (some a)).set j (some b)) := by
  simp only [gTupW, tupOf, gConsW, gNilW, W.pure_bind, List.length_cons, List.length_nil, need_T]
theorem gD_F (l : List Nat) (d : D) (f : List Nat → Bool) : gD l d f = .ins "Goal" (gF l d (pick_ l f)) := rfl
theorem mul_3 {t : D} : mulL (.lst [t]) (.int 3) = W.pure (.lst [t, t, t]) := by
  show W.bind (W.need _) _ = _
  have b : ((0 : Int) ≤ 3 ∧ (3 : Int) ≤ (big : Nat) ∧ [t].length * (3 : Int).toNat ≤ big) := by
    show (0 : Int) ≤ 3 ∧ (3 : Int) ≤ ((100000 : Nat) : Int) ∧ 1 * 3 ≤ 100000
    omega
  rw [W.need_true b]
  rfl
theorem mul_2 {t : D} : mulL (.lst [t]) (.int 2) = W.pure (.lst [t, t]) := by
  show W.bind (W.need _) _ = _
  have b : ((0 : Int) ≤ 2 ∧ (2 : Int) ≤ (big : Nat) ∧ [t].length * (2 : Int).toNat ≤ big) := by
    show (0 : Int) ≤ 2 ∧ (2 : Int) ≤ ((100000 : Nat) : Int) ∧ 1 * 2 ≤ 100000
    omega
  rw [W.need_true b]
  rfl
theorem mkLst_7 (a b c d e f g : D) : mkLst [a, b, c, d, e, f, g] = W.pure (.lst [a, b, c, d, e, f, g]) := W.need_true (show 7 ≤ big by decide) _
theorem whys2 {ms : Nat → W D} {rs : List D} (h : Tells ms [1, 0] rs) {Q : D → Prop} {E : ExD → Prop} (hq : Q (.lst rs)) : (whysM ms [.lst [.lam 1, .lam 0]]).wp Q E := whys_wp h hq
theorem nine_rev : ∀ l ∈ nine, revS (sOf l) = sOf l.reverse := by decide +kernel
theorem rev_eq {l : List Nat} (h : l ∈ nine) : revSD (.str l) = W.pure (.str l.reverse) := W.need_true (nine_rev l h) _
theorem strD_n {n : Nat} (h : n < 1000000) : strD (.int (n : Nat)) = W.pure (.str (digs ((n : Nat) : Int))) := W.need_true (by omega) _
theorem callO_1 (f : List D → W (List D)) (d : D) : callO 1 f [d] = f [d] := W.need_true rfl _
theorem told_plain {l : List Nat} {d : D} {dp sz : Nat} {f : List Nat → Bool} (A : List (List Nat)) (n : Int) (t : List Nat) (hd : Sen l d dp sz f) (hp : dp ≤ 4) : plain 5 (.lst [.lst (A.map D.str), .str l, d, .int n, .str t]) = true := by
  show (plains 3 (A.map D.str) && (true && (plain 4 d && (true && (true && true))))) = true
  rw [plains_strs, hd.plain 4 hp]
  rfl
theorem neLs (A B : List (List Nat)) : neD (.lst (A.map D.str)) (.lst (B.map D.str)) = W.pure (.bl (!eqvDs (A.map D.str) (B.map D.str))) := by
  rw [neD_of (by rw [plain]; exact plains_strs _ _) (by rw [plain]; exact plains_strs _ _), eqvD]
theorem truth : (mb_law [none, some .bag, none, none, none, none, none, none, none, none, none]).wp (fun f => f = .rt (.bl true)) (fun _ => False) := by
  have e7 : rng1 [.int 7] = W.pure (irange 0 7) := by
    simp only [rng1, one1_eq, int1, W.pure_bind]
    exact W.need_true (by decide) _
  simp only [mb_law, W.pure_bind, e7]
  rw [seqF_wp]
  refine W.mono _ (fun fl hfl => ?_) (fun _ q => q) (forW_inv (fun env => ∃ s2 s3 s4 s5 s6 s7 s8 s9, env = [none, some .bag, s2, s3, s4, s5, s6, s7, s8, s9, none] ∧ nO s7) _ (fun x hx env hI => ?_) _ ⟨_, _, _, _, _, _, _, _, rfl, nO_non⟩)
  · obtain ⟨env, rfl, s2, s3, s4, s5, s6, s7, s8, s9, rfl, _⟩ := hfl
    have La := lamps_of (l := [97, 98, 99, 100]) (by decide)
    have sn : Sen [97, 98, 99, 100] (.tup [.str wLeast, .int ((2 : Nat) : Int), .str [97, 99, 100]]) 1 1 (fun k => decide (2 ≤ (([97, 99, 100] : List Nat).filter fun c => k.contains c).length)) := .least (by decide) (by decide) (by decide)
    simp only [W.pure_bind, mkTup_3]
    refine seq_set (goal_wp La sn (by decide) (by decide) ?_)
    rw [gD_F]
    simp only [List.set, lk, ofS_ins, W.pure_bind, insOf_self, callM_2, bind_wp]
    refine call_wp La (by decide) ?_
    refine call_wp La (by decide) ?_
    refine call_wp La (by decide) ?_
    refine call_wp La (by decide) ?_
    rw [show (pick_ [97, 98, 99, 100] fun k => decide (2 ≤ (([97, 99, 100] : List Nat).filter fun c => k.contains c).length)).contains [97, 98] = false by decide +kernel, show (pick_ [97, 98, 99, 100] fun k => decide (2 ≤ (([97, 99, 100] : List Nat).filter fun c => k.contains c).length)).contains [99, 100] = true by decide +kernel, show (pick_ [97, 98, 99, 100] fun k => decide (2 ≤ (([97, 99, 100] : List Nat).filter fun c => k.contains c).length)).contains [97, 98, 100] = true by decide +kernel, show (pick_ [97, 98, 99, 100] fun k => decide (2 ≤ (([97, 99, 100] : List Nat).filter fun c => k.contains c).length)).contains [] = false by decide +kernel]
    have e4 : eqD (.lst [.bl false, .bl true, .bl true, .bl false]) (.lst [.bl false, .bl true, .bl true, .bl false]) = W.pure (.bl true) := by
      rw [eqD_of (by rfl) (by rfl)]
      rfl
    simp only [mkLst_4, W.pure_bind, pure_wp, e4]
  obtain ⟨s2, s3, s4, s5, s6, s7, s8, s9, rfl, n7⟩ := hI
  obtain ⟨tn, _, rfl⟩ := List.mem_map.mp hx
  clear hx
  generalize (0 + (tn : Nat) : Int) = u
  simp only [W.noX_pure, W.pure_bind, List.set, lk, ofS_bag, callM_2]
  refine seq_set (lamps_wp fun l hl => ?_)
  have L := lamps_of (nine_in hl)
  have l4 := L.len4
  simp only [List.set, lk, ofS_bag, ofS_str, W.pure_bind, callM_2]
  rw [seqF_wp]
  simp only [bind_wp]
  refine aim_wp L fun d dp sz f hd hp hz => ?_
  rw [show (ssF l).filter f = pick_ l f from rfl]
  have lA := pick_len l4 f
  simp only [pure_wp, pairG, W.noX_pure, List.set, lk, ofS_str, ofS_of hd.mut, W.pure_bind]
  have pk : pick [d, .str l] [1, 0] = [.str l, d] := rfl
  have nl : ([d, .str l].length = 2) = True := eq_true rfl
  simp only [nl, need_T, pk]
  refine seq_set (goal_wp L hd (by omega) (by omega) ?_)
  rw [gD_F]
  generalize pick_ l f = A at lA ⊢
  simp only [List.set, lk, ofS_str, ofS_ins, W.pure_bind, callM_1, l_sets_ss l4, seqOf]
  rw [seqF_wp]
  refine W.mono _ (fun fl hfl => ?_) (fun _ q => q) (forW_inv (fun env => ∃ s7, env = [none, some .bag, some (.int u), some (.str l), some d, some (.lst (A.map D.str)), some (.ins "Goal" (gF l d A)), s7, s8, s9, none] ∧ nO s7) _ (fun x hx env hI => ?_) _ ⟨_, rfl, n7⟩)
  · obtain ⟨env, rfl, q7, rfl, n7'⟩ := hfl
    have d1 := digs_le (n := A.length) (by omega)
    have a1 : addD (.str [71, 111, 97, 108, 40]) (.str l) = W.pure (.str ([71, 111, 97, 108, 40] ++ l)) := addS (by simp only [List.length_cons, List.length_nil]; omega)
    have a2 : addD (.str ([71, 111, 97, 108, 40] ++ l)) (.str [44, 32]) = W.pure (.str ([71, 111, 97, 108, 40] ++ l ++ [44, 32])) := addS (by simp only [List.length_append, List.length_cons, List.length_nil]; omega)
    have a3 : addD (.str ([71, 111, 97, 108, 40] ++ l ++ [44, 32])) (.str (digs ((A.length : Nat) : Int))) = W.pure (.str ([71, 111, 97, 108, 40] ++ l ++ [44, 32] ++ digs ((A.length : Nat) : Int))) := addS (by simp only [List.length_append, List.length_cons, List.length_nil]; omega)
    have a4 : addD (.str ([71, 111, 97, 108, 40] ++ l ++ [44, 32] ++ digs ((A.length : Nat) : Int))) (.str [32, 115, 101, 116, 115, 41]) = W.pure (.str (glText l A.length)) := addS (by simp only [List.length_append, List.length_cons, List.length_nil]; omega)
    have as1 : addD (.str l) (.str l) = W.pure (.str (l ++ l)) := addS (by omega)
    have as2 : addD (.str l.reverse) (.str [65]) = W.pure (.str (l.reverse ++ [65])) := addS (by rw [List.length_reverse, show [65].length = 1 from rfl]; omega)
    have oS : callO 1 o_M_Goal_sets [.ins "Goal" (gF l d A)] = W.pure (A.map D.str) := by
      rw [callO_1]
      simp only [o_M_Goal_sets]
      rfl
    simp only [lk, ofS_ins, ofS_str, ofS_lst, ofS_of hd.mut, W.pure_bind, insOf_self, fs_sets, need_T, callM_1, gsets_eq, glamps_eq, gsen_eq, W.noX_pure, one1_eq, lenD, List.length_map, glen_eq lA, grepr_eq l4 lA, mkLst_5, seqF_nx, List.set, strD_n (show A.length < 1000000 by omega), a1, a2, a3, a4, callM_2, same_2 (told_plain A ((A.length : Nat) : Int) (glText l A.length) hd (by omega)), truD, Bool.not_true, iteW_f, oS, ofS_bag, as1, as2, mkLst_1, rev_eq hl, mkLst_7]
    refine seq_set (of_lst (Nat.succ_pos _) (show 7 < 1000000 by decide) fun o ho => ?_)
    have bo : Bad l o := by
      simp only [List.mem_cons, List.not_mem_nil, or_false] at ho
      exact ho
    simp only [List.set, mkLst_2, W.pure_bind, bind_wp, seqF_wp, need_wp, noX_wp]
    refine ⟨noOwn_of fun z hz => ?_, ?_⟩
    · simp only [List.mem_cons, List.not_mem_nil, or_false] at hz
      rcases hz with rfl | rfl | rfl | rfl | rfl | rfl | rfl | rfl | rfl | rfl | rfl <;> first | exact nO_non | exact nO_of rfl | exact nO_of hd.mut | exact n7' | exact nO_of bo.im
    refine whys2 (.cons (ask1 (l := l) (dd := d) (ks := A) L hl ?_ ?_ bo) (.cons (ask0 (l := l) (dd := d) (ks := A) L hl ?_ ?_ bo) .nil)) ?_
    · rfl
    · exact ofS_of bo.im
    · rfl
    · exact ofS_of bo.im
    have P5 : plain 5 (.lst [.tup [.str wSet, o], .tup [.str wSet, o]]) = true ∧ noLam (.lst [.tup [.str wSet, o], .tup [.str wSet, o]]) = true := by
      rcases bo with rfl | rfl | rfl | rfl | rfl | rfl | rfl <;> exact ⟨rfl, rfl⟩
    refine ⟨P5.2, ?_⟩
    simp only [pure_wp, List.set, lk, ofS_lst, ofS_ins, ofS_of bo.im, mkTup_2, mkLst_1, W.pure_bind, mul_2, callM_2, same_2 P5.1, truD, Bool.not_true, iteW_f, insOf_self, fs_sets, need_T, callM_1, gsets_eq, neLs, eqvs_strs, ofB]
    exact ⟨_, rfl, _, _, _, _, _, _, _, _, rfl, n7'⟩
  · obtain ⟨q7, rfl, _⟩ := hI
    obtain ⟨k, hk, rfl⟩ := List.mem_map.mp hx
    have ks := ss_sub l4 hk
    have sk : ∀ x y : D, selfK [0] [x] [y] = [x, y] := fun _ _ => rfl
    have n1 : ([D.str k].length = 1) = True := eq_true rfl
    simp only [W.noX_pure, W.pure_bind, List.set, lk, ofS_str, ofS_ins, ofS_lst, insOf_self, callM_2, n1, need_T, sk, bind_wp]
    refine call_wp L ks ?_
    refine call_wp L ks ?_
    refine has_wp L ks ?_
    have P3 : plain 5 (.lst [.bl (A.contains k), .bl (A.contains k), .bl (A.contains k)]) = true := rfl
    simp only [pure_wp, mkLst_3, mkLst_1, W.pure_bind, in_strs, xor_ff, mul_3, callM_2, same_2 P3, truD, Bool.not_true, iteW_f]
    exact ⟨_, rfl, _, rfl, nO_of rfl⟩
end Rg

set_option Elab.async false
set_option linter.all false
set_option maxRecDepth 100000
set_option maxHeartbeats 4500000
namespace Rg
open PySem PySem.Spec PyProof.Rows L2
theorem errK_mk {K : PySem.W.Frag} {C : Addr} (x : XfC K C) (h0 : PySem.W.findIn K (.ref C) "tag" = some none) (h1 : PySem.W.findIn K (.ref C) "given" = some none) (h2 : PySem.W.findIn K (.ref C) "index" = some none) (h3 : PySem.W.findIn K (.ref C) "name" = some none) (h4 : PySem.W.findIn K (.ref C) "most" = some none) (h5 : PySem.W.findIn K (.ref C) "limit" = some none) (h6 : PySem.W.findIn K (.ref C) "part" = some none) (h7 : PySem.W.findIn K (.ref C) "table" = some none) (h8 : PySem.W.findIn K (.ref C) "room" = some none) (h9 : PySem.W.findIn K (.ref C) "origin" = some none) (h10 : PySem.W.findIn K (.ref C) "many" = some none) (h11 : PySem.W.findIn K (.ref C) "word" = some none) (h12 : PySem.W.findIn K (.ref C) "line" = some none) : ErrK K C := by
  refine ⟨x, fun n hn => ?_⟩
  rcases (List.mem_cons (a := n)).mp hn with rfl | hn
  · exact h0
  rcases (List.mem_cons (a := n)).mp hn with rfl | hn
  · exact h1
  rcases (List.mem_cons (a := n)).mp hn with rfl | hn
  · exact h2
  rcases (List.mem_cons (a := n)).mp hn with rfl | hn
  · exact h3
  rcases (List.mem_cons (a := n)).mp hn with rfl | hn
  · exact h4
  rcases (List.mem_cons (a := n)).mp hn with rfl | hn
  · exact h5
  rcases (List.mem_cons (a := n)).mp hn with rfl | hn
  · exact h6
  rcases (List.mem_cons (a := n)).mp hn with rfl | hn
  · exact h7
  rcases (List.mem_cons (a := n)).mp hn with rfl | hn
  · exact h8
  rcases (List.mem_cons (a := n)).mp hn with rfl | hn
  · exact h9
  rcases (List.mem_cons (a := n)).mp hn with rfl | hn
  · exact h10
  rcases (List.mem_cons (a := n)).mp hn with rfl | hn
  · exact h11
  rcases (List.mem_cons (a := n)).mp hn with rfl | hn
  · exact h12
  cases hn
theorem codeHd_mk {K : PySem.W.Frag} {h : Heap} (X : K.In h) {c P : Addr} {dd : Option Addr} {vs : Array Value} {sl : Array (Option Value)} {file : Str} {tf tg tt : Tok} {flags text : Int} {inF : Bool} (lk : K.lookup c = some ⟨.type "code", dd, .fields vs, sl⟩) (v11 : vs[11]? = some (.ref P)) (v18 : vs.getD 18 .none = .str file tf) (v7 : vs.getD 7 .none = .int flags tg) (v9 : vs.getD 9 .none = .bool inF) (v10 : vs.getD 10 .none = .int text tt) (ne : c ≠ P) : PySem.W.CodeHd h c P :=
  ⟨_, vs, file, tf, flags, tg, inF, text, tt, X _ _ lk, rfl, rfl, v11, by rw [Array.getD_eq_getD_getElem?, v11]; rfl, v18, v7, v9, v10, ne⟩
def top_mk {P : Program} {K : PySem.W.Frag} {h : Heap} {mg : Str → Option Value} (X : K.In h) (G : h.Ns mainGlobals mg)
    {f_l_bag : Addr} {od_l_bag an_l_bag : Option Addr} {sl_l_bag : Array (Option Value)} {oc_l_bag kV_l_bag dc_l_bag pm_l_bag cd_l_bag ct_l_bag : Value}
    {f_l_pull : Addr} {od_l_pull an_l_pull : Option Addr} {sl_l_pull : Array (Option Value)} {oc_l_pull kV_l_pull dc_l_pull pm_l_pull cd_l_pull ct_l_pull : Value}
    {f_l_part_of : Addr} {od_l_part_of an_l_part_of : Option Addr} {sl_l_part_of : Array (Option Value)} {oc_l_part_of kV_l_part_of dc_l_part_of pm_l_part_of cd_l_part_of ct_l_part_of : Value}
    {f_l_last_field : Addr} {od_l_last_field an_l_last_field : Option Addr} {sl_l_last_field : Array (Option Value)} {oc_l_last_field kV_l_last_field dc_l_last_field pm_l_last_field cd_l_last_field ct_l_last_field : Value}
    {f_l_field : Addr} {od_l_field an_l_field : Option Addr} {sl_l_field : Array (Option Value)} {oc_l_field kV_l_field dc_l_field pm_l_field cd_l_field ct_l_field : Value}
    {f_l_why : Addr} {od_l_why an_l_why : Option Addr} {sl_l_why : Array (Option Value)} {oc_l_why kV_l_why dc_l_why pm_l_why cd_l_why ct_l_why : Value}
    {f_l_whys : Addr} {od_l_whys an_l_whys : Option Addr} {sl_l_whys : Array (Option Value)} {oc_l_whys kV_l_whys dc_l_whys pm_l_whys cd_l_whys ct_l_whys : Value}
    {f_copied : Addr} {od_copied an_copied : Option Addr} {sl_copied : Array (Option Value)} {oc_copied kV_copied dc_copied pm_copied cd_copied ct_copied : Value}
    {f_is_number : Addr} {od_is_number an_is_number : Option Addr} {sl_is_number : Array (Option Value)} {oc_is_number kV_is_number dc_is_number pm_is_number cd_is_number ct_is_number : Value}
    {f_is_ascending : Addr} {od_is_ascending an_is_ascending : Option Addr} {sl_is_ascending : Array (Option Value)} {oc_is_ascending kV_is_ascending dc_is_ascending pm_is_ascending cd_is_ascending ct_is_ascending : Value}
    {f_is_within : Addr} {od_is_within an_is_within : Option Addr} {sl_is_within : Array (Option Value)} {oc_is_within kV_is_within dc_is_within pm_is_within cd_is_within ct_is_within : Value}
    {f_is_set : Addr} {od_is_set an_is_set : Option Addr} {sl_is_set : Array (Option Value)} {oc_is_set kV_is_set dc_is_set pm_is_set cd_is_set ct_is_set : Value}
    {f_is_lamps : Addr} {od_is_lamps an_is_lamps : Option Addr} {sl_is_lamps : Array (Option Value)} {oc_is_lamps kV_is_lamps dc_is_lamps pm_is_lamps cd_is_lamps ct_is_lamps : Value}
    {f_check_lamps : Addr} {od_check_lamps an_check_lamps : Option Addr} {sl_check_lamps : Array (Option Value)} {oc_check_lamps kV_check_lamps dc_check_lamps pm_check_lamps cd_check_lamps ct_check_lamps : Value}
    {f_listed_sets : Addr} {od_listed_sets an_listed_sets : Option Addr} {sl_listed_sets : Array (Option Value)} {oc_listed_sets kV_listed_sets dc_listed_sets pm_listed_sets cd_listed_sets ct_listed_sets : Value}
    {f_inner_sentences : Addr} {od_inner_sentences an_inner_sentences : Option Addr} {sl_inner_sentences : Array (Option Value)} {oc_inner_sentences kV_inner_sentences dc_inner_sentences pm_inner_sentences cd_inner_sentences ct_inner_sentences : Value}
    {f_next_parts : Addr} {od_next_parts an_next_parts : Option Addr} {sl_next_parts : Array (Option Value)} {oc_next_parts kV_next_parts dc_next_parts pm_next_parts cd_next_parts ct_next_parts : Value}
    {f_is_count : Addr} {od_is_count an_is_count : Option Addr} {sl_is_count : Array (Option Value)} {oc_is_count kV_is_count dc_is_count pm_is_count cd_is_count ct_is_count : Value}
    {f_has_form : Addr} {od_has_form an_has_form : Option Addr} {sl_has_form : Array (Option Value)} {oc_has_form kV_has_form dc_has_form pm_has_form cd_has_form ct_has_form : Value}
    {f_check_sentence : Addr} {od_check_sentence an_check_sentence : Option Addr} {sl_check_sentence : Array (Option Value)} {oc_check_sentence kV_check_sentence dc_check_sentence pm_check_sentence cd_check_sentence ct_check_sentence : Value}
    {f_sentence_holds : Addr} {od_sentence_holds an_sentence_holds : Option Addr} {sl_sentence_holds : Array (Option Value)} {oc_sentence_holds kV_sentence_holds dc_sentence_holds pm_sentence_holds cd_sentence_holds ct_sentence_holds : Value}
    {f_M_Goal_init : Addr} {od_M_Goal_init an_M_Goal_init : Option Addr} {sl_M_Goal_init : Array (Option Value)} {oc_M_Goal_init kV_M_Goal_init dc_M_Goal_init pm_M_Goal_init cd_M_Goal_init ct_M_Goal_init : Value}
    {f_M_Goal_lamps : Addr} {od_M_Goal_lamps an_M_Goal_lamps : Option Addr} {sl_M_Goal_lamps : Array (Option Value)} {oc_M_Goal_lamps kV_M_Goal_lamps dc_M_Goal_lamps pm_M_Goal_lamps cd_M_Goal_lamps ct_M_Goal_lamps : Value}
    {f_M_Goal_sentence : Addr} {od_M_Goal_sentence an_M_Goal_sentence : Option Addr} {sl_M_Goal_sentence : Array (Option Value)} {oc_M_Goal_sentence kV_M_Goal_sentence dc_M_Goal_sentence pm_M_Goal_sentence cd_M_Goal_sentence ct_M_Goal_sentence : Value}
    {f_M_Goal_sets : Addr} {od_M_Goal_sets an_M_Goal_sets : Option Addr} {sl_M_Goal_sets : Array (Option Value)} {oc_M_Goal_sets kV_M_Goal_sets dc_M_Goal_sets pm_M_Goal_sets cd_M_Goal_sets ct_M_Goal_sets : Value}
    {f_M_Goal_holds_for : Addr} {od_M_Goal_holds_for an_M_Goal_holds_for : Option Addr} {sl_M_Goal_holds_for : Array (Option Value)} {oc_M_Goal_holds_for kV_M_Goal_holds_for dc_M_Goal_holds_for pm_M_Goal_holds_for cd_M_Goal_holds_for ct_M_Goal_holds_for : Value}
    {f_M_Goal_call : Addr} {od_M_Goal_call an_M_Goal_call : Option Addr} {sl_M_Goal_call : Array (Option Value)} {oc_M_Goal_call kV_M_Goal_call dc_M_Goal_call pm_M_Goal_call cd_M_Goal_call ct_M_Goal_call : Value}
    {f_M_Goal_contains : Addr} {od_M_Goal_contains an_M_Goal_contains : Option Addr} {sl_M_Goal_contains : Array (Option Value)} {oc_M_Goal_contains kV_M_Goal_contains dc_M_Goal_contains pm_M_Goal_contains cd_M_Goal_contains ct_M_Goal_contains : Value}
    {f_M_Goal_len : Addr} {od_M_Goal_len an_M_Goal_len : Option Addr} {sl_M_Goal_len : Array (Option Value)} {oc_M_Goal_len kV_M_Goal_len dc_M_Goal_len pm_M_Goal_len cd_M_Goal_len ct_M_Goal_len : Value}
    {f_M_Goal_repr : Addr} {od_M_Goal_repr an_M_Goal_repr : Option Addr} {sl_M_Goal_repr : Array (Option Value)} {oc_M_Goal_repr kV_M_Goal_repr dc_M_Goal_repr pm_M_Goal_repr cd_M_Goal_repr ct_M_Goal_repr : Value}
    {f_l_of : Addr} {od_l_of an_l_of : Option Addr} {sl_l_of : Array (Option Value)} {oc_l_of kV_l_of dc_l_of pm_l_of cd_l_of ct_l_of : Value}
    {f_l_same : Addr} {od_l_same an_l_same : Option Addr} {sl_l_same : Array (Option Value)} {oc_l_same kV_l_same dc_l_same pm_l_same cd_l_same ct_l_same : Value}
    {f_l_sets : Addr} {od_l_sets an_l_sets : Option Addr} {sl_l_sets : Array (Option Value)} {oc_l_sets kV_l_sets dc_l_sets pm_l_sets ct_l_sets : Value}
    {f_l_lamps : Addr} {od_l_lamps an_l_lamps : Option Addr} {sl_l_lamps : Array (Option Value)} {oc_l_lamps kV_l_lamps dc_l_lamps pm_l_lamps cd_l_lamps ct_l_lamps : Value}
    {f_l_lits : Addr} {od_l_lits an_l_lits : Option Addr} {sl_l_lits : Array (Option Value)} {oc_l_lits kV_l_lits dc_l_lits pm_l_lits cd_l_lits ct_l_lits : Value}
    {f_l_sentence : Addr} {od_l_sentence an_l_sentence : Option Addr} {sl_l_sentence : Array (Option Value)} {oc_l_sentence kV_l_sentence dc_l_sentence pm_l_sentence cd_l_sentence ct_l_sentence : Value}
    {f_l_holds : Addr} {od_l_holds an_l_holds : Option Addr} {sl_l_holds : Array (Option Value)} {oc_l_holds kV_l_holds dc_l_holds pm_l_holds cd_l_holds ct_l_holds : Value}
    {f_l_aim : Addr} {od_l_aim an_l_aim : Option Addr} {sl_l_aim : Array (Option Value)} {oc_l_aim kV_l_aim dc_l_aim pm_l_aim cd_l_aim ct_l_aim : Value}
    {f_law : Addr} {od_law an_law : Option Addr} {sl_law : Array (Option Value)} {oc_law kV_law dc_law pm_law ct_law : Value}
    {C_Goal : Addr}
    {p_M_Goal_lamps : Addr} {r_M_Goal_lamps : List Value}
    {p_M_Goal_sentence : Addr} {r_M_Goal_sentence : List Value}
    {cdt : Addr}
    {cdl : Addr}
    {C_InvalidSet a_InvalidSet cda_InvalidSet cc_InvalidSet Nn_InvalidSet : Addr} {nm_InvalidSet q_InvalidSet nm2_InvalidSet file_InvalidSet : Str} {bs_InvalidSet bm_InvalidSet sub_InvalidSet : List Value} {sn_InvalidSet : List Str} {ab_InvalidSet : Bool} {col_InvalidSet : Option Bool} {dd_InvalidSet od_InvalidSet an_InvalidSet cdd_InvalidSet cld_InvalidSet : Option Addr} {k0_InvalidSet k1_InvalidSet k2_InvalidSet k3_InvalidSet k5_InvalidSet : Option Value} {oc_InvalidSet kV_InvalidSet doc_InvalidSet pm_InvalidSet ct_InvalidSet ccl_InvalidSet cl_InvalidSet : Value} {osl_InvalidSet ccs_InvalidSet csl_InvalidSet : Array (Option Value)} {vs_InvalidSet : Array Value} {tf_InvalidSet : Tok} {cdD_InvalidSet : ClassData}
    {tk_LETTERS : Tok}
    {tk_MOST_LAMPS : Tok}
    {tk_MOST_PARTS : Tok}
    {tk_MOST_COUNT : Tok}
    {tk_MOST_LISTED : Tok}
    {tk_FEWEST_JOINED : Tok}
    {tk_MOST_JOINED : Tok}
    {ka_JOINING_WORDS : Addr} {kd_JOINING_WORDS : Option Addr} {kn_JOINING_WORDS : Nat} {ks_JOINING_WORDS : Array (Option Value)} {t0_JOINING_WORDS t1_JOINING_WORDS : Tok}
    {N_GoalError : Addr}
    {N_UnknownName : Addr}
    {N_NothingLeft : Addr}
    {tbl : Addr} {cdd_lw : Option Addr} {vs_lw : Array Value} {sl_lw : Array (Option Value)} {file_lw : Str} {tf_lw tg_lw tt_lw : Tok} {flags_lw text_lw : Int} {inF_lw : Bool}
    {tbt : Addr} {cdd_lt : Option Addr} {vs_lt : Array Value} {sl_lt : Array (Option Value)} {file_lt : Str} {tf_lt tg_lt tt_lt : Tok} {flags_lt text_lt : Int} {inF_lt : Bool}
    (a_l_bag : PySem.W.nsIn K mainGlobals "_law_bag" = some (some (.ref f_l_bag)))
    (l_l_bag : K.lookup f_l_bag = some ⟨oc_l_bag, od_l_bag, .func (PySem.W.fnOf "_law_bag" "_law_bag" (defArgs s_l_bag) (defBody s_l_bag) (defScope s_l_bag) .none kV_l_bag dc_l_bag pm_l_bag an_l_bag cd_l_bag ct_l_bag), sl_l_bag⟩)
    (c_l_bag : PySem.W.codeIn K cd_l_bag "_law_bag" = true)
    (k_l_bag : PySem.W.keepIn K (.ref f_l_bag) = true)
    (a_l_pull : PySem.W.nsIn K mainGlobals "_law_pull" = some (some (.ref f_l_pull)))
    (l_l_pull : K.lookup f_l_pull = some ⟨oc_l_pull, od_l_pull, .func (PySem.W.fnOf "_law_pull" "_law_pull" (defArgs s_l_pull) (defBody s_l_pull) (defScope s_l_pull) .none kV_l_pull dc_l_pull pm_l_pull an_l_pull cd_l_pull ct_l_pull), sl_l_pull⟩)
    (c_l_pull : PySem.W.codeIn K cd_l_pull "_law_pull" = true)
    (k_l_pull : PySem.W.keepIn K (.ref f_l_pull) = true)
    (a_l_part_of : PySem.W.nsIn K mainGlobals "_law_part_of" = some (some (.ref f_l_part_of)))
    (l_l_part_of : K.lookup f_l_part_of = some ⟨oc_l_part_of, od_l_part_of, .func (PySem.W.fnOf "_law_part_of" "_law_part_of" (defArgs s_l_part_of) (defBody s_l_part_of) (defScope s_l_part_of) .none kV_l_part_of dc_l_part_of pm_l_part_of an_l_part_of cd_l_part_of ct_l_part_of), sl_l_part_of⟩)
    (c_l_part_of : PySem.W.codeIn K cd_l_part_of "_law_part_of" = true)
    (k_l_part_of : PySem.W.keepIn K (.ref f_l_part_of) = true)
    (a_l_last_field : PySem.W.nsIn K mainGlobals "_law_last_field" = some (some (.ref f_l_last_field)))
    (l_l_last_field : K.lookup f_l_last_field = some ⟨oc_l_last_field, od_l_last_field, .func (PySem.W.fnOf "_law_last_field" "_law_last_field" (defArgs s_l_last_field) (defBody s_l_last_field) (defScope s_l_last_field) .none kV_l_last_field dc_l_last_field pm_l_last_field an_l_last_field cd_l_last_field ct_l_last_field), sl_l_last_field⟩)
    (c_l_last_field : PySem.W.codeIn K cd_l_last_field "_law_last_field" = true)
    (k_l_last_field : PySem.W.keepIn K (.ref f_l_last_field) = true)
    (a_l_field : PySem.W.nsIn K mainGlobals "_law_field" = some (some (.ref f_l_field)))
    (l_l_field : K.lookup f_l_field = some ⟨oc_l_field, od_l_field, .func (PySem.W.fnOf "_law_field" "_law_field" (defArgs s_l_field) (defBody s_l_field) (defScope s_l_field) .none kV_l_field dc_l_field pm_l_field an_l_field cd_l_field ct_l_field), sl_l_field⟩)
    (c_l_field : PySem.W.codeIn K cd_l_field "_law_field" = true)
    (k_l_field : PySem.W.keepIn K (.ref f_l_field) = true)
    (a_l_why : PySem.W.nsIn K mainGlobals "_law_why" = some (some (.ref f_l_why)))
    (l_l_why : K.lookup f_l_why = some ⟨oc_l_why, od_l_why, .func (PySem.W.fnOf "_law_why" "_law_why" (defArgs s_l_why) (defBody s_l_why) (defScope s_l_why) .none kV_l_why dc_l_why pm_l_why an_l_why cd_l_why ct_l_why), sl_l_why⟩)
    (c_l_why : PySem.W.codeIn K cd_l_why "_law_why" = true)
    (k_l_why : PySem.W.keepIn K (.ref f_l_why) = true)
    (a_l_whys : PySem.W.nsIn K mainGlobals "_law_whys" = some (some (.ref f_l_whys)))
    (l_l_whys : K.lookup f_l_whys = some ⟨oc_l_whys, od_l_whys, .func (PySem.W.fnOf "_law_whys" "_law_whys" (defArgs s_l_whys) (defBody s_l_whys) (defScope s_l_whys) .none kV_l_whys dc_l_whys pm_l_whys an_l_whys cd_l_whys ct_l_whys), sl_l_whys⟩)
    (c_l_whys : PySem.W.codeIn K cd_l_whys "_law_whys" = true)
    (k_l_whys : PySem.W.keepIn K (.ref f_l_whys) = true)
    (a_copied : PySem.W.nsIn K mainGlobals "copied" = some (some (.ref f_copied)))
    (l_copied : K.lookup f_copied = some ⟨oc_copied, od_copied, .func (PySem.W.fnOf "copied" "copied" (defArgs s_copied) (defBody s_copied) (defScope s_copied) .none kV_copied dc_copied pm_copied an_copied cd_copied ct_copied), sl_copied⟩)
    (c_copied : PySem.W.codeIn K cd_copied "copied" = true)
    (k_copied : PySem.W.keepIn K (.ref f_copied) = true)
    (a_is_number : PySem.W.nsIn K mainGlobals "is_number" = some (some (.ref f_is_number)))
    (l_is_number : K.lookup f_is_number = some ⟨oc_is_number, od_is_number, .func (PySem.W.fnOf "is_number" "is_number" (defArgs s_is_number) (defBody s_is_number) (defScope s_is_number) .none kV_is_number dc_is_number pm_is_number an_is_number cd_is_number ct_is_number), sl_is_number⟩)
    (c_is_number : PySem.W.codeIn K cd_is_number "is_number" = true)
    (k_is_number : PySem.W.keepIn K (.ref f_is_number) = true)
    (a_is_ascending : PySem.W.nsIn K mainGlobals "is_ascending" = some (some (.ref f_is_ascending)))
    (l_is_ascending : K.lookup f_is_ascending = some ⟨oc_is_ascending, od_is_ascending, .func (PySem.W.fnOf "is_ascending" "is_ascending" (defArgs s_is_ascending) (defBody s_is_ascending) (defScope s_is_ascending) .none kV_is_ascending dc_is_ascending pm_is_ascending an_is_ascending cd_is_ascending ct_is_ascending), sl_is_ascending⟩)
    (c_is_ascending : PySem.W.codeIn K cd_is_ascending "is_ascending" = true)
    (k_is_ascending : PySem.W.keepIn K (.ref f_is_ascending) = true)
    (a_is_within : PySem.W.nsIn K mainGlobals "is_within" = some (some (.ref f_is_within)))
    (l_is_within : K.lookup f_is_within = some ⟨oc_is_within, od_is_within, .func (PySem.W.fnOf "is_within" "is_within" (defArgs s_is_within) (defBody s_is_within) (defScope s_is_within) .none kV_is_within dc_is_within pm_is_within an_is_within cd_is_within ct_is_within), sl_is_within⟩)
    (c_is_within : PySem.W.codeIn K cd_is_within "is_within" = true)
    (k_is_within : PySem.W.keepIn K (.ref f_is_within) = true)
    (a_is_set : PySem.W.nsIn K mainGlobals "is_set" = some (some (.ref f_is_set)))
    (l_is_set : K.lookup f_is_set = some ⟨oc_is_set, od_is_set, .func (PySem.W.fnOf "is_set" "is_set" (defArgs s_is_set) (defBody s_is_set) (defScope s_is_set) .none kV_is_set dc_is_set pm_is_set an_is_set cd_is_set ct_is_set), sl_is_set⟩)
    (c_is_set : PySem.W.codeIn K cd_is_set "is_set" = true)
    (k_is_set : PySem.W.keepIn K (.ref f_is_set) = true)
    (a_is_lamps : PySem.W.nsIn K mainGlobals "is_lamps" = some (some (.ref f_is_lamps)))
    (l_is_lamps : K.lookup f_is_lamps = some ⟨oc_is_lamps, od_is_lamps, .func (PySem.W.fnOf "is_lamps" "is_lamps" (defArgs s_is_lamps) (defBody s_is_lamps) (defScope s_is_lamps) .none kV_is_lamps dc_is_lamps pm_is_lamps an_is_lamps cd_is_lamps ct_is_lamps), sl_is_lamps⟩)
    (c_is_lamps : PySem.W.codeIn K cd_is_lamps "is_lamps" = true)
    (k_is_lamps : PySem.W.keepIn K (.ref f_is_lamps) = true)
    (a_check_lamps : PySem.W.nsIn K mainGlobals "check_lamps" = some (some (.ref f_check_lamps)))
    (l_check_lamps : K.lookup f_check_lamps = some ⟨oc_check_lamps, od_check_lamps, .func (PySem.W.fnOf "check_lamps" "check_lamps" (defArgs s_check_lamps) (defBody s_check_lamps) (defScope s_check_lamps) .none kV_check_lamps dc_check_lamps pm_check_lamps an_check_lamps cd_check_lamps ct_check_lamps), sl_check_lamps⟩)
    (c_check_lamps : PySem.W.codeIn K cd_check_lamps "check_lamps" = true)
    (k_check_lamps : PySem.W.keepIn K (.ref f_check_lamps) = true)
    (a_listed_sets : PySem.W.nsIn K mainGlobals "listed_sets" = some (some (.ref f_listed_sets)))
    (l_listed_sets : K.lookup f_listed_sets = some ⟨oc_listed_sets, od_listed_sets, .func (PySem.W.fnOf "listed_sets" "listed_sets" (defArgs s_listed_sets) (defBody s_listed_sets) (defScope s_listed_sets) .none kV_listed_sets dc_listed_sets pm_listed_sets an_listed_sets cd_listed_sets ct_listed_sets), sl_listed_sets⟩)
    (c_listed_sets : PySem.W.codeIn K cd_listed_sets "listed_sets" = true)
    (k_listed_sets : PySem.W.keepIn K (.ref f_listed_sets) = true)
    (a_inner_sentences : PySem.W.nsIn K mainGlobals "inner_sentences" = some (some (.ref f_inner_sentences)))
    (l_inner_sentences : K.lookup f_inner_sentences = some ⟨oc_inner_sentences, od_inner_sentences, .func (PySem.W.fnOf "inner_sentences" "inner_sentences" (defArgs s_inner_sentences) (defBody s_inner_sentences) (defScope s_inner_sentences) .none kV_inner_sentences dc_inner_sentences pm_inner_sentences an_inner_sentences cd_inner_sentences ct_inner_sentences), sl_inner_sentences⟩)
    (c_inner_sentences : PySem.W.codeIn K cd_inner_sentences "inner_sentences" = true)
    (k_inner_sentences : PySem.W.keepIn K (.ref f_inner_sentences) = true)
    (a_next_parts : PySem.W.nsIn K mainGlobals "next_parts" = some (some (.ref f_next_parts)))
    (l_next_parts : K.lookup f_next_parts = some ⟨oc_next_parts, od_next_parts, .func (PySem.W.fnOf "next_parts" "next_parts" (defArgs s_next_parts) (defBody s_next_parts) (defScope s_next_parts) .none kV_next_parts dc_next_parts pm_next_parts an_next_parts cd_next_parts ct_next_parts), sl_next_parts⟩)
    (c_next_parts : PySem.W.codeIn K cd_next_parts "next_parts" = true)
    (k_next_parts : PySem.W.keepIn K (.ref f_next_parts) = true)
    (a_is_count : PySem.W.nsIn K mainGlobals "is_count" = some (some (.ref f_is_count)))
    (l_is_count : K.lookup f_is_count = some ⟨oc_is_count, od_is_count, .func (PySem.W.fnOf "is_count" "is_count" (defArgs s_is_count) (defBody s_is_count) (defScope s_is_count) .none kV_is_count dc_is_count pm_is_count an_is_count cd_is_count ct_is_count), sl_is_count⟩)
    (c_is_count : PySem.W.codeIn K cd_is_count "is_count" = true)
    (k_is_count : PySem.W.keepIn K (.ref f_is_count) = true)
    (a_has_form : PySem.W.nsIn K mainGlobals "has_form" = some (some (.ref f_has_form)))
    (l_has_form : K.lookup f_has_form = some ⟨oc_has_form, od_has_form, .func (PySem.W.fnOf "has_form" "has_form" (defArgs s_has_form) (defBody s_has_form) (defScope s_has_form) .none kV_has_form dc_has_form pm_has_form an_has_form cd_has_form ct_has_form), sl_has_form⟩)
    (c_has_form : PySem.W.codeIn K cd_has_form "has_form" = true)
    (k_has_form : PySem.W.keepIn K (.ref f_has_form) = true)
    (a_check_sentence : PySem.W.nsIn K mainGlobals "check_sentence" = some (some (.ref f_check_sentence)))
    (l_check_sentence : K.lookup f_check_sentence = some ⟨oc_check_sentence, od_check_sentence, .func (PySem.W.fnOf "check_sentence" "check_sentence" (defArgs s_check_sentence) (defBody s_check_sentence) (defScope s_check_sentence) .none kV_check_sentence dc_check_sentence pm_check_sentence an_check_sentence cd_check_sentence ct_check_sentence), sl_check_sentence⟩)
    (c_check_sentence : PySem.W.codeIn K cd_check_sentence "check_sentence" = true)
    (k_check_sentence : PySem.W.keepIn K (.ref f_check_sentence) = true)
    (a_sentence_holds : PySem.W.nsIn K mainGlobals "sentence_holds" = some (some (.ref f_sentence_holds)))
    (l_sentence_holds : K.lookup f_sentence_holds = some ⟨oc_sentence_holds, od_sentence_holds, .func (PySem.W.fnOf "sentence_holds" "sentence_holds" (defArgs s_sentence_holds) (defBody s_sentence_holds) (defScope s_sentence_holds) .none kV_sentence_holds dc_sentence_holds pm_sentence_holds an_sentence_holds cd_sentence_holds ct_sentence_holds), sl_sentence_holds⟩)
    (c_sentence_holds : PySem.W.codeIn K cd_sentence_holds "sentence_holds" = true)
    (k_sentence_holds : PySem.W.keepIn K (.ref f_sentence_holds) = true)
    (a_M_Goal_init_c : PySem.W.nsIn K mainGlobals "Goal" = some (some (.ref C_Goal)))
    (a_M_Goal_init : PySem.W.findIn K (.ref C_Goal) "__init__" = some (some (.ref f_M_Goal_init)))
    (i_M_Goal_init : PySem.W.isFn K (.ref f_M_Goal_init) = true)
    (l_M_Goal_init : K.lookup f_M_Goal_init = some ⟨oc_M_Goal_init, od_M_Goal_init, .func (PySem.W.fnOf "__init__" "Goal.__init__" (defArgs s_M_Goal_init) (defBody s_M_Goal_init) (defScope s_M_Goal_init) .none kV_M_Goal_init dc_M_Goal_init pm_M_Goal_init an_M_Goal_init cd_M_Goal_init ct_M_Goal_init), sl_M_Goal_init⟩)
    (c_M_Goal_init : PySem.W.codeIn K cd_M_Goal_init "Goal.__init__" = true)
    (k_M_Goal_init : PySem.W.keepIn K (.ref f_M_Goal_init) = true)
    (a_M_Goal_lamps : PySem.W.findIn K (.ref C_Goal) "lamps" = some (some (.ref p_M_Goal_lamps)))
    (b_M_Goal_lamps : PySem.W.specialIn K (.ref p_M_Goal_lamps) "__get__" = some (some (.builtin "property.__get__")))
    (e_M_Goal_lamps : PySem.W.takesIn K (.ref p_M_Goal_lamps) = some true)
    (g_M_Goal_lamps : PySem.W.recIn K p_M_Goal_lamps "property" = some (.ref f_M_Goal_lamps :: r_M_Goal_lamps))
    (l_M_Goal_lamps : K.lookup f_M_Goal_lamps = some ⟨oc_M_Goal_lamps, od_M_Goal_lamps, .func (PySem.W.fnOf "lamps" "Goal.lamps" (defArgs s_M_Goal_lamps) (defBody s_M_Goal_lamps) (defScope s_M_Goal_lamps) .none kV_M_Goal_lamps dc_M_Goal_lamps pm_M_Goal_lamps an_M_Goal_lamps cd_M_Goal_lamps ct_M_Goal_lamps), sl_M_Goal_lamps⟩)
    (c_M_Goal_lamps : PySem.W.codeIn K cd_M_Goal_lamps "Goal.lamps" = true)
    (k_M_Goal_lamps : PySem.W.keepIn K (.ref f_M_Goal_lamps) = true)
    (a_M_Goal_sentence : PySem.W.findIn K (.ref C_Goal) "sentence" = some (some (.ref p_M_Goal_sentence)))
    (b_M_Goal_sentence : PySem.W.specialIn K (.ref p_M_Goal_sentence) "__get__" = some (some (.builtin "property.__get__")))
    (e_M_Goal_sentence : PySem.W.takesIn K (.ref p_M_Goal_sentence) = some true)
    (g_M_Goal_sentence : PySem.W.recIn K p_M_Goal_sentence "property" = some (.ref f_M_Goal_sentence :: r_M_Goal_sentence))
    (l_M_Goal_sentence : K.lookup f_M_Goal_sentence = some ⟨oc_M_Goal_sentence, od_M_Goal_sentence, .func (PySem.W.fnOf "sentence" "Goal.sentence" (defArgs s_M_Goal_sentence) (defBody s_M_Goal_sentence) (defScope s_M_Goal_sentence) .none kV_M_Goal_sentence dc_M_Goal_sentence pm_M_Goal_sentence an_M_Goal_sentence cd_M_Goal_sentence ct_M_Goal_sentence), sl_M_Goal_sentence⟩)
    (c_M_Goal_sentence : PySem.W.codeIn K cd_M_Goal_sentence "Goal.sentence" = true)
    (k_M_Goal_sentence : PySem.W.keepIn K (.ref f_M_Goal_sentence) = true)
    (a_M_Goal_sets : PySem.W.findIn K (.ref C_Goal) "sets" = some (some (.ref f_M_Goal_sets)))
    (i_M_Goal_sets : PySem.W.isFn K (.ref f_M_Goal_sets) = true)
    (l_M_Goal_sets : K.lookup f_M_Goal_sets = some ⟨oc_M_Goal_sets, od_M_Goal_sets, .func (PySem.W.fnOf "sets" "Goal.sets" (defArgs s_M_Goal_sets) (defBody s_M_Goal_sets) (defScope s_M_Goal_sets) .none kV_M_Goal_sets dc_M_Goal_sets pm_M_Goal_sets an_M_Goal_sets cd_M_Goal_sets ct_M_Goal_sets), sl_M_Goal_sets⟩)
    (c_M_Goal_sets : PySem.W.codeIn K cd_M_Goal_sets "Goal.sets" = true)
    (k_M_Goal_sets : PySem.W.keepIn K (.ref f_M_Goal_sets) = true)
    (a_M_Goal_holds_for : PySem.W.findIn K (.ref C_Goal) "holds_for" = some (some (.ref f_M_Goal_holds_for)))
    (i_M_Goal_holds_for : PySem.W.isFn K (.ref f_M_Goal_holds_for) = true)
    (l_M_Goal_holds_for : K.lookup f_M_Goal_holds_for = some ⟨oc_M_Goal_holds_for, od_M_Goal_holds_for, .func (PySem.W.fnOf "holds_for" "Goal.holds_for" (defArgs s_M_Goal_holds_for) (defBody s_M_Goal_holds_for) (defScope s_M_Goal_holds_for) .none kV_M_Goal_holds_for dc_M_Goal_holds_for pm_M_Goal_holds_for an_M_Goal_holds_for cd_M_Goal_holds_for ct_M_Goal_holds_for), sl_M_Goal_holds_for⟩)
    (c_M_Goal_holds_for : PySem.W.codeIn K cd_M_Goal_holds_for "Goal.holds_for" = true)
    (k_M_Goal_holds_for : PySem.W.keepIn K (.ref f_M_Goal_holds_for) = true)
    (a_M_Goal_call : PySem.W.findIn K (.ref C_Goal) "__call__" = some (some (.ref f_M_Goal_call)))
    (i_M_Goal_call : PySem.W.isFn K (.ref f_M_Goal_call) = true)
    (l_M_Goal_call : K.lookup f_M_Goal_call = some ⟨oc_M_Goal_call, od_M_Goal_call, .func (PySem.W.fnOf "__call__" "Goal.__call__" (defArgs s_M_Goal_call) (defBody s_M_Goal_call) (defScope s_M_Goal_call) .none kV_M_Goal_call dc_M_Goal_call pm_M_Goal_call an_M_Goal_call cd_M_Goal_call ct_M_Goal_call), sl_M_Goal_call⟩)
    (c_M_Goal_call : PySem.W.codeIn K cd_M_Goal_call "Goal.__call__" = true)
    (k_M_Goal_call : PySem.W.keepIn K (.ref f_M_Goal_call) = true)
    (a_M_Goal_contains : PySem.W.findIn K (.ref C_Goal) "__contains__" = some (some (.ref f_M_Goal_contains)))
    (i_M_Goal_contains : PySem.W.isFn K (.ref f_M_Goal_contains) = true)
    (l_M_Goal_contains : K.lookup f_M_Goal_contains = some ⟨oc_M_Goal_contains, od_M_Goal_contains, .func (PySem.W.fnOf "__contains__" "Goal.__contains__" (defArgs s_M_Goal_contains) (defBody s_M_Goal_contains) (defScope s_M_Goal_contains) .none kV_M_Goal_contains dc_M_Goal_contains pm_M_Goal_contains an_M_Goal_contains cd_M_Goal_contains ct_M_Goal_contains), sl_M_Goal_contains⟩)
    (c_M_Goal_contains : PySem.W.codeIn K cd_M_Goal_contains "Goal.__contains__" = true)
    (k_M_Goal_contains : PySem.W.keepIn K (.ref f_M_Goal_contains) = true)
    (a_M_Goal_len : PySem.W.findIn K (.ref C_Goal) "__len__" = some (some (.ref f_M_Goal_len)))
    (i_M_Goal_len : PySem.W.isFn K (.ref f_M_Goal_len) = true)
    (l_M_Goal_len : K.lookup f_M_Goal_len = some ⟨oc_M_Goal_len, od_M_Goal_len, .func (PySem.W.fnOf "__len__" "Goal.__len__" (defArgs s_M_Goal_len) (defBody s_M_Goal_len) (defScope s_M_Goal_len) .none kV_M_Goal_len dc_M_Goal_len pm_M_Goal_len an_M_Goal_len cd_M_Goal_len ct_M_Goal_len), sl_M_Goal_len⟩)
    (c_M_Goal_len : PySem.W.codeIn K cd_M_Goal_len "Goal.__len__" = true)
    (k_M_Goal_len : PySem.W.keepIn K (.ref f_M_Goal_len) = true)
    (a_M_Goal_repr : PySem.W.findIn K (.ref C_Goal) "__repr__" = some (some (.ref f_M_Goal_repr)))
    (i_M_Goal_repr : PySem.W.isFn K (.ref f_M_Goal_repr) = true)
    (l_M_Goal_repr : K.lookup f_M_Goal_repr = some ⟨oc_M_Goal_repr, od_M_Goal_repr, .func (PySem.W.fnOf "__repr__" "Goal.__repr__" (defArgs s_M_Goal_repr) (defBody s_M_Goal_repr) (defScope s_M_Goal_repr) .none kV_M_Goal_repr dc_M_Goal_repr pm_M_Goal_repr an_M_Goal_repr cd_M_Goal_repr ct_M_Goal_repr), sl_M_Goal_repr⟩)
    (c_M_Goal_repr : PySem.W.codeIn K cd_M_Goal_repr "Goal.__repr__" = true)
    (k_M_Goal_repr : PySem.W.keepIn K (.ref f_M_Goal_repr) = true)
    (a_l_of : PySem.W.nsIn K mainGlobals "_law_of" = some (some (.ref f_l_of)))
    (l_l_of : K.lookup f_l_of = some ⟨oc_l_of, od_l_of, .func (PySem.W.fnOf "_law_of" "_law_of" (defArgs s_l_of) (defBody s_l_of) (defScope s_l_of) .none kV_l_of dc_l_of pm_l_of an_l_of cd_l_of ct_l_of), sl_l_of⟩)
    (c_l_of : PySem.W.codeIn K cd_l_of "_law_of" = true)
    (k_l_of : PySem.W.keepIn K (.ref f_l_of) = true)
    (a_l_same : PySem.W.nsIn K mainGlobals "_law_same" = some (some (.ref f_l_same)))
    (l_l_same : K.lookup f_l_same = some ⟨oc_l_same, od_l_same, .func (PySem.W.fnOf "_law_same" "_law_same" (defArgs s_l_same) (defBody s_l_same) (defScope s_l_same) .none kV_l_same dc_l_same pm_l_same an_l_same cd_l_same ct_l_same), sl_l_same⟩)
    (c_l_same : PySem.W.codeIn K cd_l_same "_law_same" = true)
    (k_l_same : PySem.W.keepIn K (.ref f_l_same) = true)
    (a_l_sets : PySem.W.nsIn K mainGlobals "_law_sets" = some (some (.ref f_l_sets)))
    (l_l_sets : K.lookup f_l_sets = some ⟨oc_l_sets, od_l_sets, .func (PySem.W.fnOf "_law_sets" "_law_sets" (defArgs s_l_sets) (defBody s_l_sets) (defScope s_l_sets) .none kV_l_sets dc_l_sets pm_l_sets an_l_sets (.ref cdt) ct_l_sets), sl_l_sets⟩)
    (c_l_sets : PySem.W.codeIn K (.ref cdt) "_law_sets" = true)
    (k_l_sets : PySem.W.keepIn K (.ref f_l_sets) = true)
    (a_l_lamps : PySem.W.nsIn K mainGlobals "_law_lamps" = some (some (.ref f_l_lamps)))
    (l_l_lamps : K.lookup f_l_lamps = some ⟨oc_l_lamps, od_l_lamps, .func (PySem.W.fnOf "_law_lamps" "_law_lamps" (defArgs s_l_lamps) (defBody s_l_lamps) (defScope s_l_lamps) .none kV_l_lamps dc_l_lamps pm_l_lamps an_l_lamps cd_l_lamps ct_l_lamps), sl_l_lamps⟩)
    (c_l_lamps : PySem.W.codeIn K cd_l_lamps "_law_lamps" = true)
    (k_l_lamps : PySem.W.keepIn K (.ref f_l_lamps) = true)
    (a_l_lits : PySem.W.nsIn K mainGlobals "_law_lits" = some (some (.ref f_l_lits)))
    (l_l_lits : K.lookup f_l_lits = some ⟨oc_l_lits, od_l_lits, .func (PySem.W.fnOf "_law_lits" "_law_lits" (defArgs s_l_lits) (defBody s_l_lits) (defScope s_l_lits) .none kV_l_lits dc_l_lits pm_l_lits an_l_lits cd_l_lits ct_l_lits), sl_l_lits⟩)
    (c_l_lits : PySem.W.codeIn K cd_l_lits "_law_lits" = true)
    (k_l_lits : PySem.W.keepIn K (.ref f_l_lits) = true)
    (a_l_sentence : PySem.W.nsIn K mainGlobals "_law_sentence" = some (some (.ref f_l_sentence)))
    (l_l_sentence : K.lookup f_l_sentence = some ⟨oc_l_sentence, od_l_sentence, .func (PySem.W.fnOf "_law_sentence" "_law_sentence" (defArgs s_l_sentence) (defBody s_l_sentence) (defScope s_l_sentence) .none kV_l_sentence dc_l_sentence pm_l_sentence an_l_sentence cd_l_sentence ct_l_sentence), sl_l_sentence⟩)
    (c_l_sentence : PySem.W.codeIn K cd_l_sentence "_law_sentence" = true)
    (k_l_sentence : PySem.W.keepIn K (.ref f_l_sentence) = true)
    (a_l_holds : PySem.W.nsIn K mainGlobals "_law_holds" = some (some (.ref f_l_holds)))
    (l_l_holds : K.lookup f_l_holds = some ⟨oc_l_holds, od_l_holds, .func (PySem.W.fnOf "_law_holds" "_law_holds" (defArgs s_l_holds) (defBody s_l_holds) (defScope s_l_holds) .none kV_l_holds dc_l_holds pm_l_holds an_l_holds cd_l_holds ct_l_holds), sl_l_holds⟩)
    (c_l_holds : PySem.W.codeIn K cd_l_holds "_law_holds" = true)
    (k_l_holds : PySem.W.keepIn K (.ref f_l_holds) = true)
    (a_l_aim : PySem.W.nsIn K mainGlobals "_law_aim" = some (some (.ref f_l_aim)))
    (l_l_aim : K.lookup f_l_aim = some ⟨oc_l_aim, od_l_aim, .func (PySem.W.fnOf "_law_aim" "_law_aim" (defArgs s_l_aim) (defBody s_l_aim) (defScope s_l_aim) .none kV_l_aim dc_l_aim pm_l_aim an_l_aim cd_l_aim ct_l_aim), sl_l_aim⟩)
    (c_l_aim : PySem.W.codeIn K cd_l_aim "_law_aim" = true)
    (k_l_aim : PySem.W.keepIn K (.ref f_l_aim) = true)
    (a_law : PySem.W.nsIn K mainGlobals "law" = some (some (.ref f_law)))
    (l_law : K.lookup f_law = some ⟨oc_law, od_law, .func (PySem.W.fnOf "law" "law" (defArgs s_law) (defBody s_law) (defScope s_law) .none kV_law dc_law pm_law an_law (.ref cdl) ct_law), sl_law⟩)
    (c_law : PySem.W.codeIn K (.ref cdl) "law" = true)
    (k_law : PySem.W.keepIn K (.ref f_law) = true)
    (ea1_InvalidSet : PySem.W.nsIn K mainGlobals "InvalidSet" = some (some (.ref C_InvalidSet)))
    (ea2_InvalidSet : K.lookup C_InvalidSet = some (excClassObj nm_InvalidSet q_InvalidSet C_InvalidSet Nn_InvalidSet bs_InvalidSet bm_InvalidSet true sn_InvalidSet sub_InvalidSet ab_InvalidSet col_InvalidSet dd_InvalidSet k0_InvalidSet k1_InvalidSet k2_InvalidSet k3_InvalidSet k5_InvalidSet "ValueError.__new__"))
    (ea3_InvalidSet : PySem.HandSPX.refsVE bm_InvalidSet = true)
    (ea4_InvalidSet : PySem.W.findIn K (.ref C_InvalidSet) "__setattr__" = some (some (.builtin "object.__setattr__")))
    (ea5_InvalidSet : PySem.W.subIn K (.ref C_InvalidSet) (.type "BaseException") = some true)
    (ea6_InvalidSet : PySem.W.typeIn K (.ref C_InvalidSet) = some (.type "type"))
    (ea7_InvalidSet : PySem.W.keepIn K (.ref C_InvalidSet) = true)
    (ea8_InvalidSet : PySem.W.findIn K (.ref C_InvalidSet) "__init__" = some (some (.ref a_InvalidSet)))
    (ea9_InvalidSet : K.lookup a_InvalidSet = some ⟨oc_InvalidSet, od_InvalidSet, .func (PySem.W.ksFn nm2_InvalidSet "InvalidSet.__init__" (defArgs s_M_InvalidSet_init) (defBody s_M_InvalidSet_init) (defScope s_M_InvalidSet_init) .none kV_InvalidSet doc_InvalidSet pm_InvalidSet an_InvalidSet (.ref cda_InvalidSet) ct_InvalidSet cc_InvalidSet), osl_InvalidSet⟩)
    (eb1_InvalidSet : PySem.W.codeIn K (.ref cda_InvalidSet) "InvalidSet.__init__" = true)
    (eb2_InvalidSet : K.lookup cda_InvalidSet = some ⟨ccl_InvalidSet, cdd_InvalidSet, .fields vs_InvalidSet, ccs_InvalidSet⟩)
    (eb3_InvalidSet : vs_InvalidSet[2]? = some (.str file_InvalidSet tf_InvalidSet))
    (eb4_InvalidSet : ((P.main.file : Str) == file_InvalidSet) = true)
    (eb5_InvalidSet : K.lookup cc_InvalidSet = some ⟨cl_InvalidSet, cld_InvalidSet, .cell (some (.ref C_InvalidSet)), csl_InvalidSet⟩)
    (eb6_InvalidSet : PySem.W.clsIn K C_InvalidSet = some cdD_InvalidSet)
    (eb7_InvalidSet : PySem.W.mroIn K C_InvalidSet (.ref C_InvalidSet) = some true)
    (eb8_InvalidSet : PySem.W.ks_superIn K C_InvalidSet C_InvalidSet "__init__" = some (some (.builtin "ValueError.__init__")))
    (eb9_InvalidSet : PySem.W.nsIn K cStatics "thirdparty.any" = some none)
    (ec1_InvalidSet : PySem.W.subIn K (.ref C_InvalidSet) (.type "ValueError") = some true)
    (ec2_InvalidSet : (P.main.scope.names.lookup ("super" : Str)).isSome = false)
    (ec3_InvalidSet : PySem.W.typeIn K (.ref a_InvalidSet) = some (.type "function"))
    (ed1_InvalidSet : PySem.W.findIn K (.ref C_InvalidSet) "__getattribute__" = some (some (.builtin "BaseException.__getattribute__")))
    (ed2_InvalidSet : PySem.W.findIn K (.ref C_InvalidSet) "__getattr__" = some none)
    (ed3_InvalidSet : PySem.W.hasDictIn K C_InvalidSet = true)
    (en_tag_InvalidSet : PySem.W.findIn K (.ref C_InvalidSet) "tag" = some none)
    (en_given_InvalidSet : PySem.W.findIn K (.ref C_InvalidSet) "given" = some none)
    (en_index_InvalidSet : PySem.W.findIn K (.ref C_InvalidSet) "index" = some none)
    (en_name_InvalidSet : PySem.W.findIn K (.ref C_InvalidSet) "name" = some none)
    (en_most_InvalidSet : PySem.W.findIn K (.ref C_InvalidSet) "most" = some none)
    (en_limit_InvalidSet : PySem.W.findIn K (.ref C_InvalidSet) "limit" = some none)
    (en_part_InvalidSet : PySem.W.findIn K (.ref C_InvalidSet) "part" = some none)
    (en_table_InvalidSet : PySem.W.findIn K (.ref C_InvalidSet) "table" = some none)
    (en_room_InvalidSet : PySem.W.findIn K (.ref C_InvalidSet) "room" = some none)
    (en_origin_InvalidSet : PySem.W.findIn K (.ref C_InvalidSet) "origin" = some none)
    (en_many_InvalidSet : PySem.W.findIn K (.ref C_InvalidSet) "many" = some none)
    (en_word_InvalidSet : PySem.W.findIn K (.ref C_InvalidSet) "word" = some none)
    (en_line_InvalidSet : PySem.W.findIn K (.ref C_InvalidSet) "line" = some none)
    (z_len : PySem.W.nsIn K mainGlobals "len" = some none)
    (z_all : PySem.W.nsIn K mainGlobals "all" = some none)
    (z_any : PySem.W.nsIn K mainGlobals "any" = some none)
    (z_range : PySem.W.nsIn K mainGlobals "range" = some none)
    (z_isinstance : PySem.W.nsIn K mainGlobals "isinstance" = some none)
    (z_str : PySem.W.nsIn K mainGlobals "str" = some none)
    (z_int : PySem.W.nsIn K mainGlobals "int" = some none)
    (z_bool : PySem.W.nsIn K mainGlobals "bool" = some none)
    (z_list : PySem.W.nsIn K mainGlobals "list" = some none)
    (z_tuple : PySem.W.nsIn K mainGlobals "tuple" = some none)
    (z_abs : PySem.W.nsIn K mainGlobals "abs" = some none)
    (z_zip : PySem.W.nsIn K mainGlobals "zip" = some none)
    (z_super : PySem.W.nsIn K mainGlobals "super" = some none)
    (z_sorted : PySem.W.nsIn K mainGlobals "sorted" = some none)
    (z_repr : PySem.W.nsIn K mainGlobals "repr" = some none)
    (q_LETTERS : PySem.W.nsIn K mainGlobals "LETTERS" = some (some (.str "abcdefghijklmnopqrstuvwxyz" tk_LETTERS)))
    (q_MOST_LAMPS : PySem.W.nsIn K mainGlobals "MOST_LAMPS" = some (some (.int 4 tk_MOST_LAMPS)))
    (q_MOST_PARTS : PySem.W.nsIn K mainGlobals "MOST_PARTS" = some (some (.int 20 tk_MOST_PARTS)))
    (q_MOST_COUNT : PySem.W.nsIn K mainGlobals "MOST_COUNT" = some (some (.int 4 tk_MOST_COUNT)))
    (q_MOST_LISTED : PySem.W.nsIn K mainGlobals "MOST_LISTED" = some (some (.int 16 tk_MOST_LISTED)))
    (q_FEWEST_JOINED : PySem.W.nsIn K mainGlobals "FEWEST_JOINED" = some (some (.int 2 tk_FEWEST_JOINED)))
    (q_MOST_JOINED : PySem.W.nsIn K mainGlobals "MOST_JOINED" = some (some (.int 4 tk_MOST_JOINED)))
    (q_JOINING_WORDS : PySem.W.nsIn K mainGlobals "JOINING_WORDS" = some (some (.ref ka_JOINING_WORDS)))
    (kl_JOINING_WORDS : K.lookup ka_JOINING_WORDS = some ⟨.type "tuple", kd_JOINING_WORDS, .seq #[.str "and" t0_JOINING_WORDS, .str "or" t1_JOINING_WORDS] kn_JOINING_WORDS, ks_JOINING_WORDS⟩)
    (p1_Goal : PySem.W.plainGet K C_Goal Str.empty = true)
    (p2_Goal : PySem.W.hasDictIn K C_Goal = true)
    (p3_Goal : PySem.W.plainOver K C_Goal = true)
    (p4_Goal : PySem.W.findIn K (.ref C_Goal) "__setattr__" = some (some (.builtin "object.__setattr__")))
    (mk_Goal : PySem.W.makesIn K C_Goal = true)
    (ck_Goal : PySem.W.keepIn K (.ref C_Goal) = true)
    (na_Goal_letters : PySem.W.findIn K (.ref C_Goal) "letters" = some none)
    (na_Goal_wording : PySem.W.findIn K (.ref C_Goal) "wording" = some none)
    (na_Goal_held : PySem.W.findIn K (.ref C_Goal) "held" = some none)
    (nn_GoalError : PySem.W.nsIn K mainGlobals "GoalError" = some (some (.ref N_GoalError)))
    (nn_UnknownName : PySem.W.nsIn K mainGlobals "UnknownName" = some (some (.ref N_UnknownName)))
    (nn_NothingLeft : PySem.W.nsIn K mainGlobals "NothingLeft" = some (some (.ref N_NothingLeft)))
    (exm_InvalidSet : PySem.W.exmAny K (.ref C_InvalidSet) [.ref N_GoalError, .ref N_UnknownName, .ref N_NothingLeft] = some true)
    (lw1 : K.lookup cdl = some ⟨.type "code", cdd_lw, .fields vs_lw, sl_lw⟩)
    (lw2 : vs_lw[11]? = some (.ref tbl))
    (lw3 : vs_lw.getD 18 .none = .str file_lw tf_lw)
    (lw4 : vs_lw.getD 7 .none = .int flags_lw tg_lw)
    (lw5 : vs_lw.getD 9 .none = .bool inF_lw)
    (lw6 : vs_lw.getD 10 .none = .int text_lw tt_lw)
    (lw7 : cdl ≠ tbl)
    (lw8 : K.lookup tbl = none)
    (lt1 : K.lookup cdt = some ⟨.type "code", cdd_lt, .fields vs_lt, sl_lt⟩)
    (lt2 : vs_lt[11]? = some (.ref tbt))
    (lt3 : vs_lt.getD 18 .none = .str file_lt tf_lt)
    (lt4 : vs_lt.getD 7 .none = .int flags_lt tg_lt)
    (lt5 : vs_lt.getD 9 .none = .bool inF_lt)
    (lt6 : vs_lt.getD 10 .none = .int text_lt tt_lt)
    (lt7 : cdt ≠ tbt)
    (lt8 : K.lookup tbt = none)
    (lt9 : tbl ≠ tbt) : Top P K mg :=
  { a_l_bag := f_l_bag,
     fd_l_bag := _,
     F_l_bag := fun_mk (st := s_l_bag) l_l_bag c_l_bag k_l_bag,
     g_l_bag := PySem.W.mg_of X G a_l_bag,
     a_l_pull := f_l_pull,
     fd_l_pull := _,
     F_l_pull := fun_mk (st := s_l_pull) l_l_pull c_l_pull k_l_pull,
     g_l_pull := PySem.W.mg_of X G a_l_pull,
     a_l_part_of := f_l_part_of,
     fd_l_part_of := _,
     F_l_part_of := fun_mk (st := s_l_part_of) l_l_part_of c_l_part_of k_l_part_of,
     g_l_part_of := PySem.W.mg_of X G a_l_part_of,
     a_l_last_field := f_l_last_field,
     fd_l_last_field := _,
     F_l_last_field := fun_mk (st := s_l_last_field) l_l_last_field c_l_last_field k_l_last_field,
     g_l_last_field := PySem.W.mg_of X G a_l_last_field,
     a_l_field := f_l_field,
     fd_l_field := _,
     F_l_field := fun_mk (st := s_l_field) l_l_field c_l_field k_l_field,
     g_l_field := PySem.W.mg_of X G a_l_field,
     a_l_why := f_l_why,
     fd_l_why := _,
     F_l_why := fun_mk (st := s_l_why) l_l_why c_l_why k_l_why,
     g_l_why := PySem.W.mg_of X G a_l_why,
     a_l_whys := f_l_whys,
     fd_l_whys := _,
     F_l_whys := fun_mk (st := s_l_whys) l_l_whys c_l_whys k_l_whys,
     g_l_whys := PySem.W.mg_of X G a_l_whys,
     a_copied := f_copied,
     fd_copied := _,
     F_copied := fun_mk (st := s_copied) l_copied c_copied k_copied,
     g_copied := PySem.W.mg_of X G a_copied,
     a_is_number := f_is_number,
     fd_is_number := _,
     F_is_number := fun_mk (st := s_is_number) l_is_number c_is_number k_is_number,
     g_is_number := PySem.W.mg_of X G a_is_number,
     a_is_ascending := f_is_ascending,
     fd_is_ascending := _,
     F_is_ascending := fun_mk (st := s_is_ascending) l_is_ascending c_is_ascending k_is_ascending,
     g_is_ascending := PySem.W.mg_of X G a_is_ascending,
     a_is_within := f_is_within,
     fd_is_within := _,
     F_is_within := fun_mk (st := s_is_within) l_is_within c_is_within k_is_within,
     g_is_within := PySem.W.mg_of X G a_is_within,
     a_is_set := f_is_set,
     fd_is_set := _,
     F_is_set := fun_mk (st := s_is_set) l_is_set c_is_set k_is_set,
     g_is_set := PySem.W.mg_of X G a_is_set,
     a_is_lamps := f_is_lamps,
     fd_is_lamps := _,
     F_is_lamps := fun_mk (st := s_is_lamps) l_is_lamps c_is_lamps k_is_lamps,
     g_is_lamps := PySem.W.mg_of X G a_is_lamps,
     a_check_lamps := f_check_lamps,
     fd_check_lamps := _,
     F_check_lamps := fun_mk (st := s_check_lamps) l_check_lamps c_check_lamps k_check_lamps,
     g_check_lamps := PySem.W.mg_of X G a_check_lamps,
     a_listed_sets := f_listed_sets,
     fd_listed_sets := _,
     F_listed_sets := fun_mk (st := s_listed_sets) l_listed_sets c_listed_sets k_listed_sets,
     g_listed_sets := PySem.W.mg_of X G a_listed_sets,
     a_inner_sentences := f_inner_sentences,
     fd_inner_sentences := _,
     F_inner_sentences := fun_mk (st := s_inner_sentences) l_inner_sentences c_inner_sentences k_inner_sentences,
     g_inner_sentences := PySem.W.mg_of X G a_inner_sentences,
     a_next_parts := f_next_parts,
     fd_next_parts := _,
     F_next_parts := fun_mk (st := s_next_parts) l_next_parts c_next_parts k_next_parts,
     g_next_parts := PySem.W.mg_of X G a_next_parts,
     a_is_count := f_is_count,
     fd_is_count := _,
     F_is_count := fun_mk (st := s_is_count) l_is_count c_is_count k_is_count,
     g_is_count := PySem.W.mg_of X G a_is_count,
     a_has_form := f_has_form,
     fd_has_form := _,
     F_has_form := fun_mk (st := s_has_form) l_has_form c_has_form k_has_form,
     g_has_form := PySem.W.mg_of X G a_has_form,
     a_check_sentence := f_check_sentence,
     fd_check_sentence := _,
     F_check_sentence := fun_mk (st := s_check_sentence) l_check_sentence c_check_sentence k_check_sentence,
     g_check_sentence := PySem.W.mg_of X G a_check_sentence,
     a_sentence_holds := f_sentence_holds,
     fd_sentence_holds := _,
     F_sentence_holds := fun_mk (st := s_sentence_holds) l_sentence_holds c_sentence_holds k_sentence_holds,
     g_sentence_holds := PySem.W.mg_of X G a_sentence_holds,
     a_M_Goal_init := f_M_Goal_init,
     fd_M_Goal_init := _,
     F_M_Goal_init := fun_mk (st := s_M_Goal_init) l_M_Goal_init c_M_Goal_init k_M_Goal_init,
     a_M_Goal_lamps := f_M_Goal_lamps,
     fd_M_Goal_lamps := _,
     F_M_Goal_lamps := fun_mk (st := s_M_Goal_lamps) l_M_Goal_lamps c_M_Goal_lamps k_M_Goal_lamps,
     a_M_Goal_sentence := f_M_Goal_sentence,
     fd_M_Goal_sentence := _,
     F_M_Goal_sentence := fun_mk (st := s_M_Goal_sentence) l_M_Goal_sentence c_M_Goal_sentence k_M_Goal_sentence,
     a_M_Goal_sets := f_M_Goal_sets,
     fd_M_Goal_sets := _,
     F_M_Goal_sets := fun_mk (st := s_M_Goal_sets) l_M_Goal_sets c_M_Goal_sets k_M_Goal_sets,
     a_M_Goal_holds_for := f_M_Goal_holds_for,
     fd_M_Goal_holds_for := _,
     F_M_Goal_holds_for := fun_mk (st := s_M_Goal_holds_for) l_M_Goal_holds_for c_M_Goal_holds_for k_M_Goal_holds_for,
     a_M_Goal_call := f_M_Goal_call,
     fd_M_Goal_call := _,
     F_M_Goal_call := fun_mk (st := s_M_Goal_call) l_M_Goal_call c_M_Goal_call k_M_Goal_call,
     a_M_Goal_contains := f_M_Goal_contains,
     fd_M_Goal_contains := _,
     F_M_Goal_contains := fun_mk (st := s_M_Goal_contains) l_M_Goal_contains c_M_Goal_contains k_M_Goal_contains,
     a_M_Goal_len := f_M_Goal_len,
     fd_M_Goal_len := _,
     F_M_Goal_len := fun_mk (st := s_M_Goal_len) l_M_Goal_len c_M_Goal_len k_M_Goal_len,
     a_M_Goal_repr := f_M_Goal_repr,
     fd_M_Goal_repr := _,
     F_M_Goal_repr := fun_mk (st := s_M_Goal_repr) l_M_Goal_repr c_M_Goal_repr k_M_Goal_repr,
     a_l_of := f_l_of,
     fd_l_of := _,
     F_l_of := fun_mk (st := s_l_of) l_l_of c_l_of k_l_of,
     g_l_of := PySem.W.mg_of X G a_l_of,
     a_l_same := f_l_same,
     fd_l_same := _,
     F_l_same := fun_mk (st := s_l_same) l_l_same c_l_same k_l_same,
     g_l_same := PySem.W.mg_of X G a_l_same,
     a_l_sets := f_l_sets,
     fd_l_sets := _,
     F_l_sets := fun_mk (st := s_l_sets) l_l_sets c_l_sets k_l_sets,
     g_l_sets := PySem.W.mg_of X G a_l_sets,
     a_l_lamps := f_l_lamps,
     fd_l_lamps := _,
     F_l_lamps := fun_mk (st := s_l_lamps) l_l_lamps c_l_lamps k_l_lamps,
     g_l_lamps := PySem.W.mg_of X G a_l_lamps,
     a_l_lits := f_l_lits,
     fd_l_lits := _,
     F_l_lits := fun_mk (st := s_l_lits) l_l_lits c_l_lits k_l_lits,
     g_l_lits := PySem.W.mg_of X G a_l_lits,
     a_l_sentence := f_l_sentence,
     fd_l_sentence := _,
     F_l_sentence := fun_mk (st := s_l_sentence) l_l_sentence c_l_sentence k_l_sentence,
     g_l_sentence := PySem.W.mg_of X G a_l_sentence,
     a_l_holds := f_l_holds,
     fd_l_holds := _,
     F_l_holds := fun_mk (st := s_l_holds) l_l_holds c_l_holds k_l_holds,
     g_l_holds := PySem.W.mg_of X G a_l_holds,
     a_l_aim := f_l_aim,
     fd_l_aim := _,
     F_l_aim := fun_mk (st := s_l_aim) l_l_aim c_l_aim k_l_aim,
     g_l_aim := PySem.W.mg_of X G a_l_aim,
     a_law := f_law,
     fd_law := _,
     F_law := fun_mk (st := s_law) l_law c_law k_law,
     g_law := PySem.W.mg_of X G a_law,
     C_InvalidSet := C_InvalidSet,
     c_InvalidSet := PySem.W.mg_of X G ea1_InvalidSet,
     a_InvalidSet := a_InvalidSet,
     fd_InvalidSet := (PySem.W.ksFn nm2_InvalidSet "InvalidSet.__init__" (defArgs s_M_InvalidSet_init) (defBody s_M_InvalidSet_init) (defScope s_M_InvalidSet_init) .none kV_InvalidSet doc_InvalidSet pm_InvalidSet an_InvalidSet (.ref cda_InvalidSet) ct_InvalidSet cc_InvalidSet),
     cda_InvalidSet := cda_InvalidSet,
     cc_InvalidSet := cc_InvalidSet,
     er_InvalidSet := ⟨⟨⟨_, _, _, _, _, _, _, _, _, _, _, _, _, _, _, ea2_InvalidSet, ea3_InvalidSet⟩, ea4_InvalidSet, ea5_InvalidSet, ea6_InvalidSet, ea7_InvalidSet⟩, ⟨_, _, _, _, _, _, _, _, _, rfl, ea9_InvalidSet⟩, eb1_InvalidSet, ⟨_, _, _, _, _, _, eb2_InvalidSet, eb3_InvalidSet, eb4_InvalidSet⟩, ⟨_, _, _, eb5_InvalidSet⟩, ⟨_, eb6_InvalidSet⟩, eb7_InvalidSet, eb8_InvalidSet, eb9_InvalidSet, ec1_InvalidSet, ec2_InvalidSet⟩,
     iC_InvalidSet := ea8_InvalidSet,
     tI_InvalidSet := ec3_InvalidSet,
     nt_InvalidSet := en_tag_InvalidSet,
     nf_InvalidSet := en_given_InvalidSet,
     ek_InvalidSet := errK_mk ⟨ed1_InvalidSet, ed2_InvalidSet, ea5_InvalidSet, ed3_InvalidSet⟩ en_tag_InvalidSet en_given_InvalidSet en_index_InvalidSet en_name_InvalidSet en_most_InvalidSet en_limit_InvalidSet en_part_InvalidSet en_table_InvalidSet en_room_InvalidSet en_origin_InvalidSet en_many_InvalidSet en_word_InvalidSet en_line_InvalidSet,
     m_len := PySem.W.mg_none_of X G z_len,
     m_all := PySem.W.mg_none_of X G z_all,
     m_any := PySem.W.mg_none_of X G z_any,
     m_range := PySem.W.mg_none_of X G z_range,
     m_isinstance := PySem.W.mg_none_of X G z_isinstance,
     m_str := PySem.W.mg_none_of X G z_str,
     m_int := PySem.W.mg_none_of X G z_int,
     m_bool := PySem.W.mg_none_of X G z_bool,
     m_list := PySem.W.mg_none_of X G z_list,
     m_tuple := PySem.W.mg_none_of X G z_tuple,
     m_abs := PySem.W.mg_none_of X G z_abs,
     m_zip := PySem.W.mg_none_of X G z_zip,
     m_super := PySem.W.mg_none_of X G z_super,
     m_sorted := PySem.W.mg_none_of X G z_sorted,
     m_repr := PySem.W.mg_none_of X G z_repr,
     tk_LETTERS := tk_LETTERS,
     c_LETTERS := PySem.W.mg_of X G q_LETTERS,
     tk_MOST_LAMPS := tk_MOST_LAMPS,
     c_MOST_LAMPS := PySem.W.mg_of X G q_MOST_LAMPS,
     tk_MOST_PARTS := tk_MOST_PARTS,
     c_MOST_PARTS := PySem.W.mg_of X G q_MOST_PARTS,
     tk_MOST_COUNT := tk_MOST_COUNT,
     c_MOST_COUNT := PySem.W.mg_of X G q_MOST_COUNT,
     tk_MOST_LISTED := tk_MOST_LISTED,
     c_MOST_LISTED := PySem.W.mg_of X G q_MOST_LISTED,
     tk_FEWEST_JOINED := tk_FEWEST_JOINED,
     c_FEWEST_JOINED := PySem.W.mg_of X G q_FEWEST_JOINED,
     tk_MOST_JOINED := tk_MOST_JOINED,
     c_MOST_JOINED := PySem.W.mg_of X G q_MOST_JOINED,
     a_JOINING_WORDS := ka_JOINING_WORDS,
     c_JOINING_WORDS := PySem.W.mg_of X G q_JOINING_WORDS,
     q_JOINING_WORDS := ⟨_, _, _, kl_JOINING_WORDS, rfl, rfl, (show 2 ≤ sizeLine by decide), (.cons ⟨_, rfl⟩ (.cons ⟨_, rfl⟩ .nil))⟩,
     C_Goal := C_Goal,
     c_Goal := PySem.W.mg_of X G a_M_Goal_init_c,
     cl_Goal := ⟨p1_Goal, p2_Goal, p3_Goal, p4_Goal⟩,
     M_Goal := ⟨mk_Goal, a_M_Goal_init, i_M_Goal_init, ck_Goal⟩,
     me_Goal_sets := ⟨a_M_Goal_sets, i_M_Goal_sets, k_M_Goal_sets⟩,
     me_Goal_holds_for := ⟨a_M_Goal_holds_for, i_M_Goal_holds_for, k_M_Goal_holds_for⟩,
     me_Goal___call__ := ⟨a_M_Goal_call, i_M_Goal_call, k_M_Goal_call⟩,
     me_Goal___contains__ := ⟨a_M_Goal_contains, i_M_Goal_contains, k_M_Goal_contains⟩,
     me_Goal___len__ := ⟨a_M_Goal_len, i_M_Goal_len, k_M_Goal_len⟩,
     me_Goal___repr__ := ⟨a_M_Goal_repr, i_M_Goal_repr, k_M_Goal_repr⟩,
     pa_Goal_lamps := p_M_Goal_lamps,
     pr_Goal_lamps := ⟨a_M_Goal_lamps, b_M_Goal_lamps, e_M_Goal_lamps, _, g_M_Goal_lamps⟩,
     pa_Goal_sentence := p_M_Goal_sentence,
     pr_Goal_sentence := ⟨a_M_Goal_sentence, b_M_Goal_sentence, e_M_Goal_sentence, _, g_M_Goal_sentence⟩,
     na_Goal_letters := na_Goal_letters,
     na_Goal_wording := na_Goal_wording,
     na_Goal_held := na_Goal_held,
     N_GoalError := N_GoalError,
     n_GoalError := PySem.W.mg_of X G nn_GoalError,
     N_UnknownName := N_UnknownName,
     n_UnknownName := PySem.W.mg_of X G nn_UnknownName,
     N_NothingLeft := N_NothingLeft,
     n_NothingLeft := PySem.W.mg_of X G nn_NothingLeft,
     ex_InvalidSet := exm_InvalidSet,
     cd_law := cdl,
     tb_law := tbl,
     lw := ⟨_, _, _, _, _, _, _, _, rfl, l_law, c_law⟩,
     cd_l_sets := cdt,
     tb_l_sets := tbt,
     lt_l_sets := ⟨_, _, _, _, _, _, _, _, rfl, l_l_sets, c_l_sets⟩,
     tn_l_sets := lt9 }
set_option maxHeartbeats 0 in
theorem all_mk {l : PySem.W.OpenLaw} {w : World} {P : Program} (hP : P = l.prog) {K : PySem.W.Frag} {h : Heap} {mg : Str → Option Value} {fa : Addr} (X : K.In h) (G : h.Ns mainGlobals mg) (hfa : mg "law" = some (.ref fa)) (own : ∀ y ∈ (["law", "_law_sets"] : List Str), ∀ fb, mg y = some (.ref fb) → LamX.OwnTab K fb h)
    {f_l_bag : Addr} {od_l_bag an_l_bag : Option Addr} {sl_l_bag : Array (Option Value)} {oc_l_bag kV_l_bag dc_l_bag pm_l_bag cd_l_bag ct_l_bag : Value}
    {f_l_pull : Addr} {od_l_pull an_l_pull : Option Addr} {sl_l_pull : Array (Option Value)} {oc_l_pull kV_l_pull dc_l_pull pm_l_pull cd_l_pull ct_l_pull : Value}
    {f_l_part_of : Addr} {od_l_part_of an_l_part_of : Option Addr} {sl_l_part_of : Array (Option Value)} {oc_l_part_of kV_l_part_of dc_l_part_of pm_l_part_of cd_l_part_of ct_l_part_of : Value}
    {f_l_last_field : Addr} {od_l_last_field an_l_last_field : Option Addr} {sl_l_last_field : Array (Option Value)} {oc_l_last_field kV_l_last_field dc_l_last_field pm_l_last_field cd_l_last_field ct_l_last_field : Value}
    {f_l_field : Addr} {od_l_field an_l_field : Option Addr} {sl_l_field : Array (Option Value)} {oc_l_field kV_l_field dc_l_field pm_l_field cd_l_field ct_l_field : Value}
    {f_l_why : Addr} {od_l_why an_l_why : Option Addr} {sl_l_why : Array (Option Value)} {oc_l_why kV_l_why dc_l_why pm_l_why cd_l_why ct_l_why : Value}
    {f_l_whys : Addr} {od_l_whys an_l_whys : Option Addr} {sl_l_whys : Array (Option Value)} {oc_l_whys kV_l_whys dc_l_whys pm_l_whys cd_l_whys ct_l_whys : Value}
    {f_copied : Addr} {od_copied an_copied : Option Addr} {sl_copied : Array (Option Value)} {oc_copied kV_copied dc_copied pm_copied cd_copied ct_copied : Value}
    {f_is_number : Addr} {od_is_number an_is_number : Option Addr} {sl_is_number : Array (Option Value)} {oc_is_number kV_is_number dc_is_number pm_is_number cd_is_number ct_is_number : Value}
    {f_is_ascending : Addr} {od_is_ascending an_is_ascending : Option Addr} {sl_is_ascending : Array (Option Value)} {oc_is_ascending kV_is_ascending dc_is_ascending pm_is_ascending cd_is_ascending ct_is_ascending : Value}
    {f_is_within : Addr} {od_is_within an_is_within : Option Addr} {sl_is_within : Array (Option Value)} {oc_is_within kV_is_within dc_is_within pm_is_within cd_is_within ct_is_within : Value}
    {f_is_set : Addr} {od_is_set an_is_set : Option Addr} {sl_is_set : Array (Option Value)} {oc_is_set kV_is_set dc_is_set pm_is_set cd_is_set ct_is_set : Value}
    {f_is_lamps : Addr} {od_is_lamps an_is_lamps : Option Addr} {sl_is_lamps : Array (Option Value)} {oc_is_lamps kV_is_lamps dc_is_lamps pm_is_lamps cd_is_lamps ct_is_lamps : Value}
    {f_check_lamps : Addr} {od_check_lamps an_check_lamps : Option Addr} {sl_check_lamps : Array (Option Value)} {oc_check_lamps kV_check_lamps dc_check_lamps pm_check_lamps cd_check_lamps ct_check_lamps : Value}
    {f_listed_sets : Addr} {od_listed_sets an_listed_sets : Option Addr} {sl_listed_sets : Array (Option Value)} {oc_listed_sets kV_listed_sets dc_listed_sets pm_listed_sets cd_listed_sets ct_listed_sets : Value}
    {f_inner_sentences : Addr} {od_inner_sentences an_inner_sentences : Option Addr} {sl_inner_sentences : Array (Option Value)} {oc_inner_sentences kV_inner_sentences dc_inner_sentences pm_inner_sentences cd_inner_sentences ct_inner_sentences : Value}
    {f_next_parts : Addr} {od_next_parts an_next_parts : Option Addr} {sl_next_parts : Array (Option Value)} {oc_next_parts kV_next_parts dc_next_parts pm_next_parts cd_next_parts ct_next_parts : Value}
    {f_is_count : Addr} {od_is_count an_is_count : Option Addr} {sl_is_count : Array (Option Value)} {oc_is_count kV_is_count dc_is_count pm_is_count cd_is_count ct_is_count : Value}
    {f_has_form : Addr} {od_has_form an_has_form : Option Addr} {sl_has_form : Array (Option Value)} {oc_has_form kV_has_form dc_has_form pm_has_form cd_has_form ct_has_form : Value}
    {f_check_sentence : Addr} {od_check_sentence an_check_sentence : Option Addr} {sl_check_sentence : Array (Option Value)} {oc_check_sentence kV_check_sentence dc_check_sentence pm_check_sentence cd_check_sentence ct_check_sentence : Value}
    {f_sentence_holds : Addr} {od_sentence_holds an_sentence_holds : Option Addr} {sl_sentence_holds : Array (Option Value)} {oc_sentence_holds kV_sentence_holds dc_sentence_holds pm_sentence_holds cd_sentence_holds ct_sentence_holds : Value}
    {f_M_Goal_init : Addr} {od_M_Goal_init an_M_Goal_init : Option Addr} {sl_M_Goal_init : Array (Option Value)} {oc_M_Goal_init kV_M_Goal_init dc_M_Goal_init pm_M_Goal_init cd_M_Goal_init ct_M_Goal_init : Value}
    {f_M_Goal_lamps : Addr} {od_M_Goal_lamps an_M_Goal_lamps : Option Addr} {sl_M_Goal_lamps : Array (Option Value)} {oc_M_Goal_lamps kV_M_Goal_lamps dc_M_Goal_lamps pm_M_Goal_lamps cd_M_Goal_lamps ct_M_Goal_lamps : Value}
    {f_M_Goal_sentence : Addr} {od_M_Goal_sentence an_M_Goal_sentence : Option Addr} {sl_M_Goal_sentence : Array (Option Value)} {oc_M_Goal_sentence kV_M_Goal_sentence dc_M_Goal_sentence pm_M_Goal_sentence cd_M_Goal_sentence ct_M_Goal_sentence : Value}
    {f_M_Goal_sets : Addr} {od_M_Goal_sets an_M_Goal_sets : Option Addr} {sl_M_Goal_sets : Array (Option Value)} {oc_M_Goal_sets kV_M_Goal_sets dc_M_Goal_sets pm_M_Goal_sets cd_M_Goal_sets ct_M_Goal_sets : Value}
    {f_M_Goal_holds_for : Addr} {od_M_Goal_holds_for an_M_Goal_holds_for : Option Addr} {sl_M_Goal_holds_for : Array (Option Value)} {oc_M_Goal_holds_for kV_M_Goal_holds_for dc_M_Goal_holds_for pm_M_Goal_holds_for cd_M_Goal_holds_for ct_M_Goal_holds_for : Value}
    {f_M_Goal_call : Addr} {od_M_Goal_call an_M_Goal_call : Option Addr} {sl_M_Goal_call : Array (Option Value)} {oc_M_Goal_call kV_M_Goal_call dc_M_Goal_call pm_M_Goal_call cd_M_Goal_call ct_M_Goal_call : Value}
    {f_M_Goal_contains : Addr} {od_M_Goal_contains an_M_Goal_contains : Option Addr} {sl_M_Goal_contains : Array (Option Value)} {oc_M_Goal_contains kV_M_Goal_contains dc_M_Goal_contains pm_M_Goal_contains cd_M_Goal_contains ct_M_Goal_contains : Value}
    {f_M_Goal_len : Addr} {od_M_Goal_len an_M_Goal_len : Option Addr} {sl_M_Goal_len : Array (Option Value)} {oc_M_Goal_len kV_M_Goal_len dc_M_Goal_len pm_M_Goal_len cd_M_Goal_len ct_M_Goal_len : Value}
    {f_M_Goal_repr : Addr} {od_M_Goal_repr an_M_Goal_repr : Option Addr} {sl_M_Goal_repr : Array (Option Value)} {oc_M_Goal_repr kV_M_Goal_repr dc_M_Goal_repr pm_M_Goal_repr cd_M_Goal_repr ct_M_Goal_repr : Value}
    {f_l_of : Addr} {od_l_of an_l_of : Option Addr} {sl_l_of : Array (Option Value)} {oc_l_of kV_l_of dc_l_of pm_l_of cd_l_of ct_l_of : Value}
    {f_l_same : Addr} {od_l_same an_l_same : Option Addr} {sl_l_same : Array (Option Value)} {oc_l_same kV_l_same dc_l_same pm_l_same cd_l_same ct_l_same : Value}
    {f_l_sets : Addr} {od_l_sets an_l_sets : Option Addr} {sl_l_sets : Array (Option Value)} {oc_l_sets kV_l_sets dc_l_sets pm_l_sets ct_l_sets : Value}
    {f_l_lamps : Addr} {od_l_lamps an_l_lamps : Option Addr} {sl_l_lamps : Array (Option Value)} {oc_l_lamps kV_l_lamps dc_l_lamps pm_l_lamps cd_l_lamps ct_l_lamps : Value}
    {f_l_lits : Addr} {od_l_lits an_l_lits : Option Addr} {sl_l_lits : Array (Option Value)} {oc_l_lits kV_l_lits dc_l_lits pm_l_lits cd_l_lits ct_l_lits : Value}
    {f_l_sentence : Addr} {od_l_sentence an_l_sentence : Option Addr} {sl_l_sentence : Array (Option Value)} {oc_l_sentence kV_l_sentence dc_l_sentence pm_l_sentence cd_l_sentence ct_l_sentence : Value}
    {f_l_holds : Addr} {od_l_holds an_l_holds : Option Addr} {sl_l_holds : Array (Option Value)} {oc_l_holds kV_l_holds dc_l_holds pm_l_holds cd_l_holds ct_l_holds : Value}
    {f_l_aim : Addr} {od_l_aim an_l_aim : Option Addr} {sl_l_aim : Array (Option Value)} {oc_l_aim kV_l_aim dc_l_aim pm_l_aim cd_l_aim ct_l_aim : Value}
    {f_law : Addr} {od_law an_law : Option Addr} {sl_law : Array (Option Value)} {oc_law kV_law dc_law pm_law ct_law : Value}
    {C_Goal : Addr}
    {p_M_Goal_lamps : Addr} {r_M_Goal_lamps : List Value}
    {p_M_Goal_sentence : Addr} {r_M_Goal_sentence : List Value}
    {cdt : Addr}
    {cdl : Addr}
    {C_InvalidSet a_InvalidSet cda_InvalidSet cc_InvalidSet Nn_InvalidSet : Addr} {nm_InvalidSet q_InvalidSet nm2_InvalidSet file_InvalidSet : Str} {bs_InvalidSet bm_InvalidSet sub_InvalidSet : List Value} {sn_InvalidSet : List Str} {ab_InvalidSet : Bool} {col_InvalidSet : Option Bool} {dd_InvalidSet od_InvalidSet an_InvalidSet cdd_InvalidSet cld_InvalidSet : Option Addr} {k0_InvalidSet k1_InvalidSet k2_InvalidSet k3_InvalidSet k5_InvalidSet : Option Value} {oc_InvalidSet kV_InvalidSet doc_InvalidSet pm_InvalidSet ct_InvalidSet ccl_InvalidSet cl_InvalidSet : Value} {osl_InvalidSet ccs_InvalidSet csl_InvalidSet : Array (Option Value)} {vs_InvalidSet : Array Value} {tf_InvalidSet : Tok} {cdD_InvalidSet : ClassData}
    {tk_LETTERS : Tok}
    {tk_MOST_LAMPS : Tok}
    {tk_MOST_PARTS : Tok}
    {tk_MOST_COUNT : Tok}
    {tk_MOST_LISTED : Tok}
    {tk_FEWEST_JOINED : Tok}
    {tk_MOST_JOINED : Tok}
    {ka_JOINING_WORDS : Addr} {kd_JOINING_WORDS : Option Addr} {kn_JOINING_WORDS : Nat} {ks_JOINING_WORDS : Array (Option Value)} {t0_JOINING_WORDS t1_JOINING_WORDS : Tok}
    {N_GoalError : Addr}
    {N_UnknownName : Addr}
    {N_NothingLeft : Addr}
    {tbl : Addr} {cdd_lw : Option Addr} {vs_lw : Array Value} {sl_lw : Array (Option Value)} {file_lw : Str} {tf_lw tg_lw tt_lw : Tok} {flags_lw text_lw : Int} {inF_lw : Bool}
    {tbt : Addr} {cdd_lt : Option Addr} {vs_lt : Array Value} {sl_lt : Array (Option Value)} {file_lt : Str} {tf_lt tg_lt tt_lt : Tok} {flags_lt text_lt : Int} {inF_lt : Bool}
    (a_l_bag : PySem.W.nsIn K mainGlobals "_law_bag" = some (some (.ref f_l_bag)))
    (l_l_bag : K.lookup f_l_bag = some ⟨oc_l_bag, od_l_bag, .func (PySem.W.fnOf "_law_bag" "_law_bag" (defArgs s_l_bag) (defBody s_l_bag) (defScope s_l_bag) .none kV_l_bag dc_l_bag pm_l_bag an_l_bag cd_l_bag ct_l_bag), sl_l_bag⟩)
    (c_l_bag : PySem.W.codeIn K cd_l_bag "_law_bag" = true)
    (k_l_bag : PySem.W.keepIn K (.ref f_l_bag) = true)
    (a_l_pull : PySem.W.nsIn K mainGlobals "_law_pull" = some (some (.ref f_l_pull)))
    (l_l_pull : K.lookup f_l_pull = some ⟨oc_l_pull, od_l_pull, .func (PySem.W.fnOf "_law_pull" "_law_pull" (defArgs s_l_pull) (defBody s_l_pull) (defScope s_l_pull) .none kV_l_pull dc_l_pull pm_l_pull an_l_pull cd_l_pull ct_l_pull), sl_l_pull⟩)
    (c_l_pull : PySem.W.codeIn K cd_l_pull "_law_pull" = true)
    (k_l_pull : PySem.W.keepIn K (.ref f_l_pull) = true)
    (a_l_part_of : PySem.W.nsIn K mainGlobals "_law_part_of" = some (some (.ref f_l_part_of)))
    (l_l_part_of : K.lookup f_l_part_of = some ⟨oc_l_part_of, od_l_part_of, .func (PySem.W.fnOf "_law_part_of" "_law_part_of" (defArgs s_l_part_of) (defBody s_l_part_of) (defScope s_l_part_of) .none kV_l_part_of dc_l_part_of pm_l_part_of an_l_part_of cd_l_part_of ct_l_part_of), sl_l_part_of⟩)
    (c_l_part_of : PySem.W.codeIn K cd_l_part_of "_law_part_of" = true)
    (k_l_part_of : PySem.W.keepIn K (.ref f_l_part_of) = true)
    (a_l_last_field : PySem.W.nsIn K mainGlobals "_law_last_field" = some (some (.ref f_l_last_field)))
    (l_l_last_field : K.lookup f_l_last_field = some ⟨oc_l_last_field, od_l_last_field, .func (PySem.W.fnOf "_law_last_field" "_law_last_field" (defArgs s_l_last_field) (defBody s_l_last_field) (defScope s_l_last_field) .none kV_l_last_field dc_l_last_field pm_l_last_field an_l_last_field cd_l_last_field ct_l_last_field), sl_l_last_field⟩)
    (c_l_last_field : PySem.W.codeIn K cd_l_last_field "_law_last_field" = true)
    (k_l_last_field : PySem.W.keepIn K (.ref f_l_last_field) = true)
    (a_l_field : PySem.W.nsIn K mainGlobals "_law_field" = some (some (.ref f_l_field)))
    (l_l_field : K.lookup f_l_field = some ⟨oc_l_field, od_l_field, .func (PySem.W.fnOf "_law_field" "_law_field" (defArgs s_l_field) (defBody s_l_field) (defScope s_l_field) .none kV_l_field dc_l_field pm_l_field an_l_field cd_l_field ct_l_field), sl_l_field⟩)
    (c_l_field : PySem.W.codeIn K cd_l_field "_law_field" = true)
    (k_l_field : PySem.W.keepIn K (.ref f_l_field) = true)
    (a_l_why : PySem.W.nsIn K mainGlobals "_law_why" = some (some (.ref f_l_why)))
    (l_l_why : K.lookup f_l_why = some ⟨oc_l_why, od_l_why, .func (PySem.W.fnOf "_law_why" "_law_why" (defArgs s_l_why) (defBody s_l_why) (defScope s_l_why) .none kV_l_why dc_l_why pm_l_why an_l_why cd_l_why ct_l_why), sl_l_why⟩)
    (c_l_why : PySem.W.codeIn K cd_l_why "_law_why" = true)
    (k_l_why : PySem.W.keepIn K (.ref f_l_why) = true)
    (a_l_whys : PySem.W.nsIn K mainGlobals "_law_whys" = some (some (.ref f_l_whys)))
    (l_l_whys : K.lookup f_l_whys = some ⟨oc_l_whys, od_l_whys, .func (PySem.W.fnOf "_law_whys" "_law_whys" (defArgs s_l_whys) (defBody s_l_whys) (defScope s_l_whys) .none kV_l_whys dc_l_whys pm_l_whys an_l_whys cd_l_whys ct_l_whys), sl_l_whys⟩)
    (c_l_whys : PySem.W.codeIn K cd_l_whys "_law_whys" = true)
    (k_l_whys : PySem.W.keepIn K (.ref f_l_whys) = true)
    (a_copied : PySem.W.nsIn K mainGlobals "copied" = some (some (.ref f_copied)))
    (l_copied : K.lookup f_copied = some ⟨oc_copied, od_copied, .func (PySem.W.fnOf "copied" "copied" (defArgs s_copied) (defBody s_copied) (defScope s_copied) .none kV_copied dc_copied pm_copied an_copied cd_copied ct_copied), sl_copied⟩)
    (c_copied : PySem.W.codeIn K cd_copied "copied" = true)
    (k_copied : PySem.W.keepIn K (.ref f_copied) = true)
    (a_is_number : PySem.W.nsIn K mainGlobals "is_number" = some (some (.ref f_is_number)))
    (l_is_number : K.lookup f_is_number = some ⟨oc_is_number, od_is_number, .func (PySem.W.fnOf "is_number" "is_number" (defArgs s_is_number) (defBody s_is_number) (defScope s_is_number) .none kV_is_number dc_is_number pm_is_number an_is_number cd_is_number ct_is_number), sl_is_number⟩)
    (c_is_number : PySem.W.codeIn K cd_is_number "is_number" = true)
    (k_is_number : PySem.W.keepIn K (.ref f_is_number) = true)
    (a_is_ascending : PySem.W.nsIn K mainGlobals "is_ascending" = some (some (.ref f_is_ascending)))
    (l_is_ascending : K.lookup f_is_ascending = some ⟨oc_is_ascending, od_is_ascending, .func (PySem.W.fnOf "is_ascending" "is_ascending" (defArgs s_is_ascending) (defBody s_is_ascending) (defScope s_is_ascending) .none kV_is_ascending dc_is_ascending pm_is_ascending an_is_ascending cd_is_ascending ct_is_ascending), sl_is_ascending⟩)
    (c_is_ascending : PySem.W.codeIn K cd_is_ascending "is_ascending" = true)
    (k_is_ascending : PySem.W.keepIn K (.ref f_is_ascending) = true)
    (a_is_within : PySem.W.nsIn K mainGlobals "is_within" = some (some (.ref f_is_within)))
    (l_is_within : K.lookup f_is_within = some ⟨oc_is_within, od_is_within, .func (PySem.W.fnOf "is_within" "is_within" (defArgs s_is_within) (defBody s_is_within) (defScope s_is_within) .none kV_is_within dc_is_within pm_is_within an_is_within cd_is_within ct_is_within), sl_is_within⟩)
    (c_is_within : PySem.W.codeIn K cd_is_within "is_within" = true)
    (k_is_within : PySem.W.keepIn K (.ref f_is_within) = true)
    (a_is_set : PySem.W.nsIn K mainGlobals "is_set" = some (some (.ref f_is_set)))
    (l_is_set : K.lookup f_is_set = some ⟨oc_is_set, od_is_set, .func (PySem.W.fnOf "is_set" "is_set" (defArgs s_is_set) (defBody s_is_set) (defScope s_is_set) .none kV_is_set dc_is_set pm_is_set an_is_set cd_is_set ct_is_set), sl_is_set⟩)
    (c_is_set : PySem.W.codeIn K cd_is_set "is_set" = true)
    (k_is_set : PySem.W.keepIn K (.ref f_is_set) = true)
    (a_is_lamps : PySem.W.nsIn K mainGlobals "is_lamps" = some (some (.ref f_is_lamps)))
    (l_is_lamps : K.lookup f_is_lamps = some ⟨oc_is_lamps, od_is_lamps, .func (PySem.W.fnOf "is_lamps" "is_lamps" (defArgs s_is_lamps) (defBody s_is_lamps) (defScope s_is_lamps) .none kV_is_lamps dc_is_lamps pm_is_lamps an_is_lamps cd_is_lamps ct_is_lamps), sl_is_lamps⟩)
    (c_is_lamps : PySem.W.codeIn K cd_is_lamps "is_lamps" = true)
    (k_is_lamps : PySem.W.keepIn K (.ref f_is_lamps) = true)
    (a_check_lamps : PySem.W.nsIn K mainGlobals "check_lamps" = some (some (.ref f_check_lamps)))
    (l_check_lamps : K.lookup f_check_lamps = some ⟨oc_check_lamps, od_check_lamps, .func (PySem.W.fnOf "check_lamps" "check_lamps" (defArgs s_check_lamps) (defBody s_check_lamps) (defScope s_check_lamps) .none kV_check_lamps dc_check_lamps pm_check_lamps an_check_lamps cd_check_lamps ct_check_lamps), sl_check_lamps⟩)
    (c_check_lamps : PySem.W.codeIn K cd_check_lamps "check_lamps" = true)
    (k_check_lamps : PySem.W.keepIn K (.ref f_check_lamps) = true)
    (a_listed_sets : PySem.W.nsIn K mainGlobals "listed_sets" = some (some (.ref f_listed_sets)))
    (l_listed_sets : K.lookup f_listed_sets = some ⟨oc_listed_sets, od_listed_sets, .func (PySem.W.fnOf "listed_sets" "listed_sets" (defArgs s_listed_sets) (defBody s_listed_sets) (defScope s_listed_sets) .none kV_listed_sets dc_listed_sets pm_listed_sets an_listed_sets cd_listed_sets ct_listed_sets), sl_listed_sets⟩)
    (c_listed_sets : PySem.W.codeIn K cd_listed_sets "listed_sets" = true)
    (k_listed_sets : PySem.W.keepIn K (.ref f_listed_sets) = true)
    (a_inner_sentences : PySem.W.nsIn K mainGlobals "inner_sentences" = some (some (.ref f_inner_sentences)))
    (l_inner_sentences : K.lookup f_inner_sentences = some ⟨oc_inner_sentences, od_inner_sentences, .func (PySem.W.fnOf "inner_sentences" "inner_sentences" (defArgs s_inner_sentences) (defBody s_inner_sentences) (defScope s_inner_sentences) .none kV_inner_sentences dc_inner_sentences pm_inner_sentences an_inner_sentences cd_inner_sentences ct_inner_sentences), sl_inner_sentences⟩)
    (c_inner_sentences : PySem.W.codeIn K cd_inner_sentences "inner_sentences" = true)
    (k_inner_sentences : PySem.W.keepIn K (.ref f_inner_sentences) = true)
    (a_next_parts : PySem.W.nsIn K mainGlobals "next_parts" = some (some (.ref f_next_parts)))
    (l_next_parts : K.lookup f_next_parts = some ⟨oc_next_parts, od_next_parts, .func (PySem.W.fnOf "next_parts" "next_parts" (defArgs s_next_parts) (defBody s_next_parts) (defScope s_next_parts) .none kV_next_parts dc_next_parts pm_next_parts an_next_parts cd_next_parts ct_next_parts), sl_next_parts⟩)
    (c_next_parts : PySem.W.codeIn K cd_next_parts "next_parts" = true)
    (k_next_parts : PySem.W.keepIn K (.ref f_next_parts) = true)
    (a_is_count : PySem.W.nsIn K mainGlobals "is_count" = some (some (.ref f_is_count)))
    (l_is_count : K.lookup f_is_count = some ⟨oc_is_count, od_is_count, .func (PySem.W.fnOf "is_count" "is_count" (defArgs s_is_count) (defBody s_is_count) (defScope s_is_count) .none kV_is_count dc_is_count pm_is_count an_is_count cd_is_count ct_is_count), sl_is_count⟩)
    (c_is_count : PySem.W.codeIn K cd_is_count "is_count" = true)
    (k_is_count : PySem.W.keepIn K (.ref f_is_count) = true)
    (a_has_form : PySem.W.nsIn K mainGlobals "has_form" = some (some (.ref f_has_form)))
    (l_has_form : K.lookup f_has_form = some ⟨oc_has_form, od_has_form, .func (PySem.W.fnOf "has_form" "has_form" (defArgs s_has_form) (defBody s_has_form) (defScope s_has_form) .none kV_has_form dc_has_form pm_has_form an_has_form cd_has_form ct_has_form), sl_has_form⟩)
    (c_has_form : PySem.W.codeIn K cd_has_form "has_form" = true)
    (k_has_form : PySem.W.keepIn K (.ref f_has_form) = true)
    (a_check_sentence : PySem.W.nsIn K mainGlobals "check_sentence" = some (some (.ref f_check_sentence)))
    (l_check_sentence : K.lookup f_check_sentence = some ⟨oc_check_sentence, od_check_sentence, .func (PySem.W.fnOf "check_sentence" "check_sentence" (defArgs s_check_sentence) (defBody s_check_sentence) (defScope s_check_sentence) .none kV_check_sentence dc_check_sentence pm_check_sentence an_check_sentence cd_check_sentence ct_check_sentence), sl_check_sentence⟩)
    (c_check_sentence : PySem.W.codeIn K cd_check_sentence "check_sentence" = true)
    (k_check_sentence : PySem.W.keepIn K (.ref f_check_sentence) = true)
    (a_sentence_holds : PySem.W.nsIn K mainGlobals "sentence_holds" = some (some (.ref f_sentence_holds)))
    (l_sentence_holds : K.lookup f_sentence_holds = some ⟨oc_sentence_holds, od_sentence_holds, .func (PySem.W.fnOf "sentence_holds" "sentence_holds" (defArgs s_sentence_holds) (defBody s_sentence_holds) (defScope s_sentence_holds) .none kV_sentence_holds dc_sentence_holds pm_sentence_holds an_sentence_holds cd_sentence_holds ct_sentence_holds), sl_sentence_holds⟩)
    (c_sentence_holds : PySem.W.codeIn K cd_sentence_holds "sentence_holds" = true)
    (k_sentence_holds : PySem.W.keepIn K (.ref f_sentence_holds) = true)
    (a_M_Goal_init_c : PySem.W.nsIn K mainGlobals "Goal" = some (some (.ref C_Goal)))
    (a_M_Goal_init : PySem.W.findIn K (.ref C_Goal) "__init__" = some (some (.ref f_M_Goal_init)))
    (i_M_Goal_init : PySem.W.isFn K (.ref f_M_Goal_init) = true)
    (l_M_Goal_init : K.lookup f_M_Goal_init = some ⟨oc_M_Goal_init, od_M_Goal_init, .func (PySem.W.fnOf "__init__" "Goal.__init__" (defArgs s_M_Goal_init) (defBody s_M_Goal_init) (defScope s_M_Goal_init) .none kV_M_Goal_init dc_M_Goal_init pm_M_Goal_init an_M_Goal_init cd_M_Goal_init ct_M_Goal_init), sl_M_Goal_init⟩)
    (c_M_Goal_init : PySem.W.codeIn K cd_M_Goal_init "Goal.__init__" = true)
    (k_M_Goal_init : PySem.W.keepIn K (.ref f_M_Goal_init) = true)
    (a_M_Goal_lamps : PySem.W.findIn K (.ref C_Goal) "lamps" = some (some (.ref p_M_Goal_lamps)))
    (b_M_Goal_lamps : PySem.W.specialIn K (.ref p_M_Goal_lamps) "__get__" = some (some (.builtin "property.__get__")))
    (e_M_Goal_lamps : PySem.W.takesIn K (.ref p_M_Goal_lamps) = some true)
    (g_M_Goal_lamps : PySem.W.recIn K p_M_Goal_lamps "property" = some (.ref f_M_Goal_lamps :: r_M_Goal_lamps))
    (l_M_Goal_lamps : K.lookup f_M_Goal_lamps = some ⟨oc_M_Goal_lamps, od_M_Goal_lamps, .func (PySem.W.fnOf "lamps" "Goal.lamps" (defArgs s_M_Goal_lamps) (defBody s_M_Goal_lamps) (defScope s_M_Goal_lamps) .none kV_M_Goal_lamps dc_M_Goal_lamps pm_M_Goal_lamps an_M_Goal_lamps cd_M_Goal_lamps ct_M_Goal_lamps), sl_M_Goal_lamps⟩)
    (c_M_Goal_lamps : PySem.W.codeIn K cd_M_Goal_lamps "Goal.lamps" = true)
    (k_M_Goal_lamps : PySem.W.keepIn K (.ref f_M_Goal_lamps) = true)
    (a_M_Goal_sentence : PySem.W.findIn K (.ref C_Goal) "sentence" = some (some (.ref p_M_Goal_sentence)))
    (b_M_Goal_sentence : PySem.W.specialIn K (.ref p_M_Goal_sentence) "__get__" = some (some (.builtin "property.__get__")))
    (e_M_Goal_sentence : PySem.W.takesIn K (.ref p_M_Goal_sentence) = some true)
    (g_M_Goal_sentence : PySem.W.recIn K p_M_Goal_sentence "property" = some (.ref f_M_Goal_sentence :: r_M_Goal_sentence))
    (l_M_Goal_sentence : K.lookup f_M_Goal_sentence = some ⟨oc_M_Goal_sentence, od_M_Goal_sentence, .func (PySem.W.fnOf "sentence" "Goal.sentence" (defArgs s_M_Goal_sentence) (defBody s_M_Goal_sentence) (defScope s_M_Goal_sentence) .none kV_M_Goal_sentence dc_M_Goal_sentence pm_M_Goal_sentence an_M_Goal_sentence cd_M_Goal_sentence ct_M_Goal_sentence), sl_M_Goal_sentence⟩)
    (c_M_Goal_sentence : PySem.W.codeIn K cd_M_Goal_sentence "Goal.sentence" = true)
    (k_M_Goal_sentence : PySem.W.keepIn K (.ref f_M_Goal_sentence) = true)
    (a_M_Goal_sets : PySem.W.findIn K (.ref C_Goal) "sets" = some (some (.ref f_M_Goal_sets)))
    (i_M_Goal_sets : PySem.W.isFn K (.ref f_M_Goal_sets) = true)
    (l_M_Goal_sets : K.lookup f_M_Goal_sets = some ⟨oc_M_Goal_sets, od_M_Goal_sets, .func (PySem.W.fnOf "sets" "Goal.sets" (defArgs s_M_Goal_sets) (defBody s_M_Goal_sets) (defScope s_M_Goal_sets) .none kV_M_Goal_sets dc_M_Goal_sets pm_M_Goal_sets an_M_Goal_sets cd_M_Goal_sets ct_M_Goal_sets), sl_M_Goal_sets⟩)
    (c_M_Goal_sets : PySem.W.codeIn K cd_M_Goal_sets "Goal.sets" = true)
    (k_M_Goal_sets : PySem.W.keepIn K (.ref f_M_Goal_sets) = true)
    (a_M_Goal_holds_for : PySem.W.findIn K (.ref C_Goal) "holds_for" = some (some (.ref f_M_Goal_holds_for)))
    (i_M_Goal_holds_for : PySem.W.isFn K (.ref f_M_Goal_holds_for) = true)
    (l_M_Goal_holds_for : K.lookup f_M_Goal_holds_for = some ⟨oc_M_Goal_holds_for, od_M_Goal_holds_for, .func (PySem.W.fnOf "holds_for" "Goal.holds_for" (defArgs s_M_Goal_holds_for) (defBody s_M_Goal_holds_for) (defScope s_M_Goal_holds_for) .none kV_M_Goal_holds_for dc_M_Goal_holds_for pm_M_Goal_holds_for an_M_Goal_holds_for cd_M_Goal_holds_for ct_M_Goal_holds_for), sl_M_Goal_holds_for⟩)
    (c_M_Goal_holds_for : PySem.W.codeIn K cd_M_Goal_holds_for "Goal.holds_for" = true)
    (k_M_Goal_holds_for : PySem.W.keepIn K (.ref f_M_Goal_holds_for) = true)
    (a_M_Goal_call : PySem.W.findIn K (.ref C_Goal) "__call__" = some (some (.ref f_M_Goal_call)))
    (i_M_Goal_call : PySem.W.isFn K (.ref f_M_Goal_call) = true)
    (l_M_Goal_call : K.lookup f_M_Goal_call = some ⟨oc_M_Goal_call, od_M_Goal_call, .func (PySem.W.fnOf "__call__" "Goal.__call__" (defArgs s_M_Goal_call) (defBody s_M_Goal_call) (defScope s_M_Goal_call) .none kV_M_Goal_call dc_M_Goal_call pm_M_Goal_call an_M_Goal_call cd_M_Goal_call ct_M_Goal_call), sl_M_Goal_call⟩)
    (c_M_Goal_call : PySem.W.codeIn K cd_M_Goal_call "Goal.__call__" = true)
    (k_M_Goal_call : PySem.W.keepIn K (.ref f_M_Goal_call) = true)
    (a_M_Goal_contains : PySem.W.findIn K (.ref C_Goal) "__contains__" = some (some (.ref f_M_Goal_contains)))
    (i_M_Goal_contains : PySem.W.isFn K (.ref f_M_Goal_contains) = true)
    (l_M_Goal_contains : K.lookup f_M_Goal_contains = some ⟨oc_M_Goal_contains, od_M_Goal_contains, .func (PySem.W.fnOf "__contains__" "Goal.__contains__" (defArgs s_M_Goal_contains) (defBody s_M_Goal_contains) (defScope s_M_Goal_contains) .none kV_M_Goal_contains dc_M_Goal_contains pm_M_Goal_contains an_M_Goal_contains cd_M_Goal_contains ct_M_Goal_contains), sl_M_Goal_contains⟩)
    (c_M_Goal_contains : PySem.W.codeIn K cd_M_Goal_contains "Goal.__contains__" = true)
    (k_M_Goal_contains : PySem.W.keepIn K (.ref f_M_Goal_contains) = true)
    (a_M_Goal_len : PySem.W.findIn K (.ref C_Goal) "__len__" = some (some (.ref f_M_Goal_len)))
    (i_M_Goal_len : PySem.W.isFn K (.ref f_M_Goal_len) = true)
    (l_M_Goal_len : K.lookup f_M_Goal_len = some ⟨oc_M_Goal_len, od_M_Goal_len, .func (PySem.W.fnOf "__len__" "Goal.__len__" (defArgs s_M_Goal_len) (defBody s_M_Goal_len) (defScope s_M_Goal_len) .none kV_M_Goal_len dc_M_Goal_len pm_M_Goal_len an_M_Goal_len cd_M_Goal_len ct_M_Goal_len), sl_M_Goal_len⟩)
    (c_M_Goal_len : PySem.W.codeIn K cd_M_Goal_len "Goal.__len__" = true)
    (k_M_Goal_len : PySem.W.keepIn K (.ref f_M_Goal_len) = true)
    (a_M_Goal_repr : PySem.W.findIn K (.ref C_Goal) "__repr__" = some (some (.ref f_M_Goal_repr)))
    (i_M_Goal_repr : PySem.W.isFn K (.ref f_M_Goal_repr) = true)
    (l_M_Goal_repr : K.lookup f_M_Goal_repr = some ⟨oc_M_Goal_repr, od_M_Goal_repr, .func (PySem.W.fnOf "__repr__" "Goal.__repr__" (defArgs s_M_Goal_repr) (defBody s_M_Goal_repr) (defScope s_M_Goal_repr) .none kV_M_Goal_repr dc_M_Goal_repr pm_M_Goal_repr an_M_Goal_repr cd_M_Goal_repr ct_M_Goal_repr), sl_M_Goal_repr⟩)
    (c_M_Goal_repr : PySem.W.codeIn K cd_M_Goal_repr "Goal.__repr__" = true)
    (k_M_Goal_repr : PySem.W.keepIn K (.ref f_M_Goal_repr) = true)
    (a_l_of : PySem.W.nsIn K mainGlobals "_law_of" = some (some (.ref f_l_of)))
    (l_l_of : K.lookup f_l_of = some ⟨oc_l_of, od_l_of, .func (PySem.W.fnOf "_law_of" "_law_of" (defArgs s_l_of) (defBody s_l_of) (defScope s_l_of) .none kV_l_of dc_l_of pm_l_of an_l_of cd_l_of ct_l_of), sl_l_of⟩)
    (c_l_of : PySem.W.codeIn K cd_l_of "_law_of" = true)
    (k_l_of : PySem.W.keepIn K (.ref f_l_of) = true)
    (a_l_same : PySem.W.nsIn K mainGlobals "_law_same" = some (some (.ref f_l_same)))
    (l_l_same : K.lookup f_l_same = some ⟨oc_l_same, od_l_same, .func (PySem.W.fnOf "_law_same" "_law_same" (defArgs s_l_same) (defBody s_l_same) (defScope s_l_same) .none kV_l_same dc_l_same pm_l_same an_l_same cd_l_same ct_l_same), sl_l_same⟩)
    (c_l_same : PySem.W.codeIn K cd_l_same "_law_same" = true)
    (k_l_same : PySem.W.keepIn K (.ref f_l_same) = true)
    (a_l_sets : PySem.W.nsIn K mainGlobals "_law_sets" = some (some (.ref f_l_sets)))
    (l_l_sets : K.lookup f_l_sets = some ⟨oc_l_sets, od_l_sets, .func (PySem.W.fnOf "_law_sets" "_law_sets" (defArgs s_l_sets) (defBody s_l_sets) (defScope s_l_sets) .none kV_l_sets dc_l_sets pm_l_sets an_l_sets (.ref cdt) ct_l_sets), sl_l_sets⟩)
    (c_l_sets : PySem.W.codeIn K (.ref cdt) "_law_sets" = true)
    (k_l_sets : PySem.W.keepIn K (.ref f_l_sets) = true)
    (a_l_lamps : PySem.W.nsIn K mainGlobals "_law_lamps" = some (some (.ref f_l_lamps)))
    (l_l_lamps : K.lookup f_l_lamps = some ⟨oc_l_lamps, od_l_lamps, .func (PySem.W.fnOf "_law_lamps" "_law_lamps" (defArgs s_l_lamps) (defBody s_l_lamps) (defScope s_l_lamps) .none kV_l_lamps dc_l_lamps pm_l_lamps an_l_lamps cd_l_lamps ct_l_lamps), sl_l_lamps⟩)
    (c_l_lamps : PySem.W.codeIn K cd_l_lamps "_law_lamps" = true)
    (k_l_lamps : PySem.W.keepIn K (.ref f_l_lamps) = true)
    (a_l_lits : PySem.W.nsIn K mainGlobals "_law_lits" = some (some (.ref f_l_lits)))
    (l_l_lits : K.lookup f_l_lits = some ⟨oc_l_lits, od_l_lits, .func (PySem.W.fnOf "_law_lits" "_law_lits" (defArgs s_l_lits) (defBody s_l_lits) (defScope s_l_lits) .none kV_l_lits dc_l_lits pm_l_lits an_l_lits cd_l_lits ct_l_lits), sl_l_lits⟩)
    (c_l_lits : PySem.W.codeIn K cd_l_lits "_law_lits" = true)
    (k_l_lits : PySem.W.keepIn K (.ref f_l_lits) = true)
    (a_l_sentence : PySem.W.nsIn K mainGlobals "_law_sentence" = some (some (.ref f_l_sentence)))
    (l_l_sentence : K.lookup f_l_sentence = some ⟨oc_l_sentence, od_l_sentence, .func (PySem.W.fnOf "_law_sentence" "_law_sentence" (defArgs s_l_sentence) (defBody s_l_sentence) (defScope s_l_sentence) .none kV_l_sentence dc_l_sentence pm_l_sentence an_l_sentence cd_l_sentence ct_l_sentence), sl_l_sentence⟩)
    (c_l_sentence : PySem.W.codeIn K cd_l_sentence "_law_sentence" = true)
    (k_l_sentence : PySem.W.keepIn K (.ref f_l_sentence) = true)
    (a_l_holds : PySem.W.nsIn K mainGlobals "_law_holds" = some (some (.ref f_l_holds)))
    (l_l_holds : K.lookup f_l_holds = some ⟨oc_l_holds, od_l_holds, .func (PySem.W.fnOf "_law_holds" "_law_holds" (defArgs s_l_holds) (defBody s_l_holds) (defScope s_l_holds) .none kV_l_holds dc_l_holds pm_l_holds an_l_holds cd_l_holds ct_l_holds), sl_l_holds⟩)
    (c_l_holds : PySem.W.codeIn K cd_l_holds "_law_holds" = true)
    (k_l_holds : PySem.W.keepIn K (.ref f_l_holds) = true)
    (a_l_aim : PySem.W.nsIn K mainGlobals "_law_aim" = some (some (.ref f_l_aim)))
    (l_l_aim : K.lookup f_l_aim = some ⟨oc_l_aim, od_l_aim, .func (PySem.W.fnOf "_law_aim" "_law_aim" (defArgs s_l_aim) (defBody s_l_aim) (defScope s_l_aim) .none kV_l_aim dc_l_aim pm_l_aim an_l_aim cd_l_aim ct_l_aim), sl_l_aim⟩)
    (c_l_aim : PySem.W.codeIn K cd_l_aim "_law_aim" = true)
    (k_l_aim : PySem.W.keepIn K (.ref f_l_aim) = true)
    (a_law : PySem.W.nsIn K mainGlobals "law" = some (some (.ref f_law)))
    (l_law : K.lookup f_law = some ⟨oc_law, od_law, .func (PySem.W.fnOf "law" "law" (defArgs s_law) (defBody s_law) (defScope s_law) .none kV_law dc_law pm_law an_law (.ref cdl) ct_law), sl_law⟩)
    (c_law : PySem.W.codeIn K (.ref cdl) "law" = true)
    (k_law : PySem.W.keepIn K (.ref f_law) = true)
    (ea1_InvalidSet : PySem.W.nsIn K mainGlobals "InvalidSet" = some (some (.ref C_InvalidSet)))
    (ea2_InvalidSet : K.lookup C_InvalidSet = some (excClassObj nm_InvalidSet q_InvalidSet C_InvalidSet Nn_InvalidSet bs_InvalidSet bm_InvalidSet true sn_InvalidSet sub_InvalidSet ab_InvalidSet col_InvalidSet dd_InvalidSet k0_InvalidSet k1_InvalidSet k2_InvalidSet k3_InvalidSet k5_InvalidSet "ValueError.__new__"))
    (ea3_InvalidSet : PySem.HandSPX.refsVE bm_InvalidSet = true)
    (ea4_InvalidSet : PySem.W.findIn K (.ref C_InvalidSet) "__setattr__" = some (some (.builtin "object.__setattr__")))
    (ea5_InvalidSet : PySem.W.subIn K (.ref C_InvalidSet) (.type "BaseException") = some true)
    (ea6_InvalidSet : PySem.W.typeIn K (.ref C_InvalidSet) = some (.type "type"))
    (ea7_InvalidSet : PySem.W.keepIn K (.ref C_InvalidSet) = true)
    (ea8_InvalidSet : PySem.W.findIn K (.ref C_InvalidSet) "__init__" = some (some (.ref a_InvalidSet)))
    (ea9_InvalidSet : K.lookup a_InvalidSet = some ⟨oc_InvalidSet, od_InvalidSet, .func (PySem.W.ksFn nm2_InvalidSet "InvalidSet.__init__" (defArgs s_M_InvalidSet_init) (defBody s_M_InvalidSet_init) (defScope s_M_InvalidSet_init) .none kV_InvalidSet doc_InvalidSet pm_InvalidSet an_InvalidSet (.ref cda_InvalidSet) ct_InvalidSet cc_InvalidSet), osl_InvalidSet⟩)
    (eb1_InvalidSet : PySem.W.codeIn K (.ref cda_InvalidSet) "InvalidSet.__init__" = true)
    (eb2_InvalidSet : K.lookup cda_InvalidSet = some ⟨ccl_InvalidSet, cdd_InvalidSet, .fields vs_InvalidSet, ccs_InvalidSet⟩)
    (eb3_InvalidSet : vs_InvalidSet[2]? = some (.str file_InvalidSet tf_InvalidSet))
    (eb4_InvalidSet : ((P.main.file : Str) == file_InvalidSet) = true)
    (eb5_InvalidSet : K.lookup cc_InvalidSet = some ⟨cl_InvalidSet, cld_InvalidSet, .cell (some (.ref C_InvalidSet)), csl_InvalidSet⟩)
    (eb6_InvalidSet : PySem.W.clsIn K C_InvalidSet = some cdD_InvalidSet)
    (eb7_InvalidSet : PySem.W.mroIn K C_InvalidSet (.ref C_InvalidSet) = some true)
    (eb8_InvalidSet : PySem.W.ks_superIn K C_InvalidSet C_InvalidSet "__init__" = some (some (.builtin "ValueError.__init__")))
    (eb9_InvalidSet : PySem.W.nsIn K cStatics "thirdparty.any" = some none)
    (ec1_InvalidSet : PySem.W.subIn K (.ref C_InvalidSet) (.type "ValueError") = some true)
    (ec2_InvalidSet : (P.main.scope.names.lookup ("super" : Str)).isSome = false)
    (ec3_InvalidSet : PySem.W.typeIn K (.ref a_InvalidSet) = some (.type "function"))
    (ed1_InvalidSet : PySem.W.findIn K (.ref C_InvalidSet) "__getattribute__" = some (some (.builtin "BaseException.__getattribute__")))
    (ed2_InvalidSet : PySem.W.findIn K (.ref C_InvalidSet) "__getattr__" = some none)
    (ed3_InvalidSet : PySem.W.hasDictIn K C_InvalidSet = true)
    (en_tag_InvalidSet : PySem.W.findIn K (.ref C_InvalidSet) "tag" = some none)
    (en_given_InvalidSet : PySem.W.findIn K (.ref C_InvalidSet) "given" = some none)
    (en_index_InvalidSet : PySem.W.findIn K (.ref C_InvalidSet) "index" = some none)
    (en_name_InvalidSet : PySem.W.findIn K (.ref C_InvalidSet) "name" = some none)
    (en_most_InvalidSet : PySem.W.findIn K (.ref C_InvalidSet) "most" = some none)
    (en_limit_InvalidSet : PySem.W.findIn K (.ref C_InvalidSet) "limit" = some none)
    (en_part_InvalidSet : PySem.W.findIn K (.ref C_InvalidSet) "part" = some none)
    (en_table_InvalidSet : PySem.W.findIn K (.ref C_InvalidSet) "table" = some none)
    (en_room_InvalidSet : PySem.W.findIn K (.ref C_InvalidSet) "room" = some none)
    (en_origin_InvalidSet : PySem.W.findIn K (.ref C_InvalidSet) "origin" = some none)
    (en_many_InvalidSet : PySem.W.findIn K (.ref C_InvalidSet) "many" = some none)
    (en_word_InvalidSet : PySem.W.findIn K (.ref C_InvalidSet) "word" = some none)
    (en_line_InvalidSet : PySem.W.findIn K (.ref C_InvalidSet) "line" = some none)
    (z_len : PySem.W.nsIn K mainGlobals "len" = some none)
    (z_all : PySem.W.nsIn K mainGlobals "all" = some none)
    (z_any : PySem.W.nsIn K mainGlobals "any" = some none)
    (z_range : PySem.W.nsIn K mainGlobals "range" = some none)
    (z_isinstance : PySem.W.nsIn K mainGlobals "isinstance" = some none)
    (z_str : PySem.W.nsIn K mainGlobals "str" = some none)
    (z_int : PySem.W.nsIn K mainGlobals "int" = some none)
    (z_bool : PySem.W.nsIn K mainGlobals "bool" = some none)
    (z_list : PySem.W.nsIn K mainGlobals "list" = some none)
    (z_tuple : PySem.W.nsIn K mainGlobals "tuple" = some none)
    (z_abs : PySem.W.nsIn K mainGlobals "abs" = some none)
    (z_zip : PySem.W.nsIn K mainGlobals "zip" = some none)
    (z_super : PySem.W.nsIn K mainGlobals "super" = some none)
    (z_sorted : PySem.W.nsIn K mainGlobals "sorted" = some none)
    (z_repr : PySem.W.nsIn K mainGlobals "repr" = some none)
    (q_LETTERS : PySem.W.nsIn K mainGlobals "LETTERS" = some (some (.str "abcdefghijklmnopqrstuvwxyz" tk_LETTERS)))
    (q_MOST_LAMPS : PySem.W.nsIn K mainGlobals "MOST_LAMPS" = some (some (.int 4 tk_MOST_LAMPS)))
    (q_MOST_PARTS : PySem.W.nsIn K mainGlobals "MOST_PARTS" = some (some (.int 20 tk_MOST_PARTS)))
    (q_MOST_COUNT : PySem.W.nsIn K mainGlobals "MOST_COUNT" = some (some (.int 4 tk_MOST_COUNT)))
    (q_MOST_LISTED : PySem.W.nsIn K mainGlobals "MOST_LISTED" = some (some (.int 16 tk_MOST_LISTED)))
    (q_FEWEST_JOINED : PySem.W.nsIn K mainGlobals "FEWEST_JOINED" = some (some (.int 2 tk_FEWEST_JOINED)))
    (q_MOST_JOINED : PySem.W.nsIn K mainGlobals "MOST_JOINED" = some (some (.int 4 tk_MOST_JOINED)))
    (q_JOINING_WORDS : PySem.W.nsIn K mainGlobals "JOINING_WORDS" = some (some (.ref ka_JOINING_WORDS)))
    (kl_JOINING_WORDS : K.lookup ka_JOINING_WORDS = some ⟨.type "tuple", kd_JOINING_WORDS, .seq #[.str "and" t0_JOINING_WORDS, .str "or" t1_JOINING_WORDS] kn_JOINING_WORDS, ks_JOINING_WORDS⟩)
    (p1_Goal : PySem.W.plainGet K C_Goal Str.empty = true)
    (p2_Goal : PySem.W.hasDictIn K C_Goal = true)
    (p3_Goal : PySem.W.plainOver K C_Goal = true)
    (p4_Goal : PySem.W.findIn K (.ref C_Goal) "__setattr__" = some (some (.builtin "object.__setattr__")))
    (mk_Goal : PySem.W.makesIn K C_Goal = true)
    (ck_Goal : PySem.W.keepIn K (.ref C_Goal) = true)
    (na_Goal_letters : PySem.W.findIn K (.ref C_Goal) "letters" = some none)
    (na_Goal_wording : PySem.W.findIn K (.ref C_Goal) "wording" = some none)
    (na_Goal_held : PySem.W.findIn K (.ref C_Goal) "held" = some none)
    (nn_GoalError : PySem.W.nsIn K mainGlobals "GoalError" = some (some (.ref N_GoalError)))
    (nn_UnknownName : PySem.W.nsIn K mainGlobals "UnknownName" = some (some (.ref N_UnknownName)))
    (nn_NothingLeft : PySem.W.nsIn K mainGlobals "NothingLeft" = some (some (.ref N_NothingLeft)))
    (exm_InvalidSet : PySem.W.exmAny K (.ref C_InvalidSet) [.ref N_GoalError, .ref N_UnknownName, .ref N_NothingLeft] = some true)
    (lw1 : K.lookup cdl = some ⟨.type "code", cdd_lw, .fields vs_lw, sl_lw⟩)
    (lw2 : vs_lw[11]? = some (.ref tbl))
    (lw3 : vs_lw.getD 18 .none = .str file_lw tf_lw)
    (lw4 : vs_lw.getD 7 .none = .int flags_lw tg_lw)
    (lw5 : vs_lw.getD 9 .none = .bool inF_lw)
    (lw6 : vs_lw.getD 10 .none = .int text_lw tt_lw)
    (lw7 : cdl ≠ tbl)
    (lw8 : K.lookup tbl = none)
    (lt1 : K.lookup cdt = some ⟨.type "code", cdd_lt, .fields vs_lt, sl_lt⟩)
    (lt2 : vs_lt[11]? = some (.ref tbt))
    (lt3 : vs_lt.getD 18 .none = .str file_lt tf_lt)
    (lt4 : vs_lt.getD 7 .none = .int flags_lt tg_lt)
    (lt5 : vs_lt.getD 9 .none = .bool inF_lt)
    (lt6 : vs_lt.getD 10 .none = .int text_lt tt_lt)
    (lt7 : cdt ≠ tbt)
    (lt8 : K.lookup tbt = none)
    (lt9 : tbl ≠ tbt) :
    LamX.LawAtS l w K CX0 11 63 "_law_script" mg fa h := by
  subst hP
  have own1 := own "law" List.mem_cons_self _ hfa
  have own2 := own "_law_sets" (List.mem_cons_of_mem _ List.mem_cons_self) _ (PySem.W.mg_of X G a_l_sets)
  have e := hfa.symm.trans (PySem.W.mg_of X G a_law)
  cases e
  refine ⟨_, [(cdl, tbl), (cdt, tbt)], sp_law tbl tbt K, fun p hp => ?_, fun p hp => ?_, fun p hp => ?_, fun s v => .of_eq rfl, fun H a ns hl _ hH hS => ⟨a, ns, rfl, hS, hl, fun _ => rfl, hH _ List.mem_cons_self, hH _ (List.mem_cons_of_mem _ List.mem_cons_self)⟩, fun base _ _ tb => ok_law (top_mk X G a_l_bag l_l_bag c_l_bag k_l_bag a_l_pull l_l_pull c_l_pull k_l_pull a_l_part_of l_l_part_of c_l_part_of k_l_part_of a_l_last_field l_l_last_field c_l_last_field k_l_last_field a_l_field l_l_field c_l_field k_l_field a_l_why l_l_why c_l_why k_l_why a_l_whys l_l_whys c_l_whys k_l_whys a_copied l_copied c_copied k_copied a_is_number l_is_number c_is_number k_is_number a_is_ascending l_is_ascending c_is_ascending k_is_ascending a_is_within l_is_within c_is_within k_is_within a_is_set l_is_set c_is_set k_is_set a_is_lamps l_is_lamps c_is_lamps k_is_lamps a_check_lamps l_check_lamps c_check_lamps k_check_lamps a_listed_sets l_listed_sets c_listed_sets k_listed_sets a_inner_sentences l_inner_sentences c_inner_sentences k_inner_sentences a_next_parts l_next_parts c_next_parts k_next_parts a_is_count l_is_count c_is_count k_is_count a_has_form l_has_form c_has_form k_has_form a_check_sentence l_check_sentence c_check_sentence k_check_sentence a_sentence_holds l_sentence_holds c_sentence_holds k_sentence_holds a_M_Goal_init_c a_M_Goal_init i_M_Goal_init l_M_Goal_init c_M_Goal_init k_M_Goal_init a_M_Goal_lamps b_M_Goal_lamps e_M_Goal_lamps g_M_Goal_lamps l_M_Goal_lamps c_M_Goal_lamps k_M_Goal_lamps a_M_Goal_sentence b_M_Goal_sentence e_M_Goal_sentence g_M_Goal_sentence l_M_Goal_sentence c_M_Goal_sentence k_M_Goal_sentence a_M_Goal_sets i_M_Goal_sets l_M_Goal_sets c_M_Goal_sets k_M_Goal_sets a_M_Goal_holds_for i_M_Goal_holds_for l_M_Goal_holds_for c_M_Goal_holds_for k_M_Goal_holds_for a_M_Goal_call i_M_Goal_call l_M_Goal_call c_M_Goal_call k_M_Goal_call a_M_Goal_contains i_M_Goal_contains l_M_Goal_contains c_M_Goal_contains k_M_Goal_contains a_M_Goal_len i_M_Goal_len l_M_Goal_len c_M_Goal_len k_M_Goal_len a_M_Goal_repr i_M_Goal_repr l_M_Goal_repr c_M_Goal_repr k_M_Goal_repr a_l_of l_l_of c_l_of k_l_of a_l_same l_l_same c_l_same k_l_same a_l_sets l_l_sets c_l_sets k_l_sets a_l_lamps l_l_lamps c_l_lamps k_l_lamps a_l_lits l_l_lits c_l_lits k_l_lits a_l_sentence l_l_sentence c_l_sentence k_l_sentence a_l_holds l_l_holds c_l_holds k_l_holds a_l_aim l_l_aim c_l_aim k_l_aim a_law l_law c_law k_law ea1_InvalidSet ea2_InvalidSet ea3_InvalidSet ea4_InvalidSet ea5_InvalidSet ea6_InvalidSet ea7_InvalidSet ea8_InvalidSet ea9_InvalidSet eb1_InvalidSet eb2_InvalidSet eb3_InvalidSet eb4_InvalidSet eb5_InvalidSet eb6_InvalidSet eb7_InvalidSet eb8_InvalidSet eb9_InvalidSet ec1_InvalidSet ec2_InvalidSet ec3_InvalidSet ed1_InvalidSet ed2_InvalidSet ed3_InvalidSet en_tag_InvalidSet en_given_InvalidSet en_index_InvalidSet en_name_InvalidSet en_most_InvalidSet en_limit_InvalidSet en_part_InvalidSet en_table_InvalidSet en_room_InvalidSet en_origin_InvalidSet en_many_InvalidSet en_word_InvalidSet en_line_InvalidSet z_len z_all z_any z_range z_isinstance z_str z_int z_bool z_list z_tuple z_abs z_zip z_super z_sorted z_repr q_LETTERS q_MOST_LAMPS q_MOST_PARTS q_MOST_COUNT q_MOST_LISTED q_FEWEST_JOINED q_MOST_JOINED q_JOINING_WORDS kl_JOINING_WORDS p1_Goal p2_Goal p3_Goal p4_Goal mk_Goal ck_Goal na_Goal_letters na_Goal_wording na_Goal_held nn_GoalError nn_UnknownName nn_NothingLeft exm_InvalidSet lw1 lw2 lw3 lw4 lw5 lw6 lw7 lw8 lt1 lt2 lt3 lt4 lt5 lt6 lt7 lt8 lt9) (tb _ List.mem_cons_self) (tb _ (List.mem_cons_of_mem _ List.mem_cons_self)) truth⟩
  · rcases (List.mem_cons (a := p)).mp hp with rfl | hp
    · exact own1 cdl tbl _ _ _ _ _ _ l_law rfl rfl lw1 lw2
    · rw [(List.mem_singleton (a := p)).mp hp]
      exact own2 cdt tbt _ _ _ _ _ _ l_l_sets rfl rfl lt1 lt2
  · rcases (List.mem_cons (a := p)).mp hp with rfl | hp
    · exact lw8
    · rw [(List.mem_singleton (a := p)).mp hp]
      exact lt8
  · rcases (List.mem_cons (a := p)).mp hp with rfl | hp
    · exact codeHd_mk X lw1 lw2 lw3 lw4 lw5 lw6 lw7
    · rw [(List.mem_singleton (a := p)).mp hp]
      exact codeHd_mk X lt1 lt2 lt3 lt4 lt5 lt6 lt7
end Rg
open PySem PySem.W PyProof.Rows
set_option maxHeartbeats 0 in
theorem PySem.Challenge.cw_relitgoals_k05_goals_hold_holds : PySem.Challenge.rw_relitgoals_k05_goals_hold.Holds := by
  w_on; o_law; k_head; (case hw => w_witness2)
  k_fill
  refine Rg.walk_owns (l := PySem.Challenge.rw_relitgoals_k05_goals_hold) (n := 63) (k := 11) (x := "_law_script") (CX := fun _ => L2.CX0) ["law", "_law_sets"] rfl (by decide) rfl ⟨rfl, by decide, by decide⟩ (by first | decide +kernel | (intro y hy; rcases (List.mem_cons (a := y)).mp hy with rfl | hy; rfl; rw [(List.mem_singleton (a := y)).mp hy]; rfl)) (fun w h Y => PySem.W.km_in_of Y) ?F (fun _ _ _ _ _ h => h)
  case F =>
    intro w mg fa h YY KX G hmg own
    refine' Rg.all_mk (P := PySem.Challenge.rw_relitgoals_k05_goals_hold.prog) rfl KX G hmg own ?a_l_bag ?l_l_bag ?c_l_bag ?k_l_bag ?a_l_pull ?l_l_pull ?c_l_pull ?k_l_pull ?a_l_part_of ?l_l_part_of ?c_l_part_of ?k_l_part_of ?a_l_last_field ?l_l_last_field ?c_l_last_field ?k_l_last_field ?a_l_field ?l_l_field ?c_l_field ?k_l_field ?a_l_why ?l_l_why ?c_l_why ?k_l_why ?a_l_whys ?l_l_whys ?c_l_whys ?k_l_whys ?a_copied ?l_copied ?c_copied ?k_copied ?a_is_number ?l_is_number ?c_is_number ?k_is_number ?a_is_ascending ?l_is_ascending ?c_is_ascending ?k_is_ascending ?a_is_within ?l_is_within ?c_is_within ?k_is_within ?a_is_set ?l_is_set ?c_is_set ?k_is_set ?a_is_lamps ?l_is_lamps ?c_is_lamps ?k_is_lamps ?a_check_lamps ?l_check_lamps ?c_check_lamps ?k_check_lamps ?a_listed_sets ?l_listed_sets ?c_listed_sets ?k_listed_sets ?a_inner_sentences ?l_inner_sentences ?c_inner_sentences ?k_inner_sentences ?a_next_parts ?l_next_parts ?c_next_parts ?k_next_parts ?a_is_count ?l_is_count ?c_is_count ?k_is_count ?a_has_form ?l_has_form ?c_has_form ?k_has_form ?a_check_sentence ?l_check_sentence ?c_check_sentence ?k_check_sentence ?a_sentence_holds ?l_sentence_holds ?c_sentence_holds ?k_sentence_holds ?a_M_Goal_init_c ?a_M_Goal_init ?i_M_Goal_init ?l_M_Goal_init ?c_M_Goal_init ?k_M_Goal_init ?a_M_Goal_lamps ?b_M_Goal_lamps ?e_M_Goal_lamps ?g_M_Goal_lamps ?l_M_Goal_lamps ?c_M_Goal_lamps ?k_M_Goal_lamps ?a_M_Goal_sentence ?b_M_Goal_sentence ?e_M_Goal_sentence ?g_M_Goal_sentence ?l_M_Goal_sentence ?c_M_Goal_sentence ?k_M_Goal_sentence ?a_M_Goal_sets ?i_M_Goal_sets ?l_M_Goal_sets ?c_M_Goal_sets ?k_M_Goal_sets ?a_M_Goal_holds_for ?i_M_Goal_holds_for ?l_M_Goal_holds_for ?c_M_Goal_holds_for ?k_M_Goal_holds_for ?a_M_Goal_call ?i_M_Goal_call ?l_M_Goal_call ?c_M_Goal_call ?k_M_Goal_call ?a_M_Goal_contains ?i_M_Goal_contains ?l_M_Goal_contains ?c_M_Goal_contains ?k_M_Goal_contains ?a_M_Goal_len ?i_M_Goal_len ?l_M_Goal_len ?c_M_Goal_len ?k_M_Goal_len ?a_M_Goal_repr ?i_M_Goal_repr ?l_M_Goal_repr ?c_M_Goal_repr ?k_M_Goal_repr ?a_l_of ?l_l_of ?c_l_of ?k_l_of ?a_l_same ?l_l_same ?c_l_same ?k_l_same ?a_l_sets ?l_l_sets ?c_l_sets ?k_l_sets ?a_l_lamps ?l_l_lamps ?c_l_lamps ?k_l_lamps ?a_l_lits ?l_l_lits ?c_l_lits ?k_l_lits ?a_l_sentence ?l_l_sentence ?c_l_sentence ?k_l_sentence ?a_l_holds ?l_l_holds ?c_l_holds ?k_l_holds ?a_l_aim ?l_l_aim ?c_l_aim ?k_l_aim ?a_law ?l_law ?c_law ?k_law ?ea1_InvalidSet ?ea2_InvalidSet ?ea3_InvalidSet ?ea4_InvalidSet ?ea5_InvalidSet ?ea6_InvalidSet ?ea7_InvalidSet ?ea8_InvalidSet ?ea9_InvalidSet ?eb1_InvalidSet ?eb2_InvalidSet ?eb3_InvalidSet ?eb4_InvalidSet ?eb5_InvalidSet ?eb6_InvalidSet ?eb7_InvalidSet ?eb8_InvalidSet ?eb9_InvalidSet ?ec1_InvalidSet ?ec2_InvalidSet ?ec3_InvalidSet ?ed1_InvalidSet ?ed2_InvalidSet ?ed3_InvalidSet ?en_tag_InvalidSet ?en_given_InvalidSet ?en_index_InvalidSet ?en_name_InvalidSet ?en_most_InvalidSet ?en_limit_InvalidSet ?en_part_InvalidSet ?en_table_InvalidSet ?en_room_InvalidSet ?en_origin_InvalidSet ?en_many_InvalidSet ?en_word_InvalidSet ?en_line_InvalidSet ?z_len ?z_all ?z_any ?z_range ?z_isinstance ?z_str ?z_int ?z_bool ?z_list ?z_tuple ?z_abs ?z_zip ?z_super ?z_sorted ?z_repr ?q_LETTERS ?q_MOST_LAMPS ?q_MOST_PARTS ?q_MOST_COUNT ?q_MOST_LISTED ?q_FEWEST_JOINED ?q_MOST_JOINED ?q_JOINING_WORDS ?kl_JOINING_WORDS ?p1_Goal ?p2_Goal ?p3_Goal ?p4_Goal ?mk_Goal ?ck_Goal ?na_Goal_letters ?na_Goal_wording ?na_Goal_held ?nn_GoalError ?nn_UnknownName ?nn_NothingLeft ?exm_InvalidSet ?lw1 ?lw2 ?lw3 ?lw4 ?lw5 ?lw6 ?lw7 ?lw8 ?lt1 ?lt2 ?lt3 ?lt4 ?lt5 ?lt6 ?lt7 ?lt8 ?lt9
    (case a_l_bag => k_is); (case l_l_bag => k_is); (case c_l_bag => k_is); (case k_l_bag => k_is); (case a_l_pull => k_is); (case l_l_pull => k_is); (case c_l_pull => k_is); (case k_l_pull => k_is); (case a_l_part_of => k_is); (case l_l_part_of => k_is); (case c_l_part_of => k_is); (case k_l_part_of => k_is); (case a_l_last_field => k_is); (case l_l_last_field => k_is); (case c_l_last_field => k_is); (case k_l_last_field => k_is); (case a_l_field => k_is); (case l_l_field => k_is); (case c_l_field => k_is); (case k_l_field => k_is); (case a_l_why => k_is); (case l_l_why => k_is); (case c_l_why => k_is); (case k_l_why => k_is); (case a_l_whys => k_is); (case l_l_whys => k_is); (case c_l_whys => k_is); (case k_l_whys => k_is); (case a_copied => k_is); (case l_copied => k_is); (case c_copied => k_is); (case k_copied => k_is); (case a_is_number => k_is); (case l_is_number => k_is); (case c_is_number => k_is); (case k_is_number => k_is); (case a_is_ascending => k_is); (case l_is_ascending => k_is); (case c_is_ascending => k_is); (case k_is_ascending => k_is); (case a_is_within => k_is); (case l_is_within => k_is); (case c_is_within => k_is); (case k_is_within => k_is); (case a_is_set => k_is); (case l_is_set => k_is); (case c_is_set => k_is); (case k_is_set => k_is); (case a_is_lamps => k_is); (case l_is_lamps => k_is); (case c_is_lamps => k_is); (case k_is_lamps => k_is); (case a_check_lamps => k_is); (case l_check_lamps => k_is); (case c_check_lamps => k_is); (case k_check_lamps => k_is); (case a_listed_sets => k_is); (case l_listed_sets => k_is); (case c_listed_sets => k_is); (case k_listed_sets => k_is); (case a_inner_sentences => k_is); (case l_inner_sentences => k_is); (case c_inner_sentences => k_is); (case k_inner_sentences => k_is); (case a_next_parts => k_is); (case l_next_parts => k_is); (case c_next_parts => k_is); (case k_next_parts => k_is); (case a_is_count => k_is); (case l_is_count => k_is); (case c_is_count => k_is); (case k_is_count => k_is); (case a_has_form => k_is); (case l_has_form => k_is); (case c_has_form => k_is); (case k_has_form => k_is); (case a_check_sentence => k_is); (case l_check_sentence => k_is); (case c_check_sentence => k_is); (case k_check_sentence => k_is); (case a_sentence_holds => k_is); (case l_sentence_holds => k_is); (case c_sentence_holds => k_is); (case k_sentence_holds => k_is); (case a_M_Goal_init_c => k_is); (case a_M_Goal_init => k_is); (case i_M_Goal_init => k_is); (case l_M_Goal_init => k_is); (case c_M_Goal_init => k_is); (case k_M_Goal_init => k_is); (case a_M_Goal_lamps => k_is); (case b_M_Goal_lamps => k_is); (case e_M_Goal_lamps => k_is); (case g_M_Goal_lamps => k_is); (case l_M_Goal_lamps => k_is); (case c_M_Goal_lamps => k_is); (case k_M_Goal_lamps => k_is); (case a_M_Goal_sentence => k_is); (case b_M_Goal_sentence => k_is); (case e_M_Goal_sentence => k_is); (case g_M_Goal_sentence => k_is); (case l_M_Goal_sentence => k_is); (case c_M_Goal_sentence => k_is); (case k_M_Goal_sentence => k_is); (case a_M_Goal_sets => k_is); (case i_M_Goal_sets => k_is); (case l_M_Goal_sets => k_is); (case c_M_Goal_sets => k_is); (case k_M_Goal_sets => k_is); (case a_M_Goal_holds_for => k_is); (case i_M_Goal_holds_for => k_is); (case l_M_Goal_holds_for => k_is); (case c_M_Goal_holds_for => k_is); (case k_M_Goal_holds_for => k_is); (case a_M_Goal_call => k_is); (case i_M_Goal_call => k_is); (case l_M_Goal_call => k_is); (case c_M_Goal_call => k_is); (case k_M_Goal_call => k_is); (case a_M_Goal_contains => k_is); (case i_M_Goal_contains => k_is); (case l_M_Goal_contains => k_is); (case c_M_Goal_contains => k_is); (case k_M_Goal_contains => k_is); (case a_M_Goal_len => k_is); (case i_M_Goal_len => k_is); (case l_M_Goal_len => k_is); (case c_M_Goal_len => k_is); (case k_M_Goal_len => k_is); (case a_M_Goal_repr => k_is); (case i_M_Goal_repr => k_is); (case l_M_Goal_repr => k_is); (case c_M_Goal_repr => k_is); (case k_M_Goal_repr => k_is); (case a_l_of => k_is); (case l_l_of => k_is); (case c_l_of => k_is); (case k_l_of => k_is); (case a_l_same => k_is); (case l_l_same => k_is); (case c_l_same => k_is); (case k_l_same => k_is); (case a_l_sets => k_is); (case l_l_sets => k_is); (case c_l_sets => k_is); (case k_l_sets => k_is); (case a_l_lamps => k_is); (case l_l_lamps => k_is); (case c_l_lamps => k_is); (case k_l_lamps => k_is); (case a_l_lits => k_is); (case l_l_lits => k_is); (case c_l_lits => k_is); (case k_l_lits => k_is); (case a_l_sentence => k_is); (case l_l_sentence => k_is); (case c_l_sentence => k_is); (case k_l_sentence => k_is); (case a_l_holds => k_is); (case l_l_holds => k_is); (case c_l_holds => k_is); (case k_l_holds => k_is); (case a_l_aim => k_is); (case l_l_aim => k_is); (case c_l_aim => k_is); (case k_l_aim => k_is); (case a_law => k_is); (case l_law => k_is); (case c_law => k_is); (case k_law => k_is); (case ea1_InvalidSet => k_is); (case ea2_InvalidSet => k_is); (case ea3_InvalidSet => first | kernel_rfl | (decide +kernel) | rfl); (case ea4_InvalidSet => k_is); (case ea5_InvalidSet => k_is); (case ea6_InvalidSet => k_is); (case ea7_InvalidSet => k_is); (case ea8_InvalidSet => k_is); (case ea9_InvalidSet => k_is); (case eb1_InvalidSet => k_is); (case eb2_InvalidSet => k_is); (case eb3_InvalidSet => first | rfl | kernel_rfl); (case eb4_InvalidSet => first | rfl | (decide +kernel)); (case eb5_InvalidSet => k_is); (case eb6_InvalidSet => k_is); (case eb7_InvalidSet => k_is); (case eb8_InvalidSet => first | kernel_rfl | rfl); (case eb9_InvalidSet => k_is); (case ec1_InvalidSet => k_is); (case ec2_InvalidSet => first | rfl | (decide +kernel)); (case ec3_InvalidSet => k_is); (case ed1_InvalidSet => k_is); (case ed2_InvalidSet => k_is); (case ed3_InvalidSet => k_is); (case en_tag_InvalidSet => k_is); (case en_given_InvalidSet => k_is); (case en_index_InvalidSet => k_is); (case en_name_InvalidSet => k_is); (case en_most_InvalidSet => k_is); (case en_limit_InvalidSet => k_is); (case en_part_InvalidSet => k_is); (case en_table_InvalidSet => k_is); (case en_room_InvalidSet => k_is); (case en_origin_InvalidSet => k_is); (case en_many_InvalidSet => k_is); (case en_word_InvalidSet => k_is); (case en_line_InvalidSet => k_is); (case z_len => k_is); (case z_all => k_is); (case z_any => k_is); (case z_range => k_is); (case z_isinstance => k_is); (case z_str => k_is); (case z_int => k_is); (case z_bool => k_is); (case z_list => k_is); (case z_tuple => k_is); (case z_abs => k_is); (case z_zip => k_is); (case z_super => k_is); (case z_sorted => k_is); (case z_repr => k_is); (case q_LETTERS => k_is); (case q_MOST_LAMPS => k_is); (case q_MOST_PARTS => k_is); (case q_MOST_COUNT => k_is); (case q_MOST_LISTED => k_is); (case q_FEWEST_JOINED => k_is); (case q_MOST_JOINED => k_is); (case q_JOINING_WORDS => k_is); (case kl_JOINING_WORDS => k_is); (case p1_Goal => k_is); (case p2_Goal => k_is); (case p3_Goal => k_is); (case p4_Goal => k_is); (case mk_Goal => k_is); (case ck_Goal => k_is); (case na_Goal_letters => k_is); (case na_Goal_wording => k_is); (case na_Goal_held => k_is); (case nn_GoalError => k_is); (case nn_UnknownName => k_is); (case nn_NothingLeft => k_is); (case exm_InvalidSet => first | k_is | kernel_rfl | (decide +kernel)); (case lw1 => k_is); (case lw2 => first | rfl | kernel_rfl); (case lw3 => first | rfl | kernel_rfl); (case lw4 => first | rfl | kernel_rfl); (case lw5 => first | rfl | kernel_rfl); (case lw6 => first | rfl | kernel_rfl); (case lw7 => first | decide | (intro z; cases z)); (case lw8 => first | k_is | kernel_rfl | (decide +kernel)); (case lt1 => k_is); (case lt2 => first | rfl | kernel_rfl); (case lt3 => first | rfl | kernel_rfl); (case lt4 => first | rfl | kernel_rfl); (case lt5 => first | rfl | kernel_rfl); (case lt6 => first | rfl | kernel_rfl); (case lt7 => first | decide | (intro z; cases z)); (case lt8 => first | k_is | kernel_rfl | (decide +kernel)); (case lt9 => first | decide | (intro z; cases z))
