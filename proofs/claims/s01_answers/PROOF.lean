import PyProof.Rows.All
import Wide.All
import OpenK.AllK
import Wide.FinOn
import PyProof.EqAt
import PyProof.EqKinds
import PyProof.TupleCall
import KE.KFromBytes
import HandS.Base
import HandS.Call
import HandS.List
import HandS.Ends
import HandS.Exc
import HandS.ExcInit
import HandS.ClsMeth
import Open.SpecLaws
import KE.OsGo
import KE.GoesEnum
import HandS.ForSpec
import HandS.TryMany
import HandS.Dict
import HandS.Iter
import HandS.Text
import HandS.Comp
import HandS.More
import HandS.FStr
import HandS.WordsDict
import HandS.CallLocal
import HandS.Evl
import HandS.Walk
import KE.DatumOrd
import HandS.SortKw
import HandS.Conv
import HandS.Rev
import HandS.SetFor
import HandS.SortInts
import HandS.TupLen
import HandS.CallRecv
import HandS.ExcField
import HandS.Spec
import PySem.Challenge.RW_hurdlefolds_s01_answers
set_option Elab.async false
set_option linter.all false
set_option maxRecDepth 100000
set_option maxHeartbeats 40000000
/-! ## Own errors under Exception, each with an own __init__ that calls its base's -/
namespace HF
open PySem PySem.W PySem.Calls PyProof.Rows PySem.HandSPX Builtin Builtin.ObjectAttr
abbrev exT : List Value := [.type "Exception", .type "BaseException", .type "object"]
/-- own classes first, then those of Exception -/
def refsX (l : List Value) : Bool := match l with
  | .ref _ :: r => refsX r
  | l => l == exT
theorem refsX_ref (c : Addr) (r : List Value) : refsX (.ref c :: r) = refsX r := by
  rw [refsX]
theorem refsX_or (l : List Value) (e : refsX l = true) : (∃ c r, l = .ref c :: r ∧ refsX r = true) ∨ l = exT := by
  unfold refsX at e
  split at e
  · exact .inl ⟨_, _, rfl, e⟩
  · exact .inr (beq_iff_eq.mp e)
theorem refsX_ind {p : List Value → Prop} (h0 : p exT) (h1 : ∀ c r, p r → p (.ref c :: r)) : ∀ l : List Value, refsX l = true → p l := by
  intro l
  induction l with
  | nil => exact fun e => absurd e (by decide)
  | cons a r ih =>
    intro e
    rcases refsX_or (a :: r) e with ⟨c, t, q, h⟩ | q
    · cases q
      exact h1 _ _ (ih h)
    · rw [q]
      exact h0
theorem refsX_pass (self : Value) (l : List Value) (e : refsX l = true) : refuseLoop self "__setattr__" l = pure () :=
  refsX_ind (p := fun l => refuseLoop self "__setattr__" l = pure ()) (F.store_Exception.passes self) (fun c r h => (refuseLoop_ref ..).trans h) l e
theorem refsX_has (Y : String) (l : List Value) (e : refsX l = true) : l.contains (.type Y) = exT.contains (.type Y) :=
  refsX_ind (p := fun l => l.contains (.type Y) = exT.contains (.type Y)) rfl (fun c r h => by rw [List.contains_cons, h]; rfl) l e
theorem refsX_ne {l : List Value} (e : refsX l = true) : l.isEmpty = false :=
  refsX_ind (p := fun l => l.isEmpty = false) rfl (fun _ _ _ => rfl) l e
section
variable {prog : Program} {w : World} {A : Around} {E : Value → Shared → Prop} {R : Result → Shared → Prop} {hp : Heap} {g : Array GenState} {d : Drawn} {t : Nat} {os : OsState}
/-- the first field of such an error -/
theorem osa1 {K : W.Frag} {name : Str} {tk : Tok} {v : Value} {x C : Addr} {fv : Array Value} {cd : ClassData}
    (X : K.In hp) (hx : hp.get? x = some { cls := .ref C, data := .fields fv }) (hcd : W.clsIn K C = some cd) (hm : refsX cd.mro = true) (hh : cd.hasDict = true) (ha : W.findIn K (.ref C) name = some none)
    (hq : ∀ h' tk' dx, (∀ b o, b ≠ x → hp.get? b = some o → h'.get? b = some o) → hp.objs.size ≤ dx → dx ≠ x → h'.get? x = some { cls := .ref C, dict := some dx, data := .fields fv } →
      h'.Ns1 dx (fun y => if y = name then some v else none) → R (.ok (.ret .none)) ⟨h', g, d, tk', os⟩) :
    codeAny (model prog w) A (.call (.builtin "object.__setattr__") ⟨[.ref x, .str name tk, v], []⟩) R ⟨hp, g, d, t, os⟩ := by
  have J : W.InstAt hp x { cls := .ref C, data := .fields fv } C none := ⟨hx, rfl, rfl, trivial⟩
  have S := F.store_object
  have nem := refsX_ne hm
  have hob : cd.mro.contains (.type "object") = true := (refsX_has "object" _ hm).trans (by decide +kernel)
  have hxs : x ≠ hp.objs.size := Nat.ne_of_lt (Heap.lt_size hx)
  have sub : W.Looks (model prog w) hp (isInstance (.ref x) (.type "object")) true := J.type.andThen (W.looks_mroIn X (by unfold W.mroIn; rw [hcd, Option.bind_some, if_neg (by rw [nem]; decide), hob]))
  refine codeAny_call_builtin S.slot.plain S.entry (@W.check_slot (model prog w) _ _ ⟨hp, g, d, t, os⟩ "object.__setattr__" "object" "__setattr__" (.ref x) [.str name tk, v] [] _ S.kind S.split sub (S.args (.ref x) (.str name tk) v) ?_)
  have mroL : W.Looks (model prog w) hp (mroOf (.ref C)) cd.mro := (W.looks_clsIn X hcd).andThen .now
  have L3 : W.Looks (model prog w) hp (storeTaker? none) none := .now
  have clsL : W.Looks (model prog w) hp (classData C) cd := W.looks_clsIn X hcd
  rw [W.osa_eq, refuse_eq]
  refine wpAny_bind (wpAny_bind (J.type.at (wpAny_bind (mroL.at ?_))))
  rw [refsX_pass _ _ hm]
  refine wpAny_pure (wpAny_bind (J.type.at (wpAny_bind ((W.looks_findIn X ha).at (wpAny_bind (L3.at ?_))))))
  show wpAny _ _ (storeInOwnDict (.ref x) (.ref C) (.str name tk) name v false) _ _ _
  obtain ⟨nm, bs, mro, ns, qn, hd, sn, sb, ab, col, del⟩ := cd
  dsimp only at hh
  subst hh
  unfold storeInOwnDict ownDictForStores
  repeat (first | with_reducible refine store_in_new ?_ ?_ | with_reducible refine wpAny_loadPart_at hx ?_ | with_reducible refine clsL.at ?_ | wp_step)
  · exact ⟨_, #[], _, (Heap.get?_update_ne _ _ _ _ hxs.symm).trans (Heap.get?_push_at rfl rfl), rfl, fun e he => absurd he (by simp), fun _ => rfl⟩
  · intro h' tk' hn' hs
    have hx1 : (hp.push { cls := .type "dict", data := .dict #[] }).get? x = some { cls := .ref C, data := .fields fv } := Heap.get?_push_of_some _ hx
    refine hq h' tk' hp.objs.size (fun b o hb ho => ?_) (Nat.le_refl _) hxs.symm ((hs.2 x hxs).trans (Heap.get?_update_self _ hx1 rfl)) hn'
    exact (hs.2 b (Nat.ne_of_lt (Heap.lt_size ho))).trans ((Heap.get?_update_ne _ _ _ _ hb).trans (Heap.get?_push_of_some _ ho))
/-- a further one -/
theorem osa2 {K : W.Frag} {name : Str} {tk : Tok} {v : Value} {x C dx : Addr} {fv : Array Value} {cd : ClassData} {m0 : Str → Option Value} {nl : List Str}
    (X : K.In hp) (hx : hp.get? x = some { cls := .ref C, dict := some dx, data := .fields fv }) (hns : hp.Ns1 dx m0) (hw : Within m0 nl) (hz : nl.length ≤ 1000) (hcd : W.clsIn K C = some cd) (hm : refsX cd.mro = true) (hh : cd.hasDict = true)
    (ha : W.findIn K (.ref C) name = some none)
    (hq : ∀ h' tk', (∀ b o, b ≠ dx → hp.get? b = some o → h'.get? b = some o) → h'.Ns1 dx (fun y => if y = name then some v else m0 y) → R (.ok (.ret .none)) ⟨h', g, d, tk', os⟩) :
    codeAny (model prog w) A (.call (.builtin "object.__setattr__") ⟨[.ref x, .str name tk, v], []⟩) R ⟨hp, g, d, t, os⟩ := by
  obtain ⟨oD, esD, epD, hoD, hdD, _⟩ := hns.count hw
  have J : W.InstAt hp x { cls := .ref C, dict := some dx, data := .fields fv } C (some oD) := ⟨hx, rfl, rfl, hoD⟩
  have S := F.store_object
  have nem := refsX_ne hm
  have hob : cd.mro.contains (.type "object") = true := (refsX_has "object" _ hm).trans (by decide +kernel)
  have sub : W.Looks (model prog w) hp (isInstance (.ref x) (.type "object")) true := J.type.andThen (W.looks_mroIn X (by unfold W.mroIn; rw [hcd, Option.bind_some, if_neg (by rw [nem]; decide), hob]))
  refine codeAny_call_builtin S.slot.plain S.entry (@W.check_slot (model prog w) _ _ ⟨hp, g, d, t, os⟩ "object.__setattr__" "object" "__setattr__" (.ref x) [.str name tk, v] [] _ S.kind S.split sub (S.args (.ref x) (.str name tk) v) ?_)
  have mroL : W.Looks (model prog w) hp (mroOf (.ref C)) cd.mro := (W.looks_clsIn X hcd).andThen .now
  have L3 : W.Looks (model prog w) hp (storeTaker? none) none := .now
  have clsL : W.Looks (model prog w) hp (classData C) cd := W.looks_clsIn X hcd
  rw [W.osa_eq, refuse_eq]
  refine wpAny_bind (wpAny_bind (J.type.at (wpAny_bind (mroL.at ?_))))
  rw [refsX_pass _ _ hm]
  refine wpAny_pure (wpAny_bind (J.type.at (wpAny_bind ((W.looks_findIn X ha).at (wpAny_bind (L3.at ?_))))))
  show wpAny _ _ (storeInOwnDict (.ref x) (.ref C) (.str name tk) name v false) _ _ _
  obtain ⟨nm, bs, mro, ns, qn, hd, sn, sb, ab, col, del⟩ := cd
  dsimp only at hh
  subst hh
  unfold storeInOwnDict ownDictForStores
  repeat (first | with_reducible refine PySem.OEX.store_in_old hns hw hz ?_ | with_reducible refine wpAny_loadPart_at hx ?_ | with_reducible refine clsL.at ?_ | wp_step)
  exact fun h' tk' hn' hs => hq h' tk' (fun b o hb ho => (hs.2 b hb).trans ho) hn'
end
end HF
namespace HF
open PySem PySem.Spec PyProof.Rows L2
/-- what the written part says of the class of such an error -/
structure XC (K : PySem.W.Frag) (C : Addr) : Prop where
  cls : ∃ nm q N bs bm sn sub ab col dd k0 k1 k2 k3 k5, K.lookup C = some (excClassObj nm q C N bs bm true sn sub ab col dd k0 k1 k2 k3 k5 "Exception.__new__") ∧ refsX bm = true
  sa : PySem.W.findIn K (.ref C) "__setattr__" = some (some (.builtin "object.__setattr__"))
  exC : PySem.W.subIn K (.ref C) (.type "BaseException") = some true
  tyC : PySem.W.typeIn K (.ref C) = some (.type "type")
  kC : PySem.W.keepIn K (.ref C) = true
theorem XC.cd {K : PySem.W.Frag} {C : Addr} (T : XC K C) : ∃ cd : ClassData, PySem.W.clsIn K C = some cd ∧ refsX cd.mro = true ∧ cd.hasDict = true := by
  obtain ⟨nm, q, N, bs, bm, sn, sub, ab, col, dd, k0, k1, k2, k3, k5, hC, hbm⟩ := T.cls
  refine ⟨{ name := nm, bases := bs, mro := .ref C :: bm, ns := N, qualname := q, hasDict := true, slotNames := sn, subclasses := sub, abstract := ab, collection := col, hasDel := false }, ?_, ?_, rfl⟩
  · unfold PySem.W.clsIn
    rw [hC] <;> rfl
  · show refsX (.ref C :: bm) = true
    rw [refsX_ref]
    exact hbm
section
variable {X : Cx} {pins : List (Addr × Obj)} {σ : L2.St} {H : Hp} {s : Shared} {a C dx : Addr} {f : Str} {y : V} {u : Value} {fs : List (Str × V)} {Q : Unit → Shared → Prop} {E : Value → Shared → Prop} {A : Around}
theorem ost1 (T : XC X.K C) (I : Inv X pins σ H s) (e : H a = some (exo a C none)) (hno : PySem.W.findIn X.K (.ref C) f = some none) (ry : RelV y u)
    (h : ∀ dx s', H dx = none → dx ≠ a → Inv X pins σ (upd (upd H dx (exd dx [(f, y)])) a (exo a C (some dx))) s' → Q () s') : wpAny (model X.prog X.w) A (setAttr (.ref a) f u) Q E s := by
  obtain ⟨cd, hcl, hmro, hdict⟩ := T.cd
  obtain ⟨t1, ho⟩ := exo_at I.hok e
  obtain ⟨hp, g, d, t, os⟩ := s
  refine PySem.W.set_plain I.kIn (ox := { cls := .ref C, dict := none, data := .fields #[.ref t1, .none, .none, .none, .bool false, .none] }) (od := none) ⟨ho, rfl, rfl, trivial⟩ T.sa ?_
  refine osa1 I.kIn ho hcl hmro hdict hno (fun h' tk' dx k dn dne hx hn => ?_)
  have hnd : H dx = none := I.hok.fresh dn
  have nd : ∀ {b : Addr} {o : Obj}, hp.get? b = some o → b ≠ dx := fun {b o} q => Nat.ne_of_lt (Nat.lt_of_lt_of_le (Heap.lt_size q) dn)
  have na : ∀ {b : Addr}, H b = none → b ≠ a := fun {b} n z => by
    rw [z, e] at n
    cases n
  have U : Un X.fs [] H (upd (upd H dx (exd dx [(f, y)])) a (exo a C (some dx))) hp h' := {
    keep := fun b o q n _ _ => k b o (na n) q
    slot := fun b o q n _ _ => ⟨o.slots, k b o (na n) q⟩
    free := fun b o q n _ => by rw [upd_ne (na n), upd_ne (nd q)]; exact n
    there := fun b o q _ => by
      by_cases hb : b = a
      · exact ⟨_, by rw [hb]; exact hx⟩
      · exact ⟨o, k b o hb q⟩
    tups := fun b xs q => by rw [upd_ne (at_ne e q exo_tup), upd_ne (ne_of_none q hnd)]; exact q
    frzs := fun b o v q => by rw [upd_ne (at_ne e q exo_frz), upd_ne (ne_of_none q hnd)]; exact q
    tbls := fun b ps q => ⟨#[], by rw [upd_ne (at_ne e q exo_tbl), upd_ne (ne_of_none q hnd), q]; simp⟩ }
  refine h dx _ hnd dne (I.un (t' := tk') U fun b o q => ?_)
  by_cases hb : b = a
  · subst hb
    rw [upd_same] at q
    cases q
    exact exo_ok hx
  · rw [upd_ne hb] at q
    by_cases hd : b = dx
    · subst hd
      rw [upd_same] at q
      cases q
      exact exd_ok hn (relO_put (fs := []) ry fun g => True.intro)
    · rw [upd_ne hd] at q
      refine (I.hok b o q).stay (fun c v hc z => k c v ?_ z) (fun c hc => ?_) (fun c xs hc => ?_)
      · rcases hc with hc | hc
        · rw [hc]; exact hb
        · exact at_ne e hc exo_own
      · rw [upd_ne (at_ne e hc exo_own), upd_ne (ne_of_none hc hnd)]; exact hc
      · rw [upd_ne (at_ne e hc exo_tup), upd_ne (ne_of_none hc hnd)]; exact hc
theorem ost2 (T : XC X.K C) (I : Inv X pins σ H s) (e : H a = some (exo a C (some dx))) (ed : H dx = some (exd dx fs)) (hl : fs.length ≤ 900) (hno : PySem.W.findIn X.K (.ref C) f = some none) (ry : RelV y u)
    (h : ∀ s', Inv X pins σ (upd H dx (exd dx ((f, y) :: fs))) s' → Q () s') : wpAny (model X.prog X.w) A (setAttr (.ref a) f u) Q E s := by
  obtain ⟨cd, hcl, hmro, hdict⟩ := T.cd
  obtain ⟨t1, ho⟩ := exo_at I.hok e
  obtain ⟨mA, hns, rel⟩ := exd_at I.hok ed
  have hw := within_of rel
  obtain ⟨hp, g, d, t, os⟩ := s
  obtain ⟨oD, _, _, hoD, _, _⟩ := hns.count hw
  refine PySem.W.set_plain I.kIn (ox := { cls := .ref C, dict := some dx, data := .fields #[.ref t1, .none, .none, .none, .bool false, .none] }) (od := some oD) ⟨ho, rfl, rfl, hoD⟩ T.sa ?_
  refine osa2 I.kIn ho hns hw (by rw [List.length_map]; omega) hcl hmro hdict hno (fun h' tk' k hn => ?_)
  have hd : ∃ o, h'.get? dx = some o := by
    obtain ⟨o, _, _, e', _⟩ := hn
    exact ⟨o, e'⟩
  refine h _ (I.write (t' := tk') (x := dx) (e := dx) (o := exd dx ((f, y) :: fs)) ?_ (.inl rfl) k hd (exd_ok hn (relO_put ry rel)))
  rw [ed]
  exact True.intro
end
/-- self.f = e -/
def tSt (K : PySem.W.Frag) (f : Str) (to te : TE) : TS := fun D σ H => te σ H fun y H1 => to σ H1 fun x H2 => ∃ a C : Addr, x = .ref a ∧ XC K C ∧ PySem.W.findIn K (.ref C) f = some none ∧
  ((H2 a = some (exo a C none) ∧ ∀ dx, H2 dx = none → dx ≠ a → D.nx σ (upd (upd H2 dx (exd dx [(f, y)])) a (exo a C (some dx)))) ∨
    ∃ (dx : Addr) (fs : List (Str × V)), H2 a = some (exo a C (some dx)) ∧ H2 dx = some (exd dx fs) ∧ fs.length ≤ 900 ∧ D.nx σ (upd H2 dx (exd dx ((f, y) :: fs))))
/-- C(e, ..), C's own __init__ keeping sp -/
def tMk (C : Addr) (sp : Sp) (ta : TA) : L2.St → Hp → XK → Prop := fun σ H Q => ta σ H fun vs H1 => vs.length ≤ 1000 ∧ ∀ a, H1 a = none → sp (.ref a :: vs) (upd H1 a (exo a C none))
  (fun v H2 => v = .non ∧ ∃ (d : Addr) (fs : List (Str × V)), H2 a = some (exo a C (some d)) ∧ H2 d = some (exd d fs) ∧ H1 d = none ∧ Q (.ref C) (some d) (upd (del H2 a) d (.xd fs))) (fun _ _ _ => False)
/-- B.__init__(self, e, ..), B a class of the top, keeping sp -/
def tBase (sp : Sp) (E : XK) (ta : TA) : TE := fun σ H Q => ta σ H fun vs H1 => sp vs H1 Q E
section
variable {X : Cx} {o e : Expr} {es : List Expr} {to te : TE} {ta : TA} {f : Str} {p p' p1 p2 pos : Pos}
theorem ps_st (ho : PE X o to) (he : PE X e te) (hs : swapsWith e (some (.Attribute o f p')) pos.line X.env = pure false := by rfl) : PS X (.Assign [.Attribute o f p'] e pos) (tSt X.K f to te) := by
  refine ⟨fun pins s σ H D I h => ?_⟩
  refine plainObj_wpAny_Assign_Attribute (thn (he.run pins s σ H _ I h) fun v s1 hh => ?_) hs
  obtain ⟨y, H1, I1, r1, q1⟩ := hh
  refine thn (ho.run pins s1 σ H1 _ I1 q1) fun u s2 hh => ?_
  obtain ⟨x, H2, I2, r2, a, C, ex, T, hno, q⟩ := hh
  subst ex
  obtain rfl : u = Value.ref a := r2
  rcases q with ⟨ea, q⟩ | ⟨dx, fs, ea, ed, hl, q⟩
  · exact ost1 T I2 ea hno r1 fun dx s' n ne J => ⟨σ, _, J, q dx n ne⟩
  · exact ost2 T I2 ea ed hl hno r1 fun s' J => ⟨σ, _, J, q⟩
theorem mk_run {CX : CXT} {C fI : Addr} {k : Nat} {fd : FuncData} {ps : List Str} {sp : Sp} {pins : List (Addr × Obj)} {s1 : Shared} {σ : L2.St} {H1 : Hp} {Q : XK} {us : List Value} {vs : List V} (T : XC X.K C)
    (iC : PySem.W.findIn X.K (.ref C) "__init__" = some (some (.ref fI))) (tI : PySem.W.typeIn X.K (.ref fI) = some (.type "function"))
    (F1 : FnOk X.prog X.w X.K X.mg X.base CX k fI fd ps sp) (hr : Room (k + 1) X.A) (hb : Binds X.K fd ps []) (hx : Passes CX X (fun _ _ _ => False)) (I1 : Inv X pins σ H1 s1) (r1 : Vals vs us) (hz : vs.length ≤ 1000)
    (q1 : ∀ a, H1 a = none → sp (.ref a :: vs) (upd H1 a (exo a C none)) (fun v H2 => v = .non ∧ ∃ (d : Addr) (fs : List (Str × V)), H2 a = some (exo a C (some d)) ∧ H2 d = some (exd d fs) ∧ H1 d = none ∧ Q (.ref C) (some d) (upd (del H2 a) d (.xd fs))) (fun _ _ _ => False)) :
    wpAny (model X.prog X.w) X.A (call (.ref C) us) (MkP X pins σ Q) X.xe s1 := by
  obtain ⟨nm, q, N, bs, bm, sn, sub, ab, col, dd, k0, k1, k2, k3, k5, hC, hbm⟩ := T.cls
  obtain ⟨hp, g, dr, tk, os⟩ := s1
  have hsz : hp.objs.size ≤ hp.objs.size + 1 := Nat.le_succ _
  have hq := q1 (hp.objs.size + 1) (I1.hok.fresh hsz)
  have kk : ∀ b o, hp.get? b = some o → ((hp.push (PySem.W.kdv_tup us)).push (PySem.HandSPX.excO C hp.objs.size)).get? b = some o := fun b o e => Heap.get?_push_of_some _ (Heap.get?_push_of_some _ e)
  have hget : ((hp.push (PySem.W.kdv_tup us)).push (PySem.HandSPX.excO C hp.objs.size)).get? (hp.objs.size + 1) = some (PySem.HandSPX.excO C hp.objs.size) := by heap_get
  have I2 : Inv X pins σ (upd H1 (hp.objs.size + 1) (exo (hp.objs.size + 1) C none)) ⟨(hp.push (PySem.W.kdv_tup us)).push (PySem.HandSPX.excO C hp.objs.size), g, dr, tk, os⟩ :=
    I1.laid (t' := tk) (a := hp.objs.size + 1) (o := exo (hp.objs.size + 1) C none) (h' := (hp.push (PySem.W.kdv_tup us)).push (PySem.HandSPX.excO C hp.objs.size)) kk hsz (exo_ok hget)
  have r2 : Vals (V.ref (hp.objs.size + 1) :: vs) (Value.ref (hp.objs.size + 1) :: us) := .cons rfl r1
  have hl : (Value.ref (hp.objs.size + 1) :: us ++ []).length = ps.length := by
    have e := r2.length
    rw [F1.len _ _ _ _ hq] at e
    rw [List.append_nil]
    exact e.symm
  have hus : us.length ≤ sizeLine := by
    rw [← Paired.length r1, sizeLine_eq]
    omega
  have hbb := hb ⟨(hp.push (PySem.W.kdv_tup us)).push (PySem.HandSPX.excO C hp.objs.size), g, dr, tk, os⟩ (Value.ref (hp.objs.size + 1) :: us) I2.kIn hl
  rw [List.append_nil] at hbb
  refine wpAny_call (PySem.HandSPX.call_own F.excBase_Exception (fun Y => refsX_has Y bm hbm) (I1.kIn _ _ hC) (PySem.W.looks_findIn I1.kIn iC) (fun self => PySem.W.bind_fn I1.kIn self tI) hus
    (codeAny_mono (F1.run _ X.stack _ _ ⟨Value.ref (hp.objs.size + 1) :: us, []⟩ (Value.ref (hp.objs.size + 1) :: us) _ _ (fun _ _ _ => False) (hr.make C us []) (I2.env0.make C us []) hbb r2 hq) fun r s' hq' => ?_))
  cases r with
  | error er => exact hx pins σ _ _ er s' I2 hq'
  | ok fl =>
    cases fl
    case ret u =>
      obtain ⟨v, H2, os2, bare2, un2, hok2, rv, ev, d, fs, ea, ed, hd1, q2⟩ := hq'
      subst ev
      obtain ⟨h2, g2, d2, t2, os'⟩ := s'
      exact ⟨rv, mk_end (raises_own T.exC T.tyC) I1 hsz kk un2 hok2 os2 bare2 ea ed hd1 q2⟩
    all_goals exact False.elim hq'
theorem pmk_x {CX : CXT} {x : Str} {C fI : Addr} {k : Nat} {fd : FuncData} {ps : List Str} {sp : Sp} (T : XC X.K C) (iC : PySem.W.findIn X.K (.ref C) "__init__" = some (some (.ref fI))) (tI : PySem.W.typeIn X.K (.ref fI) = some (.type "function"))
    (F1 : FnOk X.prog X.w X.K X.mg X.base CX k fI fd ps sp) (hr : Room (k + 1) X.A) (hb : Binds X.K fd ps []) (hx : Passes CX X (fun _ _ _ => False)) (hg : Gl X x) (hm : X.mg x = some (.ref C)) (ha : PA X (e :: es) ta)
    (hdb : (x == ("__debug__" : Str)) = false := by decide) (he : starEach (e :: es) X.env = (false, eval e X.env) :: starEach es X.env := by rfl) (hpl : (backTo pos (starEach es X.env)).any (·.1) = false := by rfl) :
    PMk X (.Call (.Name x p) (e :: es) [] pos) (tMk C sp ta) := by
  intro pins s σ H Q I h
  refine wpAny_Call_Name_kw (ld_glob I hg hm ?_ hdb)
  refine PySem.W.callWith_K (h₀ := X.base) I.ok.mod.kin T.kC (thn (ha.run pos pins s σ H _ I h) fun us s1 hh => ?_) he hpl
  obtain ⟨vs, H1, I1, r1, hz, q1⟩ := hh
  exact ⟨I1.kIn, mk_run T iC tI F1 hr hb hx I1 r1 hz q1⟩
theorem pmk_x0 {CX : CXT} {x : Str} {C fI : Addr} {k : Nat} {fd : FuncData} {ps : List Str} {sp : Sp} (T : XC X.K C) (iC : PySem.W.findIn X.K (.ref C) "__init__" = some (some (.ref fI))) (tI : PySem.W.typeIn X.K (.ref fI) = some (.type "function"))
    (F1 : FnOk X.prog X.w X.K X.mg X.base CX k fI fd ps sp) (hr : Room (k + 1) X.A) (hb : Binds X.K fd ps []) (hx : Passes CX X (fun _ _ _ => False)) (hg : Gl X x) (hm : X.mg x = some (.ref C)) (hdb : (x == ("__debug__" : Str)) = false := by decide) :
    PMk X (.Call (.Name x p) [] [] pos) (tMk C sp tNil) := by
  intro pins s σ H Q I h
  refine wpAny_Call_Name_kw (ld_glob I hg hm ?_ hdb)
  exact PySem.W.callWith_K0 I.kIn T.kC (mk_run (us := []) (vs := []) T iC tI F1 hr hb hx I .nil h.1 h.2)
/-- B.m(e, ..), m a def of the class B -/
theorem pe_base {CX : CXT} {x m : Str} {C fI : Addr} {mc : Value} {k : Nat} {fd : FuncData} {ps : List Str} {sp : Sp} {E : XK} {pl : Sem Bool} (r : ClX.CRead X.K C mc) (at_ : PySem.W.findCls X.K (.ref C) mc m = some (.val (.ref fI)))
    (hk : PySem.W.keepIn X.K (.ref fI) = true) (F1 : FnOk X.prog X.w X.K X.mg X.base CX k fI fd ps sp) (hr : Room k X.A) (hb : Binds X.K fd ps []) (hx : Passes CX X E) (hg : Gl X x) (hm : X.mg x = some (.ref C)) (ha : PA X (e :: es) ta)
    (hdb : (x == ("__debug__" : Str)) = false := by decide)
    (hc : eval (.Call (.Attribute (.Name x p1) m p2) (e :: es) [] pos) X.env = (do
      let ov ← eval (.Name x p1) X.env
      standAt p2.atName
      let (f, first) ← holding [ov] (getMethod ov m pl)
      callWith pos f first (backTo pos (starEach (e :: es) X.env)) (backToKw pos (keywordEach [] X.env))) := by rfl)
    (he : starEach (e :: es) X.env = (false, eval e X.env) :: starEach es X.env := by rfl) (hpl : (backTo pos (starEach es X.env)).any (·.1) = false := by rfl) :
    PE X (.Call (.Attribute (.Name x p1) m p2) (e :: es) [] pos) (tBase sp E ta) := by
  refine ⟨fun pins s σ H Q I h => ?_⟩
  refine PySem.W.methodCall_KW (ld_glob I hg hm ?_ hdb) hc
  refine PySem.W.method_cls I.kIn r.ga (PySem.W.cls_value I.kIn r.rd at_ rfl ?_)
  refine PySem.W.callWith_K (h₀ := X.base) (first := []) I.ok.mod.kin hk (thn (ha.run pos pins _ σ H _ (I.tok _) h) fun us s1 hh => ?_) he hpl
  obtain ⟨vs, H1, I1, r1, q1⟩ := hh
  exact ⟨I1.kIn, run_fn (ds := []) (dvs := []) F1 hr hb .nil hx I1 r1 (by rw [List.append_nil]; exact q1)⟩
end
end HF
/-! ## Words of this proof: calls, the text's places, the field in the heap -/
namespace HF
open PySem PySem.Spec PyProof.Rows L2
/-- a def of the top that keeps a promise, ready to be called by its name -/
def Cal (P : Program) (w : World) (K : PySem.W.Frag) (mg : Str → Option Value) (base : Heap) (CX : CXT) (k : Nat) (x : Str) (ps : List Str) (sp : Sp) : Prop :=
  ∃ (f : Addr) (fd : FuncData), FnOk P w K mg base CX k f fd ps sp ∧ mg x = some (.ref f) ∧ PySem.W.keepIn K (.ref f) = true ∧ Binds K fd ps []
/-- a method that keeps a promise -/
def CalM (P : Program) (w : World) (K : PySem.W.Frag) (mg : Str → Option Value) (base : Heap) (CX : CXT) (k : Nat) (C : Addr) (m : Str) (ps : List Str) (sp : Sp) : Prop :=
  ∃ (f : Addr) (fd : FuncData), FnOk P w K mg base CX k f fd ps sp ∧ Meth K C m f ∧ Binds K fd ps []
/-- a class whose __init__ keeps a promise -/
def CalC (P : Program) (w : World) (K : PySem.W.Frag) (mg : Str → Option Value) (base : Heap) (CX : CXT) (k : Nat) (x : Str) (C : Addr) (ps : List Str) (sp : Sp) : Prop :=
  ∃ (f : Addr) (fd : FuncData), FnOk P w K mg base CX k f fd ps sp ∧ Mk K C f ∧ mg x = some (.ref C) ∧ Binds K fd ps []
/-- the class of an error -/
def CalX (P : Program) (w : World) (K : PySem.W.Frag) (mg : Str → Option Value) (base : Heap) (CX : CXT) (k : Nat) (x : Str) (C : Addr) (ps : List Str) (sp : Sp) : Prop :=
  ∃ (f : Addr) (fd : FuncData), FnOk P w K mg base CX k f fd ps sp ∧ XC K C ∧ PySem.W.findIn K (.ref C) "__init__" = some (some (.ref f)) ∧ PySem.W.typeIn K (.ref f) = some (.type "function") ∧ mg x = some (.ref C) ∧ Binds K fd ps []
/-- the reading of such a call -/
def tCal (sp : Sp) (E : XK) (t : TA) : TE := fun σ H Q => t σ H fun vs H1 => sp vs H1 Q E
def tCalS (sp : Sp) (E : L2.St → XK) (t : TA) : TE := fun σ H Q => t σ H fun vs H1 => sp vs H1 Q (E σ)
def tCalM (C : Addr) (m : Str) (sp : Sp) (E : XK) (to : TE) (t : TA) : TE := fun σ H Q => to σ H fun x H1 => ∃ a dx fs, x = .ref a ∧ H1 a = some (.ins C dx fs) ∧ fs.lookup m = none ∧ t σ H1 fun vs H2 => sp (x :: vs) H2 Q E
def tCalC (C : Addr) (sp : Sp) (E : XK) (t : TA) : TE := fun σ H Q => t σ H fun vs H1 => ∀ x dx, H1 x = none → H1 dx = none → dx ≠ x →
  sp (.ref x :: vs) (upd (upd H1 dx (.own x)) x (.ins C dx [])) (fun v H2 => v = .non ∧ Q (.ref x) H2) E
section
variable {X : Cx} {CX : CXT} {k : Nat} {C : Addr} {ps : List Str} {sp : Sp} {E : XK} {x m : Str} {p pos apos : Pos} {e o : Expr} {es : List Expr} {ta : TE} {t : TA}
theorem app_nil_sp {H : Hp} {Q : VK} {vs : List V} (h : sp vs H Q E) : sp (vs ++ []) H Q E := by
  rw [List.append_nil]
  exact h
theorem pe_cal (c : Cal X.prog X.w X.K X.mg X.base CX k x ps sp) (hr : Room k X.A) (hg : Gl X x) (hx : Passes CX X E) (ha : PA X (e :: es) t) (hdb : (x == ("__debug__" : Str)) = false := by decide)
    (he : starEach (e :: es) X.env = (false, eval e X.env) :: starEach es X.env := by rfl) (hpl : (backTo pos (starEach es X.env)).any (·.1) = false := by rfl) : PE X (.Call (.Name x p) (e :: es) [] pos) (tCal sp E t) := by
  obtain ⟨f, fd, F, hm, hk, hb⟩ := c
  refine ⟨fun pins s σ H Q I h => ?_⟩
  refine wpAny_Call_Name_kw (ld_glob I hg hm ?_ hdb)
  refine PySem.W.callWith_K (h₀ := X.base) I.ok.mod.kin hk (thn (ha.run pos pins s σ H _ I h) fun us s1 hh => ?_) he hpl
  obtain ⟨vs, H1, I1, r, q⟩ := hh
  exact ⟨I1.kIn, run_fn (ds := []) (dvs := []) F hr hb .nil hx I1 r (app_nil_sp q)⟩
theorem pe_cal0 (c : Cal X.prog X.w X.K X.mg X.base CX k x ps sp) (hr : Room k X.A) (hg : Gl X x) (hx : Passes CX X E) (hdb : (x == ("__debug__" : Str)) = false := by decide) : PE X (.Call (.Name x p) [] [] pos) (tCal sp E tNil) := by
  obtain ⟨f, fd, F, hm, hk, hb⟩ := c
  refine ⟨fun pins s σ H Q I h => ?_⟩
  exact wpAny_Call_Name_kw (ld_glob I hg hm (PySem.W.callWith_K0 I.kIn hk (run_fn (us := []) (vs := []) (ds := []) (dvs := []) F hr hb .nil hx I .nil h)) hdb)
theorem pe_calS {E : L2.St → XK} (c : Cal X.prog X.w X.K X.mg X.base CX k x ps sp) (hr : Room k X.A) (hg : Gl X x) (hx : ∀ σ, PassesAt CX X σ (E σ)) (ha : PA X (e :: es) t) (hdb : (x == ("__debug__" : Str)) = false := by decide)
    (he : starEach (e :: es) X.env = (false, eval e X.env) :: starEach es X.env := by rfl) (hpl : (backTo pos (starEach es X.env)).any (·.1) = false := by rfl) : PE X (.Call (.Name x p) (e :: es) [] pos) (tCalS sp E t) := by
  obtain ⟨f, fd, F, hm, hk, hb⟩ := c
  refine ⟨fun pins s σ H Q I h => ?_⟩
  refine wpAny_Call_Name_kw (ld_glob I hg hm ?_ hdb)
  refine PySem.W.callWith_K (h₀ := X.base) I.ok.mod.kin hk (thn (ha.run pos pins s σ H _ I h) fun us s1 hh => ?_) he hpl
  obtain ⟨vs, H1, I1, r, q⟩ := hh
  exact ⟨I1.kIn, run_fnS F hr hb (hx σ) I1 r q⟩
theorem pe_calM {pl : Sem Bool} (cl : Cls X.K C) (c : CalM X.prog X.w X.K X.mg X.base CX k C m ps sp) (hr : Room k X.A) (hx : Passes CX X E) (ho : PE X o ta) (ha : PA X (e :: es) t)
    (hst : starEach (e :: es) X.env = (false, eval e X.env) :: starEach es X.env := by rfl) (hpl : (backTo pos (starEach es X.env)).any (·.1) = false := by rfl)
    (ht : eval (.Call (.Attribute o m apos) (e :: es) [] pos) X.env = (do
      let ov ← eval o X.env
      standAt apos.atName
      let (f, first) ← holding [ov] (getMethod ov m pl)
      callWith pos f first (backTo pos (starEach (e :: es) X.env)) (backToKw pos (keywordEach [] X.env))) := by rfl) : PE X (.Call (.Attribute o m apos) (e :: es) [] pos) (tCalM C m sp E ta t) := by
  obtain ⟨f, fd, F, hm, hb⟩ := c
  refine ⟨fun pins s σ H Q I h => ?_⟩
  refine (pe_meth (pl := pl) (ds := []) (dvs := []) ho cl hm F hr hb .nil hx ha hst hpl ht).run pins s σ H Q I ?_
  have z : tMeth C m sp [] E ta t = tCalM C m sp E ta t := by
    unfold tMeth tCalM
    simp only [List.append_nil]
  rw [z]
  exact h
theorem pe_calM0 {pl : Sem Bool} (cl : Cls X.K C) (c : CalM X.prog X.w X.K X.mg X.base CX k C m ps sp) (hr : Room k X.A) (hx : Passes CX X E) (ho : PE X o ta)
    (ht : eval (.Call (.Attribute o m apos) [] [] pos) X.env = (do
      let ov ← eval o X.env
      standAt apos.atName
      let (f, first) ← holding [ov] (getMethod ov m pl)
      callWith pos f first (backTo pos (starEach [] X.env)) (backToKw pos (keywordEach [] X.env))) := by rfl) : PE X (.Call (.Attribute o m apos) [] [] pos) (tCalM C m sp E ta tNil) := by
  obtain ⟨f, fd, F, hm, hb⟩ := c
  refine ⟨fun pins s σ H Q I h => ?_⟩
  exact (pe_meth0 (pl := pl) (ds := []) (dvs := []) ho cl hm F hr hb .nil hx ht).run pins s σ H Q I h
theorem pe_calC (c : CalC X.prog X.w X.K X.mg X.base CX k x C ps sp) (hr : Room (k + 1) X.A) (hg : Gl X x) (hx : Passes CX X E) (ha : PA X (e :: es) t) (hdb : (x == ("__debug__" : Str)) = false := by decide)
    (he : starEach (e :: es) X.env = (false, eval e X.env) :: starEach es X.env := by rfl) (hpl : (backTo pos (starEach es X.env)).any (·.1) = false := by rfl) : PE X (.Call (.Name x p) (e :: es) [] pos) (tCalC C sp E t) := by
  obtain ⟨f, fd, F, M, hm, hb⟩ := c
  refine ⟨fun pins s σ H Q I h => ?_⟩
  refine (pe_make (ds := []) (dvs := []) M F hr hg hm hb .nil hx ha hdb he hpl).run pins s σ H Q I ?_
  have z : tMake C sp [] E t = tCalC C sp E t := by
    unfold tMake tCalC
    simp only [List.append_nil]
  rw [z]
  exact h
theorem pe_calC0 (c : CalC X.prog X.w X.K X.mg X.base CX k x C ps sp) (hr : Room (k + 1) X.A) (hg : Gl X x) (hx : Passes CX X E) (hdb : (x == ("__debug__" : Str)) = false := by decide) : PE X (.Call (.Name x p) [] [] pos) (tCalC C sp E tNil) := by
  obtain ⟨f, fd, F, M, hm, hb⟩ := c
  refine ⟨fun pins s σ H Q I h => ?_⟩
  exact (pe_make0 (ds := []) (dvs := []) M F hr hg hm hb .nil hx hdb).run pins s σ H Q I h
theorem pmk_calX (c : CalX X.prog X.w X.K X.mg X.base CX k x C ps sp) (hr : Room (k + 1) X.A) (hg : Gl X x) (hx : Passes CX X (fun _ _ _ => False)) (ha : PA X (e :: es) t) (hdb : (x == ("__debug__" : Str)) = false := by decide)
    (he : starEach (e :: es) X.env = (false, eval e X.env) :: starEach es X.env := by rfl) (hpl : (backTo pos (starEach es X.env)).any (·.1) = false := by rfl) : PMk X (.Call (.Name x p) (e :: es) [] pos) (tMk C sp t) := by
  obtain ⟨f, fd, F, T, iC, tI, hm, hb⟩ := c
  exact pmk_x T iC tI F hr hb hx hg hm ha hdb he hpl
theorem pmk_calX0 (c : CalX X.prog X.w X.K X.mg X.base CX k x C ps sp) (hr : Room (k + 1) X.A) (hg : Gl X x) (hx : Passes CX X (fun _ _ _ => False)) (hdb : (x == ("__debug__" : Str)) = false := by decide) : PMk X (.Call (.Name x p) [] [] pos) (tMk C sp tNil) := by
  obtain ⟨f, fd, F, T, iC, tI, hm, hb⟩ := c
  exact pmk_x0 T iC tI F hr hb hx hg hm hdb
/-- a name of the top that holds a whole number | an object -/
theorem pe_gi {n : Int} (h : ∃ t, X.mg x = some (.int n t)) (hg : Gl X x) (hd : (x == ("__debug__" : Str)) = false := by decide) : PE X (.Name x pos) (tC (.int n)) := by
  obtain ⟨t, h⟩ := h
  exact pe_glob hg h ⟨_, rfl⟩ hd
theorem pe_gr {a : Addr} (h : X.mg x = some (.ref a)) (hg : Gl X x) (hd : (x == ("__debug__" : Str)) = false := by decide) : PE X (.Name x pos) (tC (.ref a)) := pe_glob hg h rfl hd
end
/-! ### the text -/
def top (i : Nat) : Stmt := PySem.Challenge.pw_hurdlefolds_s01_answers.main.body.getD i (.Pass ⟨0, 0, 0, 0⟩)
/-! ### heaps -/
theorem same_new {H : Hp} {p : Addr} {o : HO} (h : H p = none) : Same H (upd H p o) := fun b x e => by
  rw [upd_ne (ne_of_none e h)]
  exact e
/-- a thing that F does not know may change -/
theorem same_mut {F H : Hp} {p : Addr} {o : HO} (s : Same F H) (h : F p = none) : Same F (upd H p o) := fun b x e => by
  rw [upd_ne (ne_of_none e h)]
  exact s b x e
theorem some_ne_none {H : Hp} {a b : Addr} {o : HO} (h : H a = some o) (n : H b = none) : a ≠ b := ne_of_none h n
end HF
/-! ## enumerate over a tuple -/
namespace HF
open PySem PySem.Calls PyProof.Rows
theorem meets_enumT (t : Addr) (items : Array Value) :
    Meets (Builtin.«enumerate.__new__» ⟨[.type "enumerate", .ref t], []⟩) (fun _ R s => s.heap.IsTuple t items ∧
      R (.ok (.ret (.ref (s.heap.push { cls := .type "tuple_iterator", data := .fields #[.ref t, .int 0 0] }).objs.size)))
        { s with heap := (s.heap.push { cls := .type "tuple_iterator", data := .fields #[.ref t, .int 0 0] }).push { cls := .type "enumerate", data := .fields #[.none, .bool false, .ref s.heap.objs.size, rawInt 0, .none, .none] } }) :=
  .of_wp fun prog w A R s h => by
    obtain ⟨hp, g, d, tk, os⟩ := s
    obtain ⟨h1, h⟩ := h
    have hsub := sub_enumerate
    have q1 : ∀ {A' : Around} {E : Value → Shared → Prop} {Q : Value → Shared → Prop}, Q (.ref hp.objs.size) ⟨hp.push { cls := .type "tuple_iterator", data := .fields #[.ref t, .int 0 0] }, g, d, tk, os⟩ → wpAny (model prog w) A' (pyIter (.ref t)) Q E ⟨hp, g, d, tk, os⟩ :=
      fun q => wpAny_pyIter_tuple (s := ⟨hp, g, d, tk, os⟩) h1 q
    wp_walk using q1
    refine wpAny_stack_any fun st => wpAny_pure ?_
    split
    · rename_i c _ _ _ _ _
      cases (c == Value.type "enumerate") <;> (wp_walk using q1; exact ⟨_, rfl, h⟩)
    · wp_walk using q1
      exact ⟨_, rfl, h⟩
section
variable {prog : Program} {w : World} {A : Around} {E : Value → Shared → Prop} {s : Shared}
theorem call_enumT {t : Addr} {items : Array Value} {Q : Value → Shared → Prop} (hL : s.heap.IsTuple t items)
    (h : ∀ h', IsEnum h' (s.heap.objs.size + 1) s.heap.objs.size 0 .none → h'.IsTupleIter s.heap.objs.size t 0 → h'.objs.size = s.heap.objs.size + 2 →
      (∀ b o, s.heap.get? b = some o → h'.get? b = some o) → Q (.ref (s.heap.objs.size + 1)) { s with heap := h' }) :
    wpAny (model prog w) A (call (.type "enumerate") [.ref t]) Q E s := by
  refine callType_new F.called_enumerate (by decide) (F.typeCall_enumerate_1 _) (F.newCall_enumerate_1 _) (fun obj => F.args_object_init_2 obj _) F.entry_enumerate_new (meets_enumT t items) ⟨hL, ?_⟩
  have hz : (s.heap.push { cls := .type "tuple_iterator", data := .fields #[.ref t, .int 0 0] }).objs.size = s.heap.objs.size + 1 := Heap.size_push ..
  show _ ∧ _
  rw [hz]
  have he : IsEnum ((s.heap.push { cls := .type "tuple_iterator", data := .fields #[.ref t, .int 0 0] }).push
      { cls := .type "enumerate", data := .fields #[.none, .bool false, .ref s.heap.objs.size, rawInt 0, .none, .none] }) (s.heap.objs.size + 1) s.heap.objs.size 0 .none := by
    have q := Heap.get?_push_size (s.heap.push { cls := .type "tuple_iterator", data := .fields #[.ref t, .int 0 0] })
      (o := { cls := .type "enumerate", data := .fields #[.none, .bool false, .ref s.heap.objs.size, rawInt 0, .none, .none] }) rfl
    rw [hz] at q
    exact q
  exact ⟨⟨_, he, rfl⟩, h _ he ⟨_, Heap.get?_push_of_some _ (Heap.get?_push_size _ rfl), rfl, rfl⟩ (by rw [Heap.size_push, hz]) fun b o x => Heap.get?_push_of_some _ (Heap.get?_push_of_some _ x)⟩
end
end HF
namespace HF
open PySem PySem.Spec PyProof.Rows L2
/-- the tuple at a as it stands at each turn, each item in a new pair -/
def ItT (K : PySem.W.Frag) (a : Addr) : It :=
  ⟨fun i H => ∃ (xs : List V) (x : V), SqT K H a xs ∧ xs[i]? = some x, fun i H v H' => ∃ T x, v = .ref T ∧ H T = none ∧ H' = upd H T (.tup [.int (i : Nat), x]) ∧ ∀ xs, SqT K H a xs → xs[i]? = some x, fun i H => ∃ xs : List V, SqT K H a xs ∧ xs.length ≤ i⟩
theorem turn_enumT {P : Program} {w : World} {K : PySem.W.Frag} {elts : List Expr} {kk : Nat} {tpos : Pos} (a e it : Addr) :
    Turn P w K (.Tuple elts kk tpos) (ItT K a) [e, it] e (fun i h => (∃ old, IsEnum h e it ((i : Nat) : Int) old) ∧ h.IsTupleIter it a i ∧ e ≠ it) where
  mem := by simp
  obj := fun i h st b hb => by
    obtain ⟨⟨old, he⟩, ⟨o, ho, hc, hd⟩, _⟩ := st
    rcases (show b = e ∨ b = it by simpa using hb) with z | z
    · rw [z]
      exact ⟨_, he, fun v q => nomatch q⟩
    · rw [z]
      exact ⟨o, ho, fun v q => by rw [hd] at q; cases q⟩
  keep := fun i h h' st k => ⟨let ⟨old, he⟩ := st.1; ⟨old, k e (by simp) _ he⟩, st.2.1.at fun o q => k it (by simp) o q, st.2.2⟩
  item := by
    intro X hP hw hK hc i pins s σ H E I hf st hg
    subst hP hw hK
    obtain ⟨⟨old, he⟩, hit, hne⟩ := st
    obtain ⟨xs, x, hq, hx⟩ := hg
    obtain ⟨its, rv, p, hz⟩ := I.tuple hq
    have pT : s.heap.IsTuple a its.toArray := p
    obtain ⟨u, hu, ru⟩ := rv.get hx
    have hel : e < s.heap.objs.size := Heap.lt_size he
    have hil : it < s.heap.objs.size := by
      obtain ⟨_, q, _⟩ := hit
      exact Heap.lt_size q
    obtain ⟨oa, hoa, hca, na, hda⟩ := id pT
    have nai : a ≠ it := fun z => by
      obtain ⟨oi, hoi, hci, hdi⟩ := id hit
      rw [z, hoi] at hoa
      cases hoa
      rw [hdi] at hda
      cases hda
    have nae : a ≠ e := fun z => by
      rw [z, he] at hoa
      cases hoa
      cases hda
    have D := Draws.tuple (prog := X.prog) (w := X.w) (A := X.A.in1) (I.ok.hd hc) it a nai its.toArray
    have hlt : i < its.toArray.size := by
      have h2 := (List.getElem?_eq_some_iff.mp hu).1
      simpa using h2
    refine wpAny_pyNext_enum_itemD D he ⟨hit, pT⟩ hlt hne (by simp [hne, Ne.symm nae]) fun x' h' tk hP ho hst' hT hsz hk => ?_
    have ex : x' = u := by
      have h3 : its.toArray[i]? = some x' := hP
      have h4 : its[i]? = some x' := by simpa using h3
      rw [hu] at h4
      exact (Option.some.inj h4).symm
    subst ex
    refine ⟨_, rfl, wpAny_letOwnedTupleGo_enum (s := { s with heap := h', toks := tk + 1 }) ho fun h'' he' sb => ?_⟩
    have hT2 : h''.get? s.heap.objs.size = some { cls := .type "tuple", data := .seq #[.int i tk, x'] } := (sb.2 _ (Nat.ne_of_gt hel)).trans hT
    have new : ObjOk X.prog X.w (upd H s.heap.objs.size (.tup [.int (i : Nat), x])) h'' s.heap.objs.size (.tup [.int (i : Nat), x]) :=
      ⟨by show 2 ≤ sizeLine; decide, [.int i tk, x'], .cons ⟨_, rfl⟩ (.cons ru .nil), ⟨_, hT2, rfl, _, rfl⟩⟩
    have I1 : Inv X pins σ (upd H s.heap.objs.size (.tup [.int (i : Nat), x])) { s with heap := h'', toks := tk + 1 } :=
      I.turnedNew (ch := [e, it]) (fun b ob hb q => (sb.2 b (fun z => hb (by simp [z]))).trans (hk b ob (fun z => hb (by simp [z])) (fun z => hb (by simp [z])) q)) hf (Nat.le_refl _) new
    refine ⟨.ref s.heap.objs.size, _, I1, rfl, ⟨_, x, rfl, I.hok.fresh (Nat.le_refl _), rfl, fun ys hy => by rw [I.tuple_inj hy hq]; exact hx⟩, ⟨⟨x', ?_⟩, hst'.1.at fun o q => (sb.2 it (Ne.symm hne)).trans q, hne⟩, fun b hb => ?_⟩
    · have e1 : ((i + 1 : Nat) : Int) = (i : Int) + 1 := by omega
      rw [e1]
      exact he'
    · have hb' : b < s.heap.objs.size := by
        rcases (show b = e ∨ b = it by simpa using hb) with z | z
        · rw [z]; exact hel
        · rw [z]; exact hil
      rw [upd_ne (Nat.ne_of_lt hb')]
      exact (hf b hb).1
  done := by
    intro X hP hw hK hc i pins s σ H E I hf st hg
    subst hP hw hK
    obtain ⟨⟨old, he⟩, hit, hne⟩ := st
    obtain ⟨xs, hq, hx⟩ := hg
    obtain ⟨its, rv, p, hz⟩ := I.tuple hq
    have pT : s.heap.IsTuple a its.toArray := p
    obtain ⟨f0, f1, f2, f3, f4, f5⟩ := hf it (by simp)
    have hl := rv.length
    obtain ⟨oa, hoa, hca, na, hda⟩ := id pT
    have nai : a ≠ it := fun z => by
      obtain ⟨oi, hoi, hci, hdi⟩ := id hit
      rw [z, hoi] at hoa
      cases hoa
      rw [hdi] at hda
      cases hda
    have hT : s.TypeIs (.ref e) "enumerate" := ⟨_, he, rfl⟩
    unfold pyNext
    refine wpAny_bind (wpAny_attempt (wpAny_callSpecial?_slot (name := Str.ofString "__next__") hT F.slot_enumerate_next (wpAny_call_entry F.slot_enumerate_next hT F.entry_enumerate_next ?_ (F.args_enumerate_next_1 _))))
    show wpAny _ _ (field (.ref e) 2 >>= _) _ _ _
    refine wpAny_bind (wpAny_field he rfl (x := .ref it) rfl ?_)
    refine wpAny_bind (wpAny_nextOf_tuple_end (I.ok.hd hc) hit pT (by simp; omega) fun h' x he' hx' => ?_)
    obtain ⟨o, ho, hcl⟩ := hx'
    refine wpAny_bind (wpAny_isInstance (T := "StopIteration") (b := true) ⟨o, ho, hcl⟩ isSubtype_stop ?_)
    exact wpAny_pure ⟨rfl, I.turned (t' := s.toks) (fun b o hb q => he' b o hb q) f0 f1 f3 f4 f5⟩
  self := fun A i s Q E st h => let ⟨⟨_, he⟩, _⟩ := st; wpAny_pyIter_enum he h
def iEnT (K : PySem.W.Frag) (ta : TA) : TI := fun σ H R => ta σ H fun vs H1 => ∃ a xs, vs = [.ref a] ∧ SqT K H1 a xs ∧ R (ItT K a) H1
theorem pi_enumT {X : Cx} {e : Expr} {ta : TA} {p pos tpos : Pos} {elts : List Expr} {kk : Nat} (hg : Gl X "enumerate") (hm : X.mg "enumerate" = none) (ha : PA X [e] ta) (hs : starEach [e] X.env = [(false, eval e X.env)] := by rfl) :
    PI X (.Tuple elts kk tpos) (.Call (.Name "enumerate" p) [e] [] pos) (iEnT X.K ta) := by
  refine ⟨fun pins s σ H R I h => ?_⟩
  refine Call_ (ld_blt I hg hm boot_enumerate (PyProof.Rows.callWith_type1 (thn (ha.run pos pins s σ H _ I h) fun us s1 hh => ?_) hs rfl))
  obtain ⟨vs, H1, I1, r1, a, xs, ex, hq, q⟩ := hh
  subst ex
  cases r1 with
  | cons r rr =>
    cases rr
    cases r
    obtain ⟨its, rv, p', hz⟩ := I1.tuple hq
    have pT : s1.heap.IsTuple a its.toArray := p'
    refine call_enumT pT fun h' he hit hsz hk => wpAny_pyIter_enum he ?_
    have I2 : Inv X pins σ H1 { s1 with heap := h' } := I1.kept (t' := s1.toks) hk
    refine ⟨s1.heap.objs.size + 1, [s1.heap.objs.size + 1, s1.heap.objs.size], _, _, H1, rfl, I2, turn_enumT a (s1.heap.objs.size + 1) s1.heap.objs.size, ⟨⟨.none, he⟩, hit, Nat.succ_ne_self _⟩, fun b hb => ?_, q⟩
    have hle : s1.heap.objs.size ≤ b := by
      rcases (show b = s1.heap.objs.size + 1 ∨ b = s1.heap.objs.size by simpa using hb) with z | z
      · rw [z]; exact Nat.le_add_right _ _
      · rw [z]; exact Nat.le_refl _
    exact I1.fpOk hle (I1.hok.fresh hle)
theorem walk_enumT {K : PySem.W.Frag} {a : Addr} {xs : List V} : Walk (ItT K a) xs.length (fun H => SqT K H a xs) (YPair (fun i => some (.int (i : Nat))) (fun i => xs[i]?)) := by
  refine ⟨fun i _ hi q => ⟨xs, xs[i], q, by simp [hi]⟩, fun _ q => ⟨xs, q, Nat.le_refl _⟩, fun i H v H' _ q y => ?_⟩
  obtain ⟨T, x, h1, h2, h3, h4⟩ := y
  exact ⟨T, .int (i : Nat), x, h1, h2, h3, rfl, h4 xs q⟩
theorem q_forET {K : PySem.W.Frag} {ta : TA} {g : TG} {tb : TS} {D : Ends} {σ : L2.St} {H : Hp} {a : Addr} {xs : List V} (Pv : Nat → L2.St → Hp → Prop) (ht : ∀ R : List V → Hp → Prop, R [.ref a] H → ta σ H R) (h0 : Pv 0 σ H) (hl : ∀ i σ H, i ≤ xs.length → Pv i σ H → SqT K H a xs)
    (hs : ∀ i x T σ H, xs[i]? = some x → H T = none → Pv i σ H → g (.ref T) σ (upd H T (.tup [.int (i : Nat), x])) fun σ2 H2 => tb { D with nx := Pv (i + 1), ct := Pv (i + 1), bk := D.nx } σ2 H2) (hd : ∀ σ H, Pv xs.length σ H → D.nx σ H) :
    tFor (iEnT K ta) g tb D σ H := by
  refine ht _ ⟨a, xs, rfl, hl 0 σ H (Nat.zero_le _) h0, for_it walk_enumT Pv h0 hl (fun i v σ H H' hi p y => ?_) hd⟩
  obtain ⟨T, x, y, rfl, nT, rfl, e1, e2⟩ := y
  cases e1
  exact hs i y T σ H e2 nT p
end HF
/-! ## min of a list of tuples of whole numbers -/
namespace HF
open PySem PySem.Spec PyProof.Rows L2
/-- place by place, else the shorter -/
def rowLt : List Int → List Int → Bool
  | [], [] => false
  | [], _ :: _ => true
  | _ :: _, [] => false
  | x :: xs, y :: ys => if x = y then rowLt xs ys else decide (x < y)
def minRow (r : List Int) (rows : List (List Int)) : List Int := rows.foldl (fun a y => if rowLt y a = true then y else a) r
def tupD (row : List Int) : PyData := .tuple (row.map PyData.int)
theorem rowLt_eq : ∀ x y : List Int, PySem.W.dataLt (tupD x) (tupD y) = rowLt x y := fun x y => by
  have h := PySem.W.DatumOrd.lt_eq (α := PySem.W.Tup Int) ⟨x⟩ ⟨y⟩
  have key : ∀ x y : List Int, PySem.W.listLt x y = rowLt x y := by
    intro x
    induction x with
    | nil => intro y; cases y <;> rfl
    | cons a x ih =>
      intro y
      cases y with
      | nil => rfl
      | cons b y =>
        show (if a = b then PySem.W.listLt x y else decide (a < b)) = (if a = b then rowLt x y else decide (a < b))
        rw [ih]
  exact h.trans (key x y)
theorem minRow_eq (r : List Int) (rows : List (List Int)) : PySem.W.minD (tupD r) (rows.map tupD) = tupD (minRow r rows) := by
  unfold PySem.W.minD minRow
  induction rows generalizing r with
  | nil => rfl
  | cons y ys ih =>
    rw [List.map_cons, List.foldl_cons, List.foldl_cons, ← ih, rowLt_eq y r]
    cases rowLt y r <;> rfl
theorem tupD_inj {x y : List Int} (h : tupD x = tupD y) : x = y := by
  unfold tupD at h
  have h2 := PyData.tuple.inj h
  exact (List.map_inj_right (fun a b e => PyData.int.inj e)).mp h2
theorem alike_rows (rows : List (List Int)) : PySem.W.AlikeAll (rows.map tupD) := by
  have h := PySem.W.alikeAll_datum (α := PySem.W.Tup Int) (rows.map PySem.W.Tup.mk)
  rw [List.map_map] at h
  exact h
theorem depth_row : ∀ rows : List (List Int), PyData.depthAll (rows.map tupD) ≤ 1
  | [] => by simp [PyData.depthAll]
  | r :: rows => by
    have ih := depth_row rows
    have hd : ∀ ns : List Int, PyData.depthAll (ns.map PyData.int) = 0 := fun ns => by
      induction ns with
      | nil => rfl
      | cons x ns ih2 => simp [PyData.depthAll, PyData.depth, ih2]
    rw [List.map_cons, PyData.depthAll]
    have : PyData.depth (tupD r) = 1 := by
      unfold tupD
      simp [PyData.depth, hd]
    rw [this]
    omega
def rMinT (K : PySem.W.Frag) : List V → Hp → VK → Prop := fun vs H Q => ∃ (a : Addr) (items : List V) (r : List Int) (rows : List (List Int)), vs = [.ref a] ∧ SqL K H a items ∧ DpAll K H items ((r :: rows).map tupD) ∧
  ∀ (i : Nat) (v : V), items[i]? = some v → (r :: rows)[i]? = some (minRow r rows) → Q v H
theorem readsAll_get {h : Heap} : ∀ {us : List Value} {ds : List PyData} {as : List Addr} {i : Nat} {u : Value}, ReadsAll h us ds as → us[i]? = some u → ∃ d bs, ds[i]? = some d ∧ Reads h u d bs
  | [], [], _, i, u, _, e => by simp at e
  | v :: us, d :: ds, _, 0, u, r, e => by
    cases r with
    | cons r1 r2 =>
      cases e
      exact ⟨d, _, rfl, r1⟩
  | v :: us, d :: ds, _, i + 1, u, r, e => by
    cases r with
    | cons r1 r2 => exact readsAll_get (i := i) r2 (by simpa using e)
theorem cr_minT {X : Cx} (hc : X.calm = true) (hu : X.A.units + 64 < cLine) : CallR X (.builtin "min") (rMinT X.K) := by
  intro pins s σ H vs us Q I r h
  obtain ⟨a, items, r0, rows, rfl, hs, hD, q⟩ := h
  obtain ⟨its, rv, hl, _⟩ := I.list hs
  rw [Vals.ref1 r]
  obtain ⟨as, hr⟩ := Dp.readsAll I _ _ _ hD rv
  have hr' : ReadsAll s.heap (its.toArray).toList (tupD r0 :: rows.map tupD) as := by simpa using hr
  have hdep : PyData.depthAll (tupD r0 :: rows.map tupD) ≤ 1 := depth_row (r0 :: rows)
  refine PySem.W.min_list_data (I.ok.hd hc) hl.isList hr' (alike_rows (r0 :: rows)) (by omega) fun i v h' tk bs hi hrd hk => ?_
  have hi' : its[i]? = some v := by simpa using hi
  obtain ⟨d, cs, hd, hrd2⟩ := readsAll_get hr hi'
  have hrd3 := PySem.W.reads_keeps hk hrd2
  have e := (Reads.unique hrd3 _ _ hrd).1
  rw [minRow_eq] at e
  have hil : i < items.length := by
    rw [rv.length]
    exact (List.getElem?_eq_some_iff.mp hi').1
  have hx : items[i]? = some items[i] := List.getElem?_eq_getElem hil
  obtain ⟨u, hu2, ru⟩ := rv.get hx
  rw [hi'] at hu2
  cases hu2
  refine ⟨items[i], H, I.kept hk, ru, q i items[i] hx ?_⟩
  rw [List.getElem?_map] at hd
  cases hz : (r0 :: rows)[i]? with
  | none =>
    rw [hz] at hd
    cases hd
  | some row =>
    rw [hz] at hd
    have hd2 : tupD row = d := Option.some.inj hd
    rw [← hd2] at e
    rw [tupD_inj e]
end HF
/-! ## further rules: l[i] += e, o.f *= e, min and max with a default, list(reversed(l)), a written dict by whole numbers -/
namespace HF
open PySem PySem.Spec PyProof.Rows L2
section
variable {X : Cx}
/-- the item of a list, read on the way to l[i] op= e -/
theorem get_list : PGet X (rIxL X.K) := by
  intro pins s σ H ox ix ov iv Q I ro ri hget
  obtain ⟨ad, items, k, z, rfl, rfl, hq, hat, q⟩ := hget
  cases ro
  obtain ⟨tok, rfl⟩ := ri
  obtain ⟨its, rel, pl, hz⟩ := I.list hq
  obtain ⟨j, h1, h2, h3, h4, h5⟩ := atI_get hat
  obtain ⟨u, eu, ru⟩ := rel.get h2
  have hlen := rel.length
  have h63 := line63
  have fin : EP X pins σ Q u s := ⟨z, H, I, ru, q⟩
  by_cases h0 : 0 ≤ k
  · have hj : k.toNat = j := by
      rw [seqIndex_of h0 h5] at h1
      exact Option.some.inj h1
    exact wpAny_getItem_list pl.isList h0 (by omega) (by rw [hj]; simpa using eu) fin
  · have hj : (k + (its.toArray.size : Int)).toNat = j := by
      rw [seqIndex_neg (by omega) h4] at h1
      rw [List.size_toArray, ← hlen]
      exact Option.some.inj h1
    exact wpAny_getItem_list_neg pl.isList (by omega) (by rw [List.size_toArray] <;> omega) (by omega) (by rw [hj]; simpa using eu) fin
def rMulI : V → V → Hp → VK → Prop := fun x y H Q => ∃ i j : Int, x = .int i ∧ y = .int j ∧ CMul i j ∧ Q (.int (i * j)) H
theorem in_mul : InOp X .Mult rMulI := by
  rintro pins s σ H x y ux uy Q I rx ry ⟨i, j, rfl, rfl, hc, q⟩
  obtain ⟨tx, rfl⟩ := (show ∃ tx, ux = Value.int i tx from rx)
  obtain ⟨ty, rfl⟩ := (show ∃ ty, uy = Value.int j ty from ry)
  exact imul_int ⟨.int (i * j), H, I.tok _, ⟨_, rfl⟩, q⟩ hc.ok
end
/-! ### min, max of a list of whole numbers with default= -/
theorem hold_ints {h : Heap} : ∀ {us : List Value} {ns : List Int}, Vals (ns.map V.int) us → PySem.W.HoldAll h us ns := by
  intro us ns r
  have key : ∀ (us : List Value) (ns : List Int), Vals (ns.map V.int) us → ReadsAll h us (ns.map PySem.W.Datum.toD) [] := by
    intro us
    induction us with
    | nil =>
      intro ns r
      cases ns with
      | nil => exact .nil
      | cons n ns => cases r
    | cons u us ih =>
      intro ns r
      cases ns with
      | nil => cases r
      | cons n ns =>
        cases r with
        | cons r1 r2 =>
          obtain ⟨t, rfl⟩ := (show ∃ t, u = Value.int n t from r1)
          exact ReadsAll.cons (as := []) (bs := []) (.int _ _) (ih ns r2)
  exact ⟨[], key us ns r⟩
section
variable {X : Cx}
def rMinD (K : PySem.W.Frag) : List V → List V → Hp → VK → Prop := fun vs zs H Q => ∃ (a : Addr) (ns : List Int) (d : V), vs = [.ref a] ∧ zs = [d] ∧ SqL K H a (ns.map V.int) ∧
  (ns = [] → Q d H) ∧ (∀ m, m ∈ ns → (∀ x ∈ ns, m ≤ x) → Q (.int m) H)
def rMaxD (K : PySem.W.Frag) : List V → List V → Hp → VK → Prop := fun vs zs H Q => ∃ (a : Addr) (ns : List Int) (d : V), vs = [.ref a] ∧ zs = [d] ∧ SqL K H a (ns.map V.int) ∧
  (ns = [] → Q d H) ∧ (∀ m, m ∈ ns → (∀ x ∈ ns, x ≤ m) → Q (.int m) H)
theorem minOf_in : ∀ (ns : List Int) (n : Int), PySem.W.minOf n ns ∈ n :: ns ∧ ∀ x ∈ n :: ns, PySem.W.minOf n ns ≤ x
  | [], n => ⟨by simp [PySem.W.minOf], fun x hx => by simp [PySem.W.minOf] at hx ⊢; omega⟩
  | y :: ns, n => by
    have e : PySem.W.minOf n (y :: ns) = PySem.W.minOf (if PySem.W.DatumOrd.lt y n = true then y else n) ns := rfl
    have hlt : PySem.W.DatumOrd.lt y n = decide (y < n) := rfl
    rw [e, hlt]
    by_cases c : y < n
    · rw [if_pos (decide_eq_true c)]
      obtain ⟨h1, h2⟩ := minOf_in ns y
      refine ⟨List.mem_cons_of_mem _ h1, fun x hx => ?_⟩
      rcases List.mem_cons.mp hx with z | z
      · have := h2 y (by simp)
        omega
      · exact h2 x z
    · rw [if_neg (by simpa using c)]
      obtain ⟨h1, h2⟩ := minOf_in ns n
      refine ⟨?_, fun x hx => ?_⟩
      · rcases List.mem_cons.mp h1 with z | z
        · rw [z]; simp
        · exact List.mem_cons_of_mem _ (List.mem_cons_of_mem _ z)
      · rcases List.mem_cons.mp hx with z | z
        · exact h2 x (by rw [z]; simp)
        · rcases List.mem_cons.mp z with z | z
          · have := h2 n (by simp)
            omega
          · exact h2 x (List.mem_cons_of_mem _ z)
theorem maxOf_in : ∀ (ns : List Int) (n : Int), PySem.W.maxOf n ns ∈ n :: ns ∧ ∀ x ∈ n :: ns, x ≤ PySem.W.maxOf n ns
  | [], n => ⟨by simp [PySem.W.maxOf], fun x hx => by simp [PySem.W.maxOf] at hx ⊢; omega⟩
  | y :: ns, n => by
    have e : PySem.W.maxOf n (y :: ns) = PySem.W.maxOf (if PySem.W.DatumOrd.lt n y = true then y else n) ns := rfl
    have hlt : PySem.W.DatumOrd.lt n y = decide (n < y) := rfl
    rw [e, hlt]
    by_cases c : n < y
    · rw [if_pos (decide_eq_true c)]
      obtain ⟨h1, h2⟩ := maxOf_in ns y
      refine ⟨List.mem_cons_of_mem _ h1, fun x hx => ?_⟩
      rcases List.mem_cons.mp hx with z | z
      · have := h2 y (by simp)
        omega
      · exact h2 x z
    · rw [if_neg (by simpa using c)]
      obtain ⟨h1, h2⟩ := maxOf_in ns n
      refine ⟨?_, fun x hx => ?_⟩
      · rcases List.mem_cons.mp h1 with z | z
        · rw [z]; simp
        · exact List.mem_cons_of_mem _ (List.mem_cons_of_mem _ z)
      · rcases List.mem_cons.mp hx with z | z
        · exact h2 x (by rw [z]; simp)
        · rcases List.mem_cons.mp z with z | z
          · have := h2 n (by simp)
            omega
          · exact h2 x (List.mem_cons_of_mem _ z)
theorem held_int {h : Heap} {v : Value} {n : Int} (x : PySem.W.Holds h v n) : ∃ t, v = .int n t := by
  obtain ⟨bs, r⟩ := x
  cases r
  exact ⟨_, rfl⟩
theorem cr_minD (hc : X.calm = true) (hu : X.A.units + 64 < cLine) : CallRK X (.builtin "min") ["default"] (rMinD X.K) := by
  intro pins s σ H vs zs us ws Q I r1 r2 hh
  obtain ⟨a, ns, d, rfl, rfl, hs, q0, q1⟩ := hh
  obtain ⟨its, rv, hl, _⟩ := I.list hs
  rw [Vals.ref1 r1]
  obtain ⟨dv, rfl, rd⟩ := vals1 r2
  refine PySem.W.min_list_datum_default (α := Int) (I.ok.hd hc) hl.isList (xs := ns) (by simpa using hold_ints rv) (by show X.A.units + 1 + 0 < cLine; omega) (fun e h' tk hk => ⟨d, H, I.kept hk, rd, q0 e⟩) fun y ys i v h' tk e hi hv hk => ?_
  obtain ⟨t, rfl⟩ := held_int hv
  subst e
  obtain ⟨h1, h2⟩ := minOf_in ys y
  exact ⟨.int _, H, I.kept hk, ⟨_, rfl⟩, q1 _ h1 h2⟩
theorem cr_maxD (hc : X.calm = true) (hu : X.A.units + 64 < cLine) : CallRK X (.builtin "max") ["default"] (rMaxD X.K) := by
  intro pins s σ H vs zs us ws Q I r1 r2 hh
  obtain ⟨a, ns, d, rfl, rfl, hs, q0, q1⟩ := hh
  obtain ⟨its, rv, hl, _⟩ := I.list hs
  rw [Vals.ref1 r1]
  obtain ⟨dv, rfl, rd⟩ := vals1 r2
  refine PySem.W.max_list_datum_default (α := Int) (I.ok.hd hc) hl.isList (xs := ns) (by simpa using hold_ints rv) (by show X.A.units + 1 + 0 < cLine; omega) (fun e h' tk hk => ⟨d, H, I.kept hk, rd, q0 e⟩) fun y ys i v h' tk e hi hv hk => ?_
  obtain ⟨t, rfl⟩ := held_int hv
  subst e
  obtain ⟨h1, h2⟩ := maxOf_in ys y
  exact ⟨.int _, H, I.kept hk, ⟨_, rfl⟩, q1 _ h1 h2⟩
end
/-! ### a written dict whose keys are whole numbers -/
/-- each key is a whole number, by its own hash -/
def intKeyB (e : DictEntry) : Bool := match e.key with
  | .int k _ => decide (e.hash = hashInt k)
  | _ => false
theorem intKeyB_is {e : DictEntry} (h : intKeyB e = true) : ∃ (k : Int) (t : Tok), e.key = .int k t ∧ e.hash = hashInt k := by
  unfold intKeyB at h
  split at h
  · rename_i k t hk
    exact ⟨k, t, hk, of_decide_eq_true h⟩
  · cases h
/-- what the written dict at a has at k -/
def intAt (K : PySem.W.Frag) (a : Addr) (k : Int) : Option Value := match K.lookup a with
  | some ⟨.type c, none, .dict es _, sl⟩ => if c = "dict" ∧ sl = #[] ∧ es.toList.all intKeyB = true then findBy Value.isInt es k else none
  | _ => none
theorem intAt_is {K : PySem.W.Frag} {a : Addr} {k : Int} {u : Value} (h : intAt K a k = some u) : ∃ es n, K.lookup a = some ⟨.type "dict", none, .dict es n, #[]⟩ ∧ es.toList.all intKeyB = true ∧ findBy Value.isInt es k = some u := by
  unfold intAt at h
  split at h
  · rename_i c es n sl hl
    split at h
    · rename_i hc
      obtain ⟨rfl, rfl, h3⟩ := hc
      exact ⟨es, n, hl, h3, h⟩
    · cases h
  · cases h
def rIxI (K : PySem.W.Frag) : R2 := fun x y H Q => ∃ (p : Addr) (k : Int) (u : Value) (v : V), x = .ref p ∧ y = .int k ∧ intAt K p k = some u ∧ RelV v u ∧ Q v H
section
variable {X : Cx}
theorem ix_idict : IxR X (rIxI X.K) := by
  intro value slice pins s σ H x y vx vy Q I rx ry hh hs
  obtain ⟨p, k, u0, r, rfl, rfl, hat, ru, q⟩ := hh
  obtain rfl : vx = Value.ref p := rx
  obtain ⟨t, rfl⟩ := ry
  obtain ⟨es, n, hl, hk, hf⟩ := intAt_is hat
  have hm : s.heap.MapOf (intKind X.prog X.w) p (fun k => findBy Value.isInt es k) :=
    ⟨_, es, n, I.kIn _ _ hl, ⟨rfl, rfl, rfl⟩, rfl, fun e he => by
      obtain ⟨k, t, e1, e2⟩ := intKeyB_is (List.all_eq_true.mp hk e (Array.mem_toList_iff.mpr he))
      exact ⟨k, by rw [e1]; exact intKind_is X.prog X.w k t, e2⟩, fun _ => rfl⟩
  exact tail_any hm.typeIs slot_dict_getitem.lookup (wpAny_getItem_of (intKind_is X.prog X.w k t) hm hf ⟨r, H, I.tok _, ru, q⟩) hs
end
/-! ### list(reversed(l)) -/
section
variable {prog : Program} {w : World} {A : Around} {E : Value → Shared → Prop} {s : Shared}
theorem ext_rev {R : Result → Shared → Prop} {it l S : Addr} {items : Array Value} {c₀ : Nat} {res : Value} (hh : A.handled = none) (hit : s.heap.IsRevIter it l ((items.size : Int) - 1)) (hl : s.heap.IsList l items) (hne : l ≠ it) (hn : items.size ≤ sizeLine) (hSi : S ≠ it) (hSl : S ≠ l)
    (hS : s.heap.get? S = some { cls := .type "list", data := .seq #[] c₀ })
    (hR : ∀ (h' : Heap) (tk : Nat) (acc : Array Value) (c' : Nat), (∀ b o, b ≠ S → b ≠ it → s.heap.get? b = some o → h'.get? b = some o) → h'.get? S = some { cls := .type "list", dict := none, data := .seq acc c', slots := #[] } →
      ItemsOf (fun i v => items[items.size - 1 - i]? = some v) acc items.size → R (.ok (.ret res)) { s with heap := h', toks := tk }) :
    wpAny (model prog w) A.in1 (Builtin.List.listExtendWith (.ref S) (.ref it) res)
      (fun fin s' => match fin with | .done f => R (.ok f) s' | .again c' => c'.quiet = true ∧ codeAny (model prog w) A c' R s') (fun e s' => R (.error e) s') s := by
  have WR := (Walks.listRev (prog := prog) (w := w) (A := A.in1) hh it l hne items).toS
  have hSf : S ∉ [it, l] := by
    simp only [List.mem_cons, List.not_mem_nil, or_false, not_or]
    exact ⟨hSi, hSl⟩
  have hTI : s.TypeIs (.ref it) "list_reverseiterator" := Heap.IsRevIter.typeIs hit
  have hsame : Builtin.List.listSameRef (.ref S) (.ref it) = false := by simp [Builtin.List.listSameRef, hSi]
  unfold Builtin.List.listExtendWith
  refine wpAny_bind (wpAny_typeOf hTI ?_)
  rw [if_neg (by rw [hsame]; decide)]
  refine wpAny_bind (wpAny_pyIter_revIter hit ?_)
  refine wpAny_bind (wpAny_holding ?_)
  unfold Builtin.List.listLengthHint
  refine wpAny_bind (wpAny_specialOf hTI RT.nolen_lri ?_)
  show wpAny _ A.in1 (specialOf (Value.ref it) (Str.ofString "__length_hint__") >>= _) _ _ s
  refine wpAny_bind (wpAny_specialOf hTI RT.hint_lri ?_)
  generalize hid : ("list_reverseiterator.__length_hint__" : String) = idx
  wp_delta
  rw [show splitId idx = some ("list_reverseiterator", "__length_hint__") from by subst hid; decide +kernel]
  subst hid
  refine wpAny_bind (wpAny_isInstance (b := true) hTI (by rw [isSubtype_type]; kernel_rfl) ?_)
  refine wpAny_pure ?_
  rw [if_neg (by decide)]
  have e0 : ((items.size : Nat) : Int) - 1 - ((0 : Nat) : Int) = (items.size : Int) - 1 := by omega
  refine wpAny_pure ⟨plainId_quiet F.plain_extend_loop _, codeAny_extend_loopS WR hn _ hSf _ items.size 0 _ _ _ rfl (Nat.zero_le _) ⟨Nat.zero_le _, by rw [e0]; exact hit, hl⟩ hS (ItemsOf.nil _) fun s' acc' c' hm hS' hacc => ?_⟩
  rw [Moved.eq_with hm]
  refine hR s'.heap s'.toks acc' c' (fun b o hb1 hb2 e => hm.heap b o (fun hmem => ?_) e) hS' hacc
  rcases List.mem_cons.mp hmem with e' | hmem
  · exact hb1 e'
  · exact hb2 (List.mem_singleton.mp hmem)
theorem call_list_rv {Q : Value → Shared → Prop} {it l : Addr} {items : Array Value} (hh : A.handled = none) (hit : s.heap.IsRevIter it l ((items.size : Int) - 1)) (hl : s.heap.IsList l items) (hne : l ≠ it) (hn : items.size ≤ sizeLine)
    (hQ : ∀ (h' : Heap) (tk : Nat) (acc : Array Value) (c' : Nat), (∀ b o, b ≠ it → s.heap.get? b = some o → h'.get? b = some o) → h'.get? s.heap.objs.size = some { cls := .type "list", dict := none, data := .seq acc c', slots := #[] } →
      ItemsOf (fun i v => items[items.size - 1 - i]? = some v) acc items.size → Q (.ref s.heap.objs.size) { s with heap := h', toks := tk }) :
    wpAny (model prog w) A (call (.type "list") [.ref it]) Q E s := by
  refine callType_codes (Q₁ := fun ob s1 => ob = .ref s.heap.objs.size ∧ s1 = { s with heap := s.heap.push { cls := .type "list", data := .seq #[] } }) F.called_list (F.typeCall_list_1 _) F.entry_list_init
    (code_list_new _ ⟨rfl, rfl⟩) fun ob s1 h1 => ?_
  obtain ⟨rfl, rfl⟩ := h1
  obtain ⟨oi, hoi, _⟩ := id hit
  obtain ⟨ol, hol, _⟩ := id hl
  have hSi : s.heap.objs.size ≠ it := Nat.ne_of_gt (Heap.lt_size hoi)
  have hSl : s.heap.objs.size ≠ l := Nat.ne_of_gt (Heap.lt_size hol)
  have hS0 : (s.heap.push { cls := .type "list", data := .seq #[] }).get? s.heap.objs.size = some { cls := .type "list", data := .seq #[] } := Heap.get?_push_size _ rfl
  refine ⟨⟨_, hS0, rfl⟩, F.args_list_init_2 _ _, ?_⟩
  show wpAny _ A.in1.in1 (do let od ← Builtin.List.listItems (.ref s.heap.objs.size); Builtin.List.listUpdate (.ref s.heap.objs.size) (fun _ => #[]); letGo od.toList.reverse; Builtin.List.listExtendWith (.ref s.heap.objs.size) (.ref it) .none) _ _ _
  refine wpAny_bind ?_
  unfold Builtin.List.listItems
  refine wpAny_bind (wpAny_seqItems hS0 rfl (wpAny_pure ?_))
  show wpAny _ A.in1.in1 (updateSeq s.heap.objs.size (fun _ => #[]) >>= fun _ => letGo (#[] : Array Value).toList.reverse >>= fun _ => Builtin.List.listExtendWith (.ref s.heap.objs.size) (.ref it) .none) _ _ _
  refine wpAny_bind (wpAny_updateSeq hS0 rfl ?_)
  have hS2 := Heap.get?_update_self (Obj.mapSeq (fun _ => (#[] : Array Value))) hS0 rfl
  have oth : ∀ b o, b ≠ s.heap.objs.size → s.heap.get? b = some o → ((s.heap.push { cls := .type "list", data := .seq #[] }).update s.heap.objs.size (Obj.mapSeq (fun _ => (#[] : Array Value)))).get? b = some o :=
    fun b o hb e => (Heap.get?_update_other _ _ (Ne.symm hb)).trans (Heap.get?_push_of_some _ e)
  refine wpAny_bind (wpAny_letGo ?_)
  refine ext_rev (items := items) (A := A.in1) hh (hit.at fun o e => oth it o (Ne.symm hSi) e) (hl.at fun o e => oth l o (Ne.symm hSl) e) hne hn hSi hSl hS2 fun h' tk acc' c' hk hS' hacc => ?_
  exact ⟨rfl, hQ h' tk acc' c' (fun b o hb e => hk b o (Nat.ne_of_lt (Heap.lt_size e)) hb (oth b o (Nat.ne_of_lt (Heap.lt_size e)) e)) hS' hacc⟩
end
def tLstRev (K : PySem.W.Frag) (te : TE) : TE := fun σ H Q => te σ H fun v H1 => ∃ (a : Addr) (xs : List V), v = .ref a ∧ SqL K H1 a xs ∧ ∀ q, H1 q = none → Q (.ref q) (upd H1 q (.lst xs.reverse))
section
variable {X : Cx}
theorem pe_lstRev {e : Expr} {te : TE} {p p2 pos pos2 : Pos} (hc : X.calm = true) (hg : Gl X "list") (hm : X.mg "list" = none) (hg2 : Gl X "reversed") (hm2 : X.mg "reversed" = none) (he : PE X e te)
    (hs : starEach [e] X.env = (false, eval e X.env) :: starEach [] X.env := by rfl)
    (hs2 : starEach [.Call (.Name "reversed" p2) [e] [] pos2] X.env = (false, eval (.Call (.Name "reversed" p2) [e] [] pos2) X.env) :: starEach [] X.env := by rfl) :
    PE X (.Call (.Name "list" p) [.Call (.Name "reversed" p2) [e] [] pos2] [] pos) (tLstRev X.K te) := by
  refine ⟨fun pins s σ H Q I hw => ?_⟩
  refine Call_ (ld_blt I hg hm boot_list (PyProof.Rows.callWith_type1 (args_cons (Call_ (ld_blt I hg2 hm2 PyProof.Rows.boot_reversed (PyProof.Rows.callWith_type1 (args_cons (thn (he.run pins s σ H _ I hw) fun u s1 ⟨v, H1, I1, r1, q1⟩ => args_nil ?_) hs) hs rfl))) hs2) hs2 rfl))
  obtain ⟨a, xs, ev, hq, q⟩ := q1
  subst ev
  obtain rfl : u = Value.ref a := r1
  obtain ⟨its, rv, pl, hz⟩ := I1.list hq
  refine call_reversed_list pl.isList (args_nil ?_)
  have hl := pl.isList
  obtain ⟨ol, hol, _⟩ := id hl
  have hne : a ≠ s1.heap.objs.size := Nat.ne_of_lt (Heap.lt_size hol)
  have hn : its.toArray.size ≤ sizeLine := by rw [List.size_toArray, ← rv.length]; exact hz
  refine call_list_rv (l := a) (items := its.toArray) (I1.ok.hd hc) ⟨_, Heap.get?_push_size _ rfl, rfl, rfl⟩ (hl.push _) hne hn fun h' tk acc c' hk hS hi => ?_
  have hold : ∀ b o, s1.heap.get? b = some o → h'.get? b = some o := fun b o e => hk b o (Nat.ne_of_lt (Heap.lt_size e)) (Heap.get?_push_of_some _ e)
  refine ⟨.ref _, upd H1 _ (.lst xs.reverse), I1.laid (t' := tk) hold (Nat.le_of_lt (by rw [Heap.size_push]; exact Nat.lt_succ_self _)) (show ObjOk X.prog X.w _ _ _ (.lst xs.reverse) from ⟨by rw [List.length_reverse]; exact hz, acc.toList, c', RT.vals_rev rv hi, ?_⟩), rfl, q _ (I1.hok.fresh (Nat.le_of_lt (by rw [Heap.size_push]; exact Nat.lt_succ_self _)))⟩
  rw [Array.toArray_toList]
  exact hS
end
end HF
namespace HFM
open Vbsyae
/-! ## mathematics: places of hurdles, days -/
/-- a place told from the lower or the right one of its two cells -/
def told (f : Field) (x : Nat × Nat) : Nat × Nat := if x.2 = 1 then (match beyond f x.1 1 with
    | some d => (d, 3)
    | none => x) else if x.2 = 2 then (match beyond f x.1 2 with
    | some d => (d, 0)
    | none => x) else x
theorem bey0 {f : Field} {c : Nat} : beyond f c 0 = if 0 < c / f.cols then some (c - f.cols) else none := rfl
theorem bey1 {f : Field} {c : Nat} : beyond f c 1 = if c % f.cols + 1 < f.cols then some (c + 1) else none := rfl
theorem bey2 {f : Field} {c : Nat} : beyond f c 2 = if c / f.cols + 1 < f.rows then some (c + f.cols) else none := rfl
theorem bey3 {f : Field} {c : Nat} : beyond f c 3 = if 0 < c % f.cols then some (c - 1) else none := rfl
theorem div_of {c k r m : Nat} (hk : 0 < k) (e : c = r * k + m) (hm : m < k) : c / k = r ∧ c % k = m := by
  subst e
  have h1 : (r * k + m) / k = r := by
    rw [Nat.add_comm, Nat.add_mul_div_right _ _ hk, Nat.div_eq_of_lt hm, Nat.zero_add]
  have h2 : (r * k + m) % k = m := by
    rw [Nat.add_comm, Nat.add_mul_mod_self_right, Nat.mod_eq_of_lt hm]
  exact ⟨h1, h2⟩
theorem split_of (c : Nat) {k : Nat} (hk : 0 < k) : ∃ r m, c = r * k + m ∧ m < k ∧ c / k = r ∧ c % k = m := by
  refine ⟨c / k, c % k, ?_, Nat.mod_lt _ hk, rfl, rfl⟩
  have := Nat.div_add_mod c k
  rw [Nat.mul_comm] at this
  exact this.symm
theorem b1_3 {f : Field} {c d : Nat} (hk : 0 < f.cols) (h : beyond f c 1 = some d) : beyond f d 3 = some c := by
  rw [bey1] at h
  split at h
  · cases h
    obtain ⟨r, m, e, hm, e1, e2⟩ := split_of c hk
    have h2 := div_of (c := c + 1) (r := r) (m := m + 1) hk (by omega) (by omega)
    rw [bey3, h2.2, if_pos (by omega)]
    rfl
  · cases h
theorem b3_1 {f : Field} {c d : Nat} (hk : 0 < f.cols) (h : beyond f c 3 = some d) : beyond f d 1 = some c := by
  rw [bey3] at h
  split at h
  · rename_i h0
    cases h
    obtain ⟨r, m, e, hm, e1, e2⟩ := split_of c hk
    rw [e2] at h0
    have h2 := div_of (c := c - 1) (r := r) (m := m - 1) hk (by omega) (by omega)
    rw [bey1, h2.2, if_pos (by omega)]
    exact congrArg some (by omega)
  · cases h
theorem b2_0 {f : Field} {c d : Nat} (hk : 0 < f.cols) (h : beyond f c 2 = some d) : beyond f d 0 = some c := by
  rw [bey2] at h
  split at h
  · cases h
    have e : (c + f.cols) / f.cols = c / f.cols + 1 := Nat.add_div_right c hk
    rw [bey0, e, if_pos (Nat.succ_pos _)]
    exact congrArg some (by omega)
  · cases h
theorem b0_2 {f : Field} {c d : Nat} (hk : 0 < f.cols) (hc : c < cells f) (h : beyond f c 0 = some d) : beyond f d 2 = some c := by
  rw [bey0] at h
  split at h
  · rename_i h0
    cases h
    have hge : f.cols ≤ c := Nat.le_of_not_lt fun hl => by rw [Nat.div_eq_of_lt hl] at h0; omega
    have e : (c - f.cols + f.cols) / f.cols = (c - f.cols) / f.cols + 1 := Nat.add_div_right _ hk
    rw [Nat.sub_add_cancel hge] at e
    have hlt : c / f.cols < f.rows := Nat.div_lt_of_lt_mul (by unfold cells at hc; rw [Nat.mul_comm]; exact hc)
    rw [bey2, ← e, if_pos hlt]
    exact congrArg some (by omega)
  · cases h
theorem place_told {f : Field} (hk : 0 < f.cols) (x : Nat × Nat) : place f (told f x) = place f x := by
  obtain ⟨c, s⟩ := x
  unfold told
  by_cases h1 : s = 1
  · subst h1
    simp only [if_true]
    cases hb : beyond f c 1 with
    | none => rfl
    | some d =>
      have h3 := b1_3 hk hb
      simp [place, h3]
  · by_cases h2 : s = 2
    · subst h2
      simp only [if_true, Nat.reduceEqDiff, if_false]
      cases hb : beyond f c 2 with
      | none => rfl
      | some d =>
        have h3 := b2_0 hk hb
        simp [place, h3]
    · simp only [h1, h2, if_false]
theorem told_place {f : Field} (hk : 0 < f.cols) (x : Nat × Nat) (hc : x.1 < cells f) : told f (place f x) = told f x := by
  obtain ⟨c, s⟩ := x
  unfold place
  by_cases h1 : s = 0
  · subst h1
    simp only [if_true]
    cases hb : beyond f c 0 with
    | none => rfl
    | some d =>
      have h3 := b0_2 hk hc hb
      simp [told, h3]
  · by_cases h2 : s = 3
    · subst h2
      simp only [if_true, Nat.reduceEqDiff, if_false]
      cases hb : beyond f c 3 with
      | none => rfl
      | some d =>
        have h3 := b3_1 hk hb
        simp [told, h3]
    · simp only [h1, h2, if_false]
theorem place_iff {f : Field} (hk : 0 < f.cols) {x y : Nat × Nat} (hx : x.1 < cells f) (hy : y.1 < cells f) : place f x = place f y ↔ told f x = told f y := by
  constructor
  · intro h
    rw [← told_place hk x hx, ← told_place hk y hy, h]
  · intro h
    rw [← place_told hk x, ← place_told hk y, h]
/-- told in one way or from the cell beyond -/
theorem told_or (f : Field) (x : Nat × Nat) : told f x = x ∨ ∃ d, beyond f x.1 x.2 = some d ∧ ((x.2 = 1 ∧ told f x = (d, 3)) ∨ (x.2 = 2 ∧ told f x = (d, 0))) := by
  obtain ⟨c, s⟩ := x
  unfold told
  by_cases h1 : s = 1
  · subst h1
    simp only [if_true]
    cases hb : beyond f c 1 with
    | none => exact .inl rfl
    | some d => exact .inr ⟨d, rfl, .inl ⟨trivial, rfl⟩⟩
  · by_cases h2 : s = 2
    · subst h2
      simp only [if_true, Nat.reduceEqDiff, if_false]
      cases hb : beyond f c 2 with
      | none => exact .inl rfl
      | some d => exact .inr ⟨d, rfl, .inr ⟨trivial, rfl⟩⟩
    · simp only [h1, h2, if_false]
      exact .inl trivial
theorem mem_sides {f : Field} {l : List Nat} {x : Nat × Nat} : x ∈ sides f l ↔ x.1 < cells f ∧ x.2 < 4 ∧ hurdle f l x.1 x.2 = true := by
  obtain ⟨c, s⟩ := x
  unfold sides
  simp only [List.mem_flatMap, List.mem_range, List.mem_map, List.mem_filter, Prod.mk.injEq]
  constructor
  · rintro ⟨c', hc', s', ⟨hs', hh⟩, rfl, rfl⟩
    exact ⟨hc', hs', hh⟩
  · rintro ⟨hc, hs, hh⟩
    exact ⟨c, hc, s, ⟨hs, hh⟩, rfl, rfl⟩
theorem hurdle_in {f : Field} {l : List Nat} {c s : Nat} (h : hurdle f l c s = true) : c ∈ l ∧ ∀ d, beyond f c s = some d → d ∉ l := by
  unfold hurdle at h
  rw [Bool.and_eq_true] at h
  refine ⟨by simpa using h.1, fun d hd => ?_⟩
  have h2 := h.2
  rw [hd] at h2
  simpa using h2
theorem told_inj {f : Field} (hk : 0 < f.cols) {l : List Nat} {x y : Nat × Nat} (hx : x ∈ sides f l) (hy : y ∈ sides f l) (e : told f x = told f y) : x = y := by
  obtain ⟨hxc, _, hxh⟩ := mem_sides.mp hx
  obtain ⟨hyc, _, hyh⟩ := mem_sides.mp hy
  obtain ⟨hx1, hx2⟩ := hurdle_in hxh
  obtain ⟨hy1, hy2⟩ := hurdle_in hyh
  obtain ⟨c, s⟩ := x
  obtain ⟨c', s'⟩ := y
  dsimp only at *
  rcases told_or f (c, s) with h | ⟨d, hd, h⟩
  · rcases told_or f (c', s') with h' | ⟨d', hd', h'⟩
    · rw [h, h'] at e
      exact e
    · dsimp only at hd' h'
      exfalso
      rcases h' with ⟨_, h'⟩ | ⟨_, h'⟩
      · rw [h, h'] at e
        cases e
        exact hy2 _ hd' hx1
      · rw [h, h'] at e
        cases e
        exact hy2 _ hd' hx1
  · dsimp only at hd h
    rcases told_or f (c', s') with h' | ⟨d', hd', h'⟩
    · exfalso
      rcases h with ⟨_, h⟩ | ⟨_, h⟩
      · rw [h, h'] at e
        cases e
        exact hx2 _ hd hy1
      · rw [h, h'] at e
        cases e
        exact hx2 _ hd hy1
    · dsimp only at hd' h'
      rcases h with ⟨es, h⟩ | ⟨es, h⟩
      · rcases h' with ⟨es', h'⟩ | ⟨es', h'⟩
        · rw [h, h'] at e
          cases e
          subst es es'
          have a := b1_3 hk hd
          have b := b1_3 hk hd'
          rw [a] at b
          cases b
          rfl
        · rw [h, h'] at e
          cases e
      · rcases h' with ⟨es', h'⟩ | ⟨es', h'⟩
        · rw [h, h'] at e
          cases e
        · rw [h, h'] at e
          cases e
          subst es es'
          have a := b2_0 hk hd
          have b := b2_0 hk hd'
          rw [a] at b
          cases b
          rfl
theorem nodup_range4 : (List.range 4).Nodup := List.nodup_range
theorem sides_nodup (f : Field) (l : List Nat) : (sides f l).Nodup := by
  unfold sides
  rw [List.Nodup, List.pairwise_flatMap]
  refine ⟨fun c _ => ?_, ?_⟩
  · have h : ((List.range 4).filter fun s => hurdle f l c s).Pairwise (· ≠ ·) := List.Pairwise.filter _ List.nodup_range
    refine List.Pairwise.map _ (fun a b hab z => hab ?_) h
    exact congrArg Prod.snd z
  · have h : (List.range (cells f)).Pairwise (· ≠ ·) := List.nodup_range
    refine h.imp fun hab x hx y hy z => hab ?_
    obtain ⟨s, _, rfl⟩ := List.mem_map.mp hx
    obtain ⟨t, _, rfl⟩ := List.mem_map.mp hy
    exact congrArg Prod.fst z
theorem map_nodup {α β : Type} {g : α → β} : ∀ {l : List α}, l.Nodup → (∀ x ∈ l, ∀ y ∈ l, g x = g y → x = y) → (l.map g).Nodup
  | [], _, _ => .nil
  | a :: l, h, inj => by
    obtain ⟨h1, h2⟩ := List.pairwise_cons.mp h
    refine List.Pairwise.cons (fun b hb z => ?_) (map_nodup h2 fun x hx y hy => inj x (List.mem_cons_of_mem _ hx) y (List.mem_cons_of_mem _ hy))
    obtain ⟨c, hc, rfl⟩ := List.mem_map.mp hb
    exact h1 c hc (inj a (by simp) c (List.mem_cons_of_mem _ hc) z)
/-- the places of a fold, each told once -/
def tolds (f : Field) (l : List Nat) : List (Nat × Nat) := (sides f l).map (told f)
theorem tolds_nodup {f : Field} (hk : 0 < f.cols) (l : List Nat) : (tolds f l).Nodup := map_nodup (sides_nodup f l) fun _ hx _ hy e => told_inj hk hx hy e
/-- those of m that are not among l -/
def cnt (l m : List (Nat × Nat)) : Nat := (m.filter fun x => !l.contains x).length
theorem carry_cnt {f : Field} (hk : 0 < f.cols) (l m : List Nat) : (((sides f m).map (place f)).filter fun x => !((sides f l).map (place f)).contains x).length = cnt (tolds f l) (tolds f m) := by
  unfold cnt tolds
  rw [List.filter_map, List.filter_map, List.length_map, List.length_map]
  congr 1
  refine List.filter_congr fun x hx => ?_
  have hxc := (mem_sides.mp hx).1
  show (!((sides f l).map (place f)).contains (place f x)) = (!((sides f l).map (told f)).contains (told f x))
  congr 1
  rw [Bool.eq_iff_iff, List.contains_iff_mem, List.contains_iff_mem, List.mem_map, List.mem_map]
  constructor
  · rintro ⟨y, hy, e⟩
    exact ⟨y, hy, (place_iff hk (mem_sides.mp hy).1 hxc).mp e⟩
  · rintro ⟨y, hy, e⟩
    exact ⟨y, hy, (place_iff hk (mem_sides.mp hy).1 hxc).mpr e⟩
/-- the places of the day d -/
def dayT (f : Field) (d : Nat) : List (Nat × Nat) := tolds f (dayCells f d)
theorem carry_eq {f : Field} (hk : 0 < f.cols) (a b : Nat) : carry f a b = cnt (dayT f a) (dayT f b) := carry_cnt hk _ _
theorem places_len (f : Field) (d : Nat) : (places f d).length = (dayT f d).length := by
  unfold places dayT tolds
  rw [List.length_map, List.length_map]
theorem cnt_nil (m : List (Nat × Nat)) : cnt [] m = m.length := by
  unfold cnt
  have : m.filter (fun x => !([] : List (Nat × Nat)).contains x) = m := List.filter_eq_self.mpr fun _ _ => rfl
  rw [this]
theorem stay_eq {f : Field} (hk : 0 < f.cols) (a b : Nat) : ((places f b).filter fun x => (places f a).contains x).length = (dayT f b).length - cnt (dayT f a) (dayT f b) ∧ cnt (dayT f a) (dayT f b) ≤ (dayT f b).length := by
  rw [← carry_eq hk, ← places_len]
  unfold carry
  have key : ∀ l : List (Nat × Nat), (l.filter fun x => (places f a).contains x).length + (l.filter fun x => !(places f a).contains x).length = l.length := fun l => by
    induction l with
    | nil => rfl
    | cons x l ih =>
      cases h : (places f a).contains x <;> simp only [List.filter_cons, h, Bool.not_true, Bool.not_false, if_true, Bool.false_eq_true, if_false, List.length_cons] <;> omega
  have := key (places f b)
  omega
/-! ### rows of days -/
/-- what is carried day by day, from what stands -/
def each : List (Nat × Nat) → List (List (Nat × Nat)) → List Nat
  | _, [] => []
  | s, m :: ms => cnt s m :: each m ms
theorem each_len : ∀ (s : List (Nat × Nat)) (ms : List (List (Nat × Nat))), (each s ms).length = ms.length
  | _, [] => rfl
  | s, m :: ms => congrArg (· + 1) (each_len m ms)
theorem foldl_add {α : Type} (g : α → Nat) : ∀ (l : List α) (m : Nat), l.foldl (fun m z => m + g z) m = m + (l.map g).sum
  | [], m => by simp
  | x :: l, m => by
    rw [List.foldl_cons, foldl_add g l, List.map_cons, List.sum_cons]
    omega
theorem carries_each {f : Field} (hk : 0 < f.cols) : ∀ l : List Nat, carries f l = (each [] (l.map (dayT f))).sum
  | [] => rfl
  | d :: l => by
    show (places f d).length + (l.zip (d :: l)).foldl (fun m z => m + carry f z.2 z.1) 0 = _
    rw [foldl_add (fun z : Nat × Nat => carry f z.2 z.1), Nat.zero_add]
    show _ = (cnt [] (dayT f d) :: each (dayT f d) (l.map (dayT f))).sum
    rw [List.sum_cons, cnt_nil, places_len]
    congr 1
    have key : ∀ (l : List Nat) (d : Nat), (((l.zip (d :: l)).map fun z : Nat × Nat => carry f z.2 z.1)).sum = (each (dayT f d) (l.map (dayT f))).sum := fun l => by
      induction l with
      | nil => intro d; rfl
      | cons e l ih =>
        intro d
        show (carry f d e :: ((l.zip (e :: l)).map fun z : Nat × Nat => carry f z.2 z.1)).sum = (cnt (dayT f d) (dayT f e) :: each (dayT f e) (l.map (dayT f))).sum
        rw [List.sum_cons, List.sum_cons, ih, carry_eq hk]
    exact key l d
theorem each_get {ms : List (List (Nat × Nat))} : ∀ {s : List (Nat × Nat)} {i : Nat} {m : List (Nat × Nat)}, ms[i]? = some m → (each s ms)[i]? = some (cnt (if i = 0 then s else (ms[i - 1]?.getD [])) m) := by
  induction ms with
  | nil => intro s i m h; simp at h
  | cons x ms ih =>
    intro s i m h
    cases i with
    | zero =>
      cases h
      rfl
    | succ i =>
      have h' : ms[i]? = some m := by simpa using h
      show (each x ms)[i]? = _
      rw [ih h']
      cases i with
      | zero => rfl
      | succ i => rfl
theorem most_eq (f : Field) : most f = ((List.range f.days.length).map fun d => (dayT f d).length).foldl max 0 := by
  unfold most order
  congr 1
  exact List.map_congr_left fun d _ => places_len f d
theorem foldl_max {l : List Nat} : ∀ {a : Nat}, (a ≤ l.foldl max a) ∧ (∀ x ∈ l, x ≤ l.foldl max a) ∧ (l.foldl max a = a ∨ l.foldl max a ∈ l) := by
  induction l with
  | nil => intro a; exact ⟨Nat.le_refl _, fun x hx => by simp at hx, .inl rfl⟩
  | cons y l ih =>
    intro a
    obtain ⟨h1, h2, h3⟩ := ih (a := max a y)
    rw [List.foldl_cons]
    refine ⟨by omega, fun x hx => ?_, ?_⟩
    · rcases List.mem_cons.mp hx with z | z
      · rw [z]; omega
      · exact h2 x z
    · rcases h3 with z | z
      · rw [z]
        rcases Nat.le_total a y with q | q
        · right; rw [Nat.max_eq_right q]; simp
        · left; exact Nat.max_eq_left q
      · right; exact List.mem_cons_of_mem _ z
theorem max_is {l : List Nat} {m : Nat} (hm : m ∈ l) (h : ∀ x ∈ l, x ≤ m) : l.foldl max 0 = m := by
  obtain ⟨_, h2, h3⟩ := foldl_max (l := l) (a := 0)
  have a := h2 m hm
  rcases h3 with z | z
  · omega
  · have := h _ z
    omega
/-! ### the cells of a day -/
theorem pair_ext : ∀ {l m : List Nat}, l.Pairwise (· < ·) → m.Pairwise (· < ·) → (∀ x, x ∈ l ↔ x ∈ m) → l = m
  | [], [], _, _, _ => rfl
  | [], y :: m, _, _, h => by
    have := (h y).mpr (by simp)
    cases this
  | x :: l, [], _, _, h => by
    have := (h x).mp (by simp)
    cases this
  | x :: l, y :: m, h1, h2, h => by
    obtain ⟨a1, b1⟩ := List.pairwise_cons.mp h1
    obtain ⟨a2, b2⟩ := List.pairwise_cons.mp h2
    have e : x = y := by
      rcases List.mem_cons.mp ((h x).mp (by simp)) with z | z
      · exact z
      · rcases List.mem_cons.mp ((h y).mpr (by simp)) with z2 | z2
        · exact z2.symm
        · have := a2 x z
          have := a1 y z2
          omega
    subst e
    congr 1
    refine pair_ext b1 b2 fun z => ⟨fun hz => ?_, fun hz => ?_⟩
    · rcases List.mem_cons.mp ((h z).mp (List.mem_cons_of_mem _ hz)) with q | q
      · have := a1 z hz
        omega
      · exact q
    · rcases List.mem_cons.mp ((h z).mpr (List.mem_cons_of_mem _ hz)) with q | q
      · have := a2 z hz
        omega
      · exact q
/-- line by line -/
def lineC (f : Field) (x : Fold) (i : Nat) : List Nat := (List.range x.wide).map fun j => (x.row + i) * f.cols + (x.col + j)
def dcells (f : Field) (x : Fold) : List Nat := (List.range x.high).flatMap fun i => lineC f x i
theorem dcells_pair {f : Field} {x : Fold} (hc : x.col + x.wide ≤ f.cols) : (dcells f x).Pairwise (· < ·) := by
  unfold dcells
  rw [List.pairwise_flatMap]
  refine ⟨fun i _ => ?_, ?_⟩
  · unfold lineC
    refine List.Pairwise.map _ (fun a b hab => ?_) List.pairwise_lt_range
    omega
  · refine List.Pairwise.imp_of_mem (R := (· < ·)) (fun {a b} ha hb hab y hy z hz => ?_) List.pairwise_lt_range
    obtain ⟨j, hj, rfl⟩ := List.mem_map.mp hy
    obtain ⟨k, hk, rfl⟩ := List.mem_map.mp hz
    have hj' := List.mem_range.mp hj
    have h1 : (x.row + a + 1) * f.cols ≤ (x.row + b) * f.cols := Nat.mul_le_mul_right _ (by omega)
    rw [Nat.add_mul, Nat.one_mul] at h1
    omega
theorem mem_dcells {f : Field} {x : Fold} (hk : 0 < f.cols) (hc : x.col + x.wide ≤ f.cols) {c : Nat} : c ∈ dcells f x ↔ x.row ≤ c / f.cols ∧ c / f.cols < x.row + x.high ∧ x.col ≤ c % f.cols ∧ c % f.cols < x.col + x.wide := by
  unfold dcells lineC
  simp only [List.mem_flatMap, List.mem_map, List.mem_range]
  constructor
  · rintro ⟨i, hi, j, hj, rfl⟩
    obtain ⟨h1, h2⟩ := div_of (c := (x.row + i) * f.cols + (x.col + j)) (r := x.row + i) (m := x.col + j) hk rfl (by omega)
    rw [h1, h2]
    omega
  · rintro ⟨h1, h2, h3, h4⟩
    obtain ⟨r, m, e, hm, e1, e2⟩ := split_of c hk
    refine ⟨c / f.cols - x.row, by omega, c % f.cols - x.col, by omega, ?_⟩
    rw [Nat.add_sub_of_le h1, Nat.add_sub_of_le h3, e1, e2]
    exact e.symm
theorem dcells_eq {f : Field} {x : Fold} (hk : 0 < f.cols) (hr : x.row + x.high ≤ f.rows) (hc : x.col + x.wide ≤ f.cols) : foldCells f x = dcells f x := by
  refine pair_ext (List.Pairwise.filter _ List.pairwise_lt_range) (dcells_pair hc) fun c => ?_
  unfold foldCells
  rw [List.mem_filter, List.mem_range, mem_dcells hk hc]
  constructor
  · intro h
    simpa using h.2
  · intro h
    refine ⟨?_, by simpa using h⟩
    unfold cells
    have : c / f.cols < f.rows := by omega
    exact (Nat.div_lt_iff_lt_mul hk).mp this
theorem dcells_len (f : Field) (x : Fold) : (dcells f x).length = x.high * x.wide := by
  unfold dcells lineC
  rw [List.length_flatMap]
  simp only [List.length_map, List.length_range, List.map_const', List.sum_replicate_nat]
theorem foldl_count_len {α : Type} [BEq α] [LawfulBEq α] : ∀ l : List α, l.length = l.length := fun _ => rfl
/-! ### how often a cell is folded -/
theorem count_nodup {l : List Nat} (h : l.Nodup) (c : Nat) : l.count c = if l.contains c = true then 1 else 0 := by
  by_cases hc : c ∈ l
  · rw [if_pos (by simpa using hc)]
    have h1 := List.nodup_iff_count.mp h c
    have h2 := List.count_pos_iff.mpr hc
    omega
  · rw [if_neg (by simpa using hc)]
    exact List.count_eq_zero.mpr hc
theorem count_flat (g : Nat → List Nat) (c : Nat) : ∀ ds : List Nat, (∀ d ∈ ds, (g d).Nodup) → (ds.flatMap g).count c = (ds.filter fun d => (g d).contains c).length
  | [], _ => rfl
  | d :: ds, h => by
    rw [List.flatMap_cons, List.count_append, count_flat g c ds (fun e he => h e (List.mem_cons_of_mem _ he)), count_nodup (h d (by simp)), List.filter_cons]
    split
    · rw [List.length_cons]; omega
    · omega
end HFM
namespace HFM
open Vbsyae
/-! ## orders -/
theorem sub_perm : ∀ {l m : List Nat}, l.Nodup → (∀ x ∈ l, x ∈ m) → l.length = m.length → l.Perm m
  | [], m, _, _, h => by
    have : m = [] := List.eq_nil_of_length_eq_zero h.symm
    rw [this]
  | a :: l, m, hn, hs, h => by
    obtain ⟨h1, h2⟩ := List.pairwise_cons.mp hn
    have ha : a ∈ m := hs a (by simp)
    have hp := List.perm_cons_erase ha
    refine List.Perm.trans (List.Perm.cons a (sub_perm h2 (fun x hx => ?_) ?_)) hp.symm
    · exact (List.mem_erase_of_ne (fun z => h1 x hx z.symm)).mpr (hs x (List.mem_cons_of_mem _ hx))
    · rw [List.length_erase_of_mem ha, ← h]
      rfl
theorem sorted_ext : ∀ {l m : List Int}, l.Pairwise (· ≤ ·) → m.Pairwise (· ≤ ·) → l.Perm m → l = m
  | [], m, _, _, h => by
    have := h.length_eq
    exact (List.eq_nil_of_length_eq_zero this.symm).symm
  | x :: l, [], _, _, h => by
    have := h.length_eq
    simp at this
  | x :: l, y :: m, h1, h2, h => by
    obtain ⟨a1, b1⟩ := List.pairwise_cons.mp h1
    obtain ⟨a2, b2⟩ := List.pairwise_cons.mp h2
    have e : x = y := by
      have hx : x ∈ y :: m := h.subset (by simp)
      have hy : y ∈ x :: l := h.symm.subset (by simp)
      rcases List.mem_cons.mp hx with z | z
      · exact z
      · rcases List.mem_cons.mp hy with z2 | z2
        · exact z2.symm
        · have := a2 x z
          have := a1 y z2
          omega
    subst e
    congr 1
    exact sorted_ext b1 b2 (List.Perm.cons_inv h)
def upTo (n : Nat) : List Int := (List.range n).map fun (i : Nat) => (i : Int)
theorem upTo_sorted (n : Nat) : (upTo n).Pairwise (· ≤ ·) := by
  unfold upTo
  refine List.Pairwise.map _ (fun a b hab => ?_) List.pairwise_lt_range
  omega
theorem order_iff (f : Field) (l s : List Int) (hp : s.Perm l) (hs : s.Pairwise (· ≤ ·)) :
    s = upTo f.days.length ↔ ((l.all fun d => VbsyCore.isBetween d 0 ((f.days.length : Int) - 1)) = true ∧ isOrder f (l.map Int.toNat) = true) := by
  constructor
  · intro e
    subst e
    have hmem : ∀ x : Int, x ∈ l ↔ ∃ i, i < f.days.length ∧ x = (i : Int) := fun x => by
      rw [← hp.mem_iff]
      unfold upTo
      simp only [List.mem_map, List.mem_range]
      constructor
      · rintro ⟨i, hi, rfl⟩; exact ⟨i, hi, rfl⟩
      · rintro ⟨i, hi, rfl⟩; exact ⟨i, hi, rfl⟩
    refine ⟨List.all_eq_true.mpr fun x hx => ?_, ?_⟩
    · obtain ⟨i, hi, rfl⟩ := (hmem x).mp hx
      unfold VbsyCore.isBetween
      simp
      omega
    · unfold isOrder
      rw [Bool.and_eq_true]
      refine ⟨?_, List.all_eq_true.mpr fun i hi => ?_⟩
      · have := hp.length_eq
        unfold upTo at this
        rw [List.length_map, List.length_range] at this
        rw [List.length_map, ← this]
        simp
      · unfold order at hi
        rw [List.contains_iff_mem, List.mem_map]
        exact ⟨(i : Int), (hmem _).mpr ⟨i, List.mem_range.mp hi, rfl⟩, rfl⟩
  · rintro ⟨h1, h2⟩
    unfold isOrder at h2
    rw [Bool.and_eq_true] at h2
    obtain ⟨h3, h4⟩ := h2
    have hl : l.length = f.days.length := by simpa using h3
    refine sorted_ext hs (upTo_sorted _) (hp.trans ?_)
    have e : l = (l.map Int.toNat).map fun (i : Nat) => (i : Int) := by
      rw [List.map_map]
      have : l.map id = l := List.map_id l
      conv => lhs; rw [← this]
      refine List.map_congr_left fun x hx => ?_
      have := List.all_eq_true.mp h1 x hx
      unfold VbsyCore.isBetween at this
      simp at this
      show x = ((x.toNat : Nat) : Int)
      omega
    rw [e]
    unfold upTo
    refine List.Perm.map _ (List.Perm.symm (sub_perm List.nodup_range (fun x hx => ?_) ?_))
    · have := List.all_eq_true.mp h4 x hx
      simpa using this
    · rw [List.length_range, List.length_map, hl]
/-! ## tallies -/
def tally (R : Nat) (m : List Nat) : List Nat := (List.range R).map fun r => m.count r
theorem tally_len (R : Nat) (m : List Nat) : (tally R m).length = R := by
  unfold tally
  rw [List.length_map, List.length_range]
theorem tally_get {R : Nat} {m : List Nat} {q : Nat} (h : q < R) : (tally R m)[q]? = some (m.count q) := by
  unfold tally
  rw [List.getElem?_map, List.getElem?_range h]
  rfl
theorem tally_nil (R : Nat) : tally R [] = List.replicate R 0 := by
  unfold tally
  simp [List.map_const']
theorem tally_snoc {R : Nat} {m : List Nat} {q : Nat} (h : q < R) : tally R (m ++ [q]) = (tally R m).set q (m.count q + 1) := by
  refine List.ext_getElem? fun i => ?_
  rw [List.getElem?_set]
  by_cases hi : i < R
  · rw [tally_get hi, tally_get hi, tally_len, List.count_append]
    by_cases c : q = i
    · subst c
      simp [h]
    · rw [if_neg c]
      have : List.count i [q] = 0 := by
        rw [List.count_eq_zero]
        simp
        omega
      rw [this]
      rfl
  · have h1 : (tally R (m ++ [q]))[i]? = none := List.getElem?_eq_none (by rw [tally_len]; omega)
    have h2 : (tally R m)[i]? = none := List.getElem?_eq_none (by rw [tally_len]; omega)
    rw [h1, h2, if_neg (by omega)]
/-! ## the rounded rectangle -/
theorem row_filter {f : Field} (hk : 0 < f.cols) {l : List Nat} (hp : l.Pairwise (· < ·)) (r : Nat) : l.filter (fun c => decide (c / f.cols = r)) = ((List.range f.cols).filter fun k => l.contains (r * f.cols + k)).map fun k => r * f.cols + k := by
  refine pair_ext (hp.filter _) (List.Pairwise.map _ (fun a b h => by omega) (List.Pairwise.filter _ List.pairwise_lt_range)) fun c => ?_
  simp only [List.mem_filter, List.mem_map, List.mem_range, decide_eq_true_eq, List.contains_iff_mem]
  constructor
  · rintro ⟨h1, h2⟩
    obtain ⟨q, m, e, hm, e1, e2⟩ := split_of c hk
    have : c = r * f.cols + m := by rw [← h2, e1]; exact e
    exact ⟨m, ⟨hm, by rw [← this]; exact h1⟩, this.symm⟩
  · rintro ⟨k, ⟨hk1, hk2⟩, rfl⟩
    exact ⟨hk2, (div_of hk rfl hk1).1⟩
theorem col_filter {f : Field} (hk : 0 < f.cols) {l : List Nat} (hp : l.Pairwise (· < ·)) (hlt : ∀ c ∈ l, c < cells f) (k : Nat) (hkc : k < f.cols) : l.filter (fun c => decide (c % f.cols = k)) = ((List.range f.rows).filter fun r => l.contains (r * f.cols + k)).map fun r => r * f.cols + k := by
  refine pair_ext (hp.filter _) (List.Pairwise.map _ (fun a b h => ?_) (List.Pairwise.filter _ List.pairwise_lt_range)) fun c => ?_
  · have := Nat.mul_lt_mul_of_pos_right h hk
    omega
  simp only [List.mem_filter, List.mem_map, List.mem_range, decide_eq_true_eq, List.contains_iff_mem]
  constructor
  · rintro ⟨h1, h2⟩
    obtain ⟨q, m, e, hm, e1, e2⟩ := split_of c hk
    have e3 : c = q * f.cols + k := by rw [← h2, e2]; exact e
    have hq : q < f.rows := by
      rw [← e1]
      exact Nat.div_lt_of_lt_mul (by have := hlt c h1; unfold cells at this; rw [Nat.mul_comm]; exact this)
    exact ⟨q, ⟨hq, by rw [← e3]; exact h1⟩, e3.symm⟩
  · rintro ⟨r, ⟨hr, hr2⟩, rfl⟩
    exact ⟨hr2, (div_of hk rfl hkc).2⟩
theorem count_map (g : Nat → Nat) (l : List Nat) (r : Nat) : (l.map g).count r = (l.filter fun c => decide (g c = r)).length := by
  rw [List.count, List.countP_map, List.countP_eq_length_filter]
  congr 1
theorem inRow {f : Field} (hk : 0 < f.cols) {l : List Nat} (hp : l.Pairwise (· < ·)) (r : Nat) : (l.map (· / f.cols)).count r = ((List.range f.cols).filter fun k => l.contains (r * f.cols + k)).length := by
  rw [count_map, row_filter hk hp, List.length_map]
theorem inCol {f : Field} (hk : 0 < f.cols) {l : List Nat} (hp : l.Pairwise (· < ·)) (hlt : ∀ c ∈ l, c < cells f) (k : Nat) (hkc : k < f.cols) : (l.map (· % f.cols)).count k = ((List.range f.rows).filter fun r => l.contains (r * f.cols + k)).length := by
  rw [count_map, col_filter hk hp hlt k hkc, List.length_map]
theorem full_iff {n : Nat} (p : Nat → Bool) : ((List.range n).filter p).length = n ↔ (List.range n).all p = true := by
  have h := List.length_filter_eq_length_iff (p := p) (l := List.range n)
  rw [List.length_range] at h
  rw [h, List.all_eq_true]
theorem some_iff {n : Nat} (p : Nat → Bool) : ((List.range n).filter p).length ≠ 0 ↔ (List.range n).any p = true := by
  rw [List.any_eq_true]
  constructor
  · intro h
    have : (List.range n).filter p ≠ [] := fun z => h (by rw [z]; rfl)
    obtain ⟨x, hx⟩ := List.exists_mem_of_ne_nil _ this
    exact ⟨x, (List.mem_filter.mp hx).1, (List.mem_filter.mp hx).2⟩
  · rintro ⟨x, hx, hpx⟩ z
    have := List.eq_nil_of_length_eq_zero z
    have h2 : x ∈ (List.range n).filter p := List.mem_filter.mpr ⟨hx, hpx⟩
    rw [this] at h2
    cases h2
theorem fullRow_eq {f : Field} (hk : 0 < f.cols) {l : List Nat} (hp : l.Pairwise (· < ·)) : fullRow f l = (walled f 1 && (walled f 3 && (tally f.rows (l.map (· / f.cols))).contains f.cols)) := by
  unfold fullRow
  congr 2
  rw [Bool.eq_iff_iff, List.any_eq_true, List.contains_iff_mem]
  unfold tally
  rw [List.mem_map]
  constructor
  · rintro ⟨r, hr, h⟩
    refine ⟨r, hr, ?_⟩
    rw [inRow hk hp]
    exact (full_iff _).mpr h
  · rintro ⟨r, hr, h⟩
    rw [inRow hk hp] at h
    exact ⟨r, hr, (full_iff _).mp h⟩
theorem fullCol_eq {f : Field} (hk : 0 < f.cols) {l : List Nat} (hp : l.Pairwise (· < ·)) (hlt : ∀ c ∈ l, c < cells f) : fullCol f l = (walled f 0 && (walled f 2 && (tally f.cols (l.map (· % f.cols))).contains f.rows)) := by
  unfold fullCol
  congr 2
  rw [Bool.eq_iff_iff, List.any_eq_true, List.contains_iff_mem]
  unfold tally
  rw [List.mem_map]
  constructor
  · rintro ⟨r, hr, h⟩
    refine ⟨r, hr, ?_⟩
    rw [inCol hk hp hlt r (List.mem_range.mp hr)]
    exact (full_iff _).mpr h
  · rintro ⟨r, hr, h⟩
    rw [inCol hk hp hlt r (List.mem_range.mp hr)] at h
    exact ⟨r, hr, (full_iff _).mp h⟩
theorem zeros (R : Nat) (g : Nat → Nat) : R - ((List.range R).map g).count 0 = ((List.range R).filter fun r => decide (g r ≠ 0)).length ∧ ((List.range R).map g).count 0 ≤ R := by
  have h : ∀ l : List Nat, (l.map g).count 0 + (l.filter fun r => decide (g r ≠ 0)).length = l.length := fun l => by
    induction l with
    | nil => rfl
    | cons x l ih =>
      rw [List.map_cons, List.count_cons, List.filter_cons, List.length_cons]
      by_cases c : g x = 0
      · simp [c]
        simp at ih
        omega
      · simp [c]
        simp at ih
        omega
  have := h (List.range R)
  rw [List.length_range] at this
  omega
theorem rowsIn {f : Field} (hk : 0 < f.cols) {l : List Nat} (hp : l.Pairwise (· < ·)) : f.rows - (tally f.rows (l.map (· / f.cols))).count 0 = ((List.range f.rows).filter fun r => (List.range f.cols).any fun k => l.contains (r * f.cols + k)).length := by
  unfold tally
  rw [(zeros _ _).1]
  congr 1
  refine List.filter_congr fun r _ => ?_
  rw [inRow hk hp, Bool.eq_iff_iff, decide_eq_true_eq, some_iff]
theorem colsIn {f : Field} (hk : 0 < f.cols) {l : List Nat} (hp : l.Pairwise (· < ·)) (hlt : ∀ c ∈ l, c < cells f) : f.cols - (tally f.cols (l.map (· % f.cols))).count 0 = ((List.range f.cols).filter fun k => (List.range f.rows).any fun r => l.contains (r * f.cols + k)).length := by
  unfold tally
  rw [(zeros _ _).1]
  congr 1
  refine List.filter_congr fun k hkk => ?_
  rw [inCol hk hp hlt k (List.mem_range.mp hkk), Bool.eq_iff_iff, decide_eq_true_eq, some_iff]
theorem rounded_le {f : Field} (l : List Nat) : (rounded f l).1 ≤ f.rows ∧ (rounded f l).2 ≤ f.cols := by
  unfold rounded
  split
  · exact ⟨Nat.le_refl _, Nat.le_refl _⟩
  · refine ⟨Nat.le_trans (List.length_filter_le _ _) ?_, Nat.le_trans (List.length_filter_le _ _) ?_⟩
    · rw [List.length_range]; exact Nat.le_refl _
    · rw [List.length_range]; exact Nat.le_refl _
/-! ## the table -/
theorem bit_sub : ∀ x, x < 128 → ∀ d, d < 7 → bit x d = true → ∀ e, e < 7 → bit (x - 2 ^ d) e = (decide (e ≠ d) && bit x e) := by decide +kernel
theorem bit_le {x d : Nat} (h : bit x d = true) : 2 ^ d ≤ x := by
  unfold bit at h
  have h1 : x / 2 ^ d % 2 = 1 := by simpa using h
  refine Nat.le_of_not_lt fun hl => ?_
  rw [Nat.div_eq_of_lt hl] at h1
  cases h1
theorem bit_some : ∀ n, n < 8 → ∀ x, x < 2 ^ n → x ≠ 0 → ∃ e, e < n ∧ bit x e = true := by decide +kernel
theorem bit_all : ∀ n, n < 8 → ∀ d, d < n → bit (2 ^ n - 1) d = true := by decide +kernel
theorem pow_le7 : ∀ n, n < 8 → 2 ^ n ≤ 128 := by decide +kernel
def pop (x : Nat) : Nat := ((List.range 7).filter fun d => bit x d).length
theorem pop_sub : ∀ x, x < 128 → ∀ d, d < 7 → bit x d = true → pop (x - 2 ^ d) + 1 = pop x := by decide +kernel
theorem pop_all : ∀ n, n < 8 → pop (2 ^ n - 1) = n := by decide +kernel
section tab
variable (n : Nat) (first : Nat → Nat) (step : Nat → Nat → Nat)
def ent (ls : List (List (Option Nat))) (x d : Nat) : Option Nat := if bit x d = false then none else if x - 2 ^ d = 0 then some (first d) else
  ((List.range n).filterMap fun e => ((ls.getD (x - 2 ^ d) []).getD e none).map fun v => v + step e d).min?
def lineOf (ls : List (List (Option Nat))) (x : Nat) : List (Option Nat) := (List.range n).map fun d => ent n first step ls x d
def linesTo : Nat → List (List (Option Nat))
  | 0 => []
  | k + 1 => linesTo k ++ [lineOf n first step (linesTo k) k]
theorem linesTo_len : ∀ k, (linesTo n first step k).length = k
  | 0 => rfl
  | k + 1 => by
    show (linesTo n first step k ++ [_]).length = _
    rw [List.length_append, linesTo_len k]
    rfl
/-- the line of the set x -/
def L (x : Nat) : List (Option Nat) := lineOf n first step (linesTo n first step x) x
theorem L_len (x : Nat) : (L n first step x).length = n := by
  unfold L lineOf
  rw [List.length_map, List.length_range]
theorem linesTo_get : ∀ {k y : Nat}, y < k → (linesTo n first step k)[y]? = some (L n first step y)
  | 0, y, h => by omega
  | k + 1, y, h => by
    show (linesTo n first step k ++ [L n first step k])[y]? = _
    by_cases c : y < k
    · rw [List.getElem?_append_left (by rw [linesTo_len]; exact c)]
      exact linesTo_get c
    · have : y = k := by omega
      subst this
      rw [List.getElem?_append_right (by rw [linesTo_len]; exact Nat.le_refl _), linesTo_len, Nat.sub_self]
      rfl
/-- what the set x carries at least, d last -/
def E (x d : Nat) : Option Nat := (L n first step x).getD d none
theorem E_ent {x d : Nat} (h : d < n) : E n first step x d = ent n first step (linesTo n first step x) x d := by
  unfold E L lineOf
  rw [List.getD_eq_getElem?_getD, List.getElem?_map, List.getElem?_range h]
  rfl
theorem L_get {x d : Nat} (h : d < n) : (L n first step x)[d]? = some (E n first step x d) := by
  rw [E_ent n first step h]
  unfold L lineOf
  rw [List.getElem?_map, List.getElem?_range h]
  rfl
theorem E_eq {x d : Nat} (h : d < n) : E n first step x d = if bit x d = false then none else if x - 2 ^ d = 0 then some (first d) else
    ((List.range n).filterMap fun e => (E n first step (x - 2 ^ d) e).map fun v => v + step e d).min? := by
  rw [E_ent n first step h]
  unfold ent
  by_cases hb : bit x d = false
  · rw [if_pos hb, if_pos hb]
  · rw [if_neg hb, if_neg hb]
    by_cases h0 : x - 2 ^ d = 0
    · rw [if_pos h0, if_pos h0]
    · rw [if_neg h0, if_neg h0]
      have hle := bit_le (by simpa using hb : bit x d = true)
      have hlt : x - 2 ^ d < x := by
        have := Nat.two_pow_pos d
        omega
      have e : (linesTo n first step x).getD (x - 2 ^ d) [] = L n first step (x - 2 ^ d) := by
        rw [List.getD_eq_getElem?_getD, linesTo_get n first step hlt]
        rfl
      rw [e]
      rfl
theorem min?_none {l : List Nat} : l.min? = none ↔ l = [] := List.min?_eq_none_iff
theorem E_some (hn : n < 8) : ∀ (x : Nat), x < 2 ^ n → ∀ d, d < n → (E n first step x d).isSome = bit x d := by
  intro x
  induction x using Nat.strongRecOn with
  | ind x ih =>
    intro hx d hd
    rw [E_eq n first step hd]
    cases hb : bit x d with
    | false => rfl
    | true =>
      rw [if_neg (by simp)]
      by_cases h0 : x - 2 ^ d = 0
      · rw [if_pos h0]
        rfl
      · rw [if_neg h0]
        have hlt : x - 2 ^ d < x := by
          have := Nat.two_pow_pos d
          have := bit_le hb
          omega
        obtain ⟨e, he, hbe⟩ := bit_some n hn (x - 2 ^ d) (by omega) h0
        have hs := ih _ hlt (by omega) e he
        rw [hbe] at hs
        obtain ⟨v, hv⟩ := Option.isSome_iff_exists.mp hs
        have hm : v + step e d ∈ (List.range n).filterMap fun e => (E n first step (x - 2 ^ d) e).map fun v => v + step e d := List.mem_filterMap.mpr ⟨e, List.mem_range.mpr he, by rw [hv]; rfl⟩
        cases hz : ((List.range n).filterMap fun e => (E n first step (x - 2 ^ d) e).map fun v => v + step e d).min? with
        | some m => rfl
        | none =>
          rw [List.min?_eq_none_iff.mp hz] at hm
          cases hm
theorem fold_lesser {g : Nat → Option Nat} : ∀ (es : List Nat) (acc : Option Nat), es.foldl (fun m e => lesser m (g e)) acc = (acc.toList ++ es.filterMap g).min?
  | [], none => rfl
  | [], some a => by simp [List.min?]
  | e :: es, acc => by
    rw [List.foldl_cons, fold_lesser es, List.filterMap_cons]
    cases hg : g e with
    | none => cases acc <;> rfl
    | some b =>
      cases acc with
      | none => rfl
      | some a =>
        show ([min a b] ++ es.filterMap g).min? = ([a] ++ (b :: es.filterMap g)).min?
        rw [List.singleton_append, List.singleton_append, List.min?_cons', List.min?_cons', List.foldl_cons]
theorem flat_get {k : Nat} : ∀ {ls : List (List (Option Nat))} {y e : Nat}, (∀ l ∈ ls, l.length = k) → e < k → ls.flatten[y * k + e]? = ls[y]?.bind fun l => l[e]?
  | [], y, e, _, _ => by simp
  | l :: ls, 0, e, h, he => by
    rw [List.flatten_cons, Nat.zero_mul, Nat.zero_add, List.getElem?_append_left (by rw [h l (by simp)]; exact he)]
    rfl
  | l :: ls, y + 1, e, h, he => by
    have hl := h l (by simp)
    rw [List.flatten_cons, List.getElem?_append_right (by rw [hl, Nat.add_mul]; omega), hl]
    have e1 : (y + 1) * k + e - k = y * k + e := by
      rw [Nat.add_mul, Nat.one_mul]
      omega
    rw [e1]
    exact flat_get (fun m hm => h m (List.mem_cons_of_mem _ hm)) he
theorem lines_all (k : Nat) : ∀ l ∈ linesTo n first step k, l.length = n := by
  induction k with
  | zero => intro l hl; cases hl
  | succ k ih =>
    intro l hl
    rcases List.mem_append.mp hl with z | z
    · exact ih l z
    · rw [List.mem_singleton.mp z]
      exact L_len n first step k
theorem at_flat {k y e : Nat} (hy : y < k) (he : e < n) : (linesTo n first step k).flatten[y * n + e]? = some (E n first step y e) := by
  rw [flat_get (lines_all n first step k) he, linesTo_get n first step hy]
  exact L_get n first step he
end tab
/-- with the days' numbers -/
abbrev fF1 (f : Field) : Nat → Nat := fun d => (places f d).length
abbrev fE (f : Field) (x d : Nat) : Option Nat := E f.days.length (fF1 f) (carry f) x d
abbrev fLines (f : Field) (k : Nat) : List (List (Option Nat)) := linesTo f.days.length (fF1 f) (carry f) k
theorem push_all {g : Nat → Option Nat} : ∀ (l : List Nat) (t : Array (Option Nat)), (l.foldl (fun u d => u.push (g d)) t).toList = t.toList ++ l.map g
  | [], t => by simp
  | d :: l, t => by
    rw [List.foldl_cons, push_all l]
    simp
theorem entry_eq {f : Field} (hn : f.days.length < 8) {t : Array (Option Nat)} {x d : Nat} (hx : x < 2 ^ f.days.length) (hd : d < f.days.length) (ht : t.toList = (fLines f x).flatten) :
    entry f t x d = fE f x d := by
  unfold entry fE
  rw [E_eq _ _ _ hd]
  cases hb : bit x d with
  | false => rfl
  | true =>
    rw [if_neg (show ¬ (true = false) from Bool.noConfusion), if_neg (show ¬ (true = false) from Bool.noConfusion)]
    have hle := bit_le hb
    have hpos := Nat.two_pow_pos d
    by_cases h0 : x = 2 ^ d
    · rw [if_pos h0, if_pos (show x - 2 ^ d = 0 by omega)]
    · rw [if_neg h0, if_neg (show ¬ x - 2 ^ d = 0 by omega)]
      have h128 := pow_le7 _ hn
      have hlt : x - 2 ^ d < x := by omega
      have key : ∀ e, e < f.days.length → (t.getD ((x - 2 ^ d) * f.days.length + e) none) = E f.days.length (fF1 f) (carry f) (x - 2 ^ d) e := fun e he => by
        have h1 := at_flat f.days.length (fF1 f) (carry f) hlt he
        rw [← ht] at h1
        rw [Array.getD_eq_getD_getElem?, ← Array.getElem?_toList, h1]
        rfl
      have hf : ∀ (es : List Nat) (acc : Option Nat), (∀ e ∈ es, e < f.days.length) →
          es.foldl (fun m e => if e ≠ d ∧ bit x e = true then lesser m ((t.getD ((x - 2 ^ d) * f.days.length + e) none).map fun n => n + carry f e d) else m) acc = es.foldl (fun m e => lesser m ((E f.days.length (fF1 f) (carry f) (x - 2 ^ d) e).map fun n => n + carry f e d)) acc := by
        intro es
        induction es with
        | nil => intro acc _; rfl
        | cons e es ih =>
          intro acc hes
          have he := hes e (by simp)
          rw [List.foldl_cons, List.foldl_cons, ih _ fun z hz => hes z (List.mem_cons_of_mem _ hz)]
          congr 1
          have hs := E_some f.days.length (fF1 f) (carry f) hn (x - 2 ^ d) (by omega) e he
          rw [bit_sub x (by omega) d (by omega) hb e (by omega)] at hs
          by_cases c : e ≠ d ∧ bit x e = true
          · rw [if_pos c, key e he]
          · rw [if_neg c]
            have : E f.days.length (fF1 f) (carry f) (x - 2 ^ d) e = none := by
              rw [← Option.not_isSome_iff_eq_none, hs]
              intro z
              rw [Bool.and_eq_true, decide_eq_true_eq] at z
              exact c z
            rw [this]
            cases acc <;> rfl
      rw [order, hf _ _ (fun e he => List.mem_range.mp he), fold_lesser]
      rfl
theorem table_to {f : Field} (hn : f.days.length < 8) : ∀ k, k ≤ 2 ^ f.days.length → ((List.range k).foldl (fun t x => (order f).foldl (fun u d => u.push (entry f t x d)) t) #[]).toList = (fLines f k).flatten
  | 0, _ => rfl
  | k + 1, hk => by
    have ih := table_to hn k (by omega)
    rw [List.range_succ, List.foldl_append, List.foldl_cons, List.foldl_nil, push_all, ih]
    show _ = (fLines f k ++ [L f.days.length (fF1 f) (carry f) k]).flatten
    rw [List.flatten_append, List.flatten_singleton]
    congr 1
    refine List.ext_getElem? fun i => ?_
    by_cases hi : i < f.days.length
    · rw [L_get _ _ _ hi, order, List.getElem?_map, List.getElem?_range hi]
      exact congrArg some (entry_eq hn (by omega) hi ih)
    · rw [List.getElem?_eq_none (by rw [List.length_map, order, List.length_range]; omega), List.getElem?_eq_none (by rw [L_len]; omega)]
theorem table_eq {f : Field} (hn : f.days.length < 8) : (table f).toList = (fLines f (2 ^ f.days.length)).flatten := table_to hn _ (Nat.le_refl _)
theorem atTable_eq {f : Field} (hn : f.days.length < 8) {x d : Nat} (hx : x < 2 ^ f.days.length) (hd : d < f.days.length) : atTable f (table f) x d = fE f x d := by
  unfold atTable
  have h1 := at_flat f.days.length (fF1 f) (carry f) hx hd
  have h2 := table_eq hn
  unfold fLines at h2
  rw [← h2] at h1
  rw [Array.getD_eq_getD_getElem?, ← Array.getElem?_toList, h1]
  rfl
theorem foldl_congr {α β : Type} {g h : β → α → β} : ∀ (l : List α) (b : β), (∀ m, ∀ x ∈ l, g m x = h m x) → l.foldl g b = l.foldl h b
  | [], _, _ => rfl
  | x :: l, b, e => by
    rw [List.foldl_cons, List.foldl_cons, e b x (by simp)]
    exact foldl_congr l _ fun m y hy => e m y (List.mem_cons_of_mem _ hy)
theorem fewest_eq {f : Field} (hn : f.days.length < 8) : fewest f = ((List.range f.days.length).filterMap fun d => fE f (2 ^ f.days.length - 1) d).min?.getD 0 := by
  unfold fewest
  have hp := Nat.two_pow_pos f.days.length
  have e : (order f).foldl (fun m d => lesser m (atTable f (table f) (all f) d)) none = (order f).foldl (fun m d => lesser m (fE f (2 ^ f.days.length - 1) d)) none :=
    foldl_congr _ _ fun m d hd => by rw [all, atTable_eq hn (by omega) (List.mem_range.mp hd)]
  rw [e, fold_lesser]
  rfl
theorem size_eq {f : Field} (hn : f.days.length < 8) : (table f).size = (fLines f (2 ^ f.days.length)).flatten.length := by
  rw [← table_eq hn]
  rfl
/-! ## the best order -/
/-- d is the day of x that is taken: the least sum with what is carried onward, then the least day -/
def IsPick (f : Field) (x : Nat) (on : Nat → Nat) (d : Nat) : Prop := d < f.days.length ∧ ∃ v, fE f x d = some v ∧ ∀ e, e < f.days.length → ∀ u, fE f x e = some u → v + on d < u + on e ∨ (v + on d = u + on e ∧ d ≤ e)
inductive Run (f : Field) : Nat → (Nat → Nat) → List Nat → Prop
  | stop {on : Nat → Nat} : Run f 0 on []
  | go {x d : Nat} {on : Nat → Nat} {B : List Nat} : IsPick f x on d → Run f (x - 2 ^ d) (fun e => carry f e d) B → Run f x on (d :: B)
theorem back_run {f : Field} (hn : f.days.length < 8) : ∀ (k x d : Nat) (B : List Nat), x < 2 ^ f.days.length → d < f.days.length → bit x d = true → pop x ≤ k → Run f (x - 2 ^ d) (fun e => carry f e d) B → backFrom f (table f) k x d = d :: B
  | 0, x, d, B, hx, hd, hb, hp, hr => by
    have h128 := pow_le7 _ hn
    have := pop_sub x (by omega) d (by omega) hb
    omega
  | k + 1, x, d, B, hx, hd, hb, hp, hr => by
    have h128 := pow_le7 _ hn
    have hpop := pop_sub x (by omega) d (by omega) hb
    have hle := bit_le hb
    have hpos := Nat.two_pow_pos d
    unfold backFrom
    by_cases h0 : x = 2 ^ d
    · rw [if_pos h0]
      have : x - 2 ^ d = 0 := by omega
      rw [this] at hr
      cases hr with
      | stop => rfl
      | go hpk _ =>
        obtain ⟨he, v, hv, _⟩ := hpk
        have := E_some f.days.length (fF1 f) (carry f) hn 0 (Nat.two_pow_pos _) _ he
        have hv' : E f.days.length (fF1 f) (carry f) 0 _ = some v := hv
        rw [hv'] at this
        have hz : ∀ e, bit 0 e = false := fun e => by unfold bit; simp
        rw [hz] at this
        cases this
    · rw [if_neg h0]
      have hx' : x - 2 ^ d < 2 ^ f.days.length := by omega
      generalize hon : (fun e => carry f e d) = on at hr
      generalize hy : x - 2 ^ d = y at *
      cases hr with
      | stop => omega
      | @go _ e _ B' hpk hr' =>
        obtain ⟨he, v, hv, hmin⟩ := hpk
        subst hon
        -- the least sum is the table's own
        have hE : fE f x d = some (v + carry f e d) := by
          unfold fE
          rw [E_eq _ _ _ hd, hb, if_neg (by simp), hy, if_neg (by omega), List.min?_eq_some_iff]
          refine ⟨List.mem_filterMap.mpr ⟨e, List.mem_range.mpr he, by have hv' : E f.days.length (fF1 f) (carry f) y e = some v := hv; rw [hv']; rfl⟩, fun b hbm => ?_⟩
          obtain ⟨e', he', hb'⟩ := List.mem_filterMap.mp hbm
          cases hu : E f.days.length (fF1 f) (carry f) y e' with
          | none => rw [hu] at hb'; cases hb'
          | some u =>
            rw [hu] at hb'
            have hb2 : u + carry f e' d = b := Option.some.inj hb'
            rcases hmin e' (List.mem_range.mp he') u hu with z | z
            · have z' : v + carry f e d < u + carry f e' d := z
              omega
            · have z' : v + carry f e d = u + carry f e' d := z.1
              omega
        have hfind : ((order f).find? fun e => e != d && (bit x e && ((atTable f (table f) y e).map fun n => n + carry f e d) == atTable f (table f) x d && (atTable f (table f) y e).isSome)) = some e := by
          unfold order
          rw [List.find?_range_eq_some]
          have hbit := bit_sub x (by omega) d (by omega) hb
          rw [hy] at hbit
          have hsome : ∀ e, e < f.days.length → (fE f y e).isSome = bit y e := E_some f.days.length (fF1 f) (carry f) hn y (by omega)
          refine ⟨?_, List.mem_range.mpr he, fun j hj => ?_⟩
          · rw [atTable_eq hn (by omega) he, atTable_eq hn hx hd, hE, hv]
            have h1 := hsome e he
            rw [hv, hbit e (by omega)] at h1
            have h2 : (decide (e ≠ d) && bit x e) = true := h1.symm
            rw [Bool.and_eq_true, decide_eq_true_eq] at h2
            simp [h2.1, h2.2]
          · have hjn : j < f.days.length := by omega
            rw [atTable_eq hn (by omega) hjn, atTable_eq hn hx hd, hE]
            cases hu : fE f y j with
            | none => simp
            | some u =>
              rcases hmin j hjn u hu with z | z
              · have : ¬ (u + carry f j d = v + carry f e d) := by
                  have z' : v + carry f e d < u + carry f j d := z
                  omega
                simp [this]
              · omega
        rw [hfind]
        have hbe : bit y e = true := by
          have h1 := E_some f.days.length (fF1 f) (carry f) hn y (by omega) e he
          have hv' : E f.days.length (fF1 f) (carry f) y e = some v := hv
          rw [hv'] at h1
          exact h1.symm
        have := back_run hn k y e B' hx' he hbe (by omega) hr'
        rw [← hy] at this ⊢
        exact congrArg (d :: ·) this
theorem best_run {f : Field} (hn : f.days.length < 8) {B : List Nat} (h : Run f (2 ^ f.days.length - 1) (fun _ => 0) B) : bestOrder f = B.reverse := by
  unfold bestOrder
  have hp := Nat.two_pow_pos f.days.length
  generalize hx : 2 ^ f.days.length - 1 = x at h
  generalize hon : (fun _ : Nat => 0) = on at h
  cases h with
  | stop =>
    have h0 : f.days.length = 0 := by
      cases hd : f.days.length with
      | zero => rfl
      | succ m =>
        rw [hd, Nat.pow_succ] at hx
        have := Nat.two_pow_pos m
        omega
    have : order f = [] := by
      unfold order
      rw [h0]
      rfl
    rw [this]
    rfl
  | @go _ d _ B' hpk hr =>
    subst hon
    obtain ⟨hd, v, hv, hmin⟩ := hpk
    have hfew : fewest f = v := by
      rw [fewest_eq hn, hx]
      have : ((List.range f.days.length).filterMap fun d => fE f x d).min? = some v := by
        rw [List.min?_eq_some_iff]
        refine ⟨List.mem_filterMap.mpr ⟨d, List.mem_range.mpr hd, hv⟩, fun b hb => ?_⟩
        obtain ⟨e, he, hb'⟩ := List.mem_filterMap.mp hb
        rcases hmin e (List.mem_range.mp he) b hb' with z | z
        · have z' : v + 0 < b + 0 := z
          omega
        · have z' : v + 0 = b + 0 := z.1
          omega
      rw [this]
      rfl
    have hfind : ((order f).find? fun d => atTable f (table f) (all f) d == some (fewest f)) = some d := by
      unfold order
      rw [List.find?_range_eq_some]
      refine ⟨?_, List.mem_range.mpr hd, fun j hj => ?_⟩
      · rw [all, atTable_eq hn (by omega) hd, hfew, hx, hv]
        simp
      · have hjn : j < f.days.length := by omega
        rw [all, atTable_eq hn (by omega) hjn, hfew, hx]
        cases hu : fE f x j with
        | none => simp
        | some u =>
          rcases hmin j hjn u hu with z | z
          · have z' : v + 0 < u + 0 := z
            have : ¬ u = v := by omega
            simp [this]
          · omega
    dsimp only
    rw [hfind]
    have hb : bit x d = true := by
      have h1 := E_some f.days.length (fF1 f) (carry f) hn x (by omega) d hd
      have hv' : E f.days.length (fF1 f) (carry f) x d = some v := hv
      rw [hv'] at h1
      exact h1.symm
    have := back_run hn f.days.length x d B' (by omega) hd hb (by rw [← hx, pop_all _ hn]; exact Nat.le_refl _) hr
    dsimp only
    rw [all, hx, this]
end HFM
namespace HFM
open Vbsyae
/-! ## the calls out of one list -/
def nums (n : Nat) (c : Call) (l : List Int) : Option Call := some c
/-- the call of each number, from what is given -/
def cTab : List (List Int → Option Call) :=
  [fun _ => some .clear, fun l => some (.field l), fun l => some (.look l), fun _ => some .text, fun l => some (.day l),
   (fun | [n] => some (.undo n) | _ => none), fun _ => some .told, fun l => some (.cost l), fun l => some (.sides l),
   (fun | [a, b] => some (.rect a b) | _ => none), (fun | [h] => some (.best h) | _ => none), (fun | [n] => some (.least n) | _ => none),
   fun _ => some .curve, fun l => some (.rounded l), fun _ => some .plan, fun _ => some .covered, fun l => some (.order l),
   fun _ => some .fewest, fun _ => some .bestOrder, fun _ => some .labels, (fun | [a, b] => some (.between a b) | _ => none)]
def isL (i : Nat) : Bool := [1, 2, 4, 7, 8, 13, 16].contains i
def wnum (i : Nat) : Nat := [0, 0, 0, 0, 0, 1, 0, 0, 0, 2, 1, 1, 0, 0, 0, 0, 0, 0, 0, 0, 2].getD i 0
theorem shape_none {p : Int} (h : ¬ (0 ≤ p ∧ p ≤ 20)) : PyVbsyae.shape p = none := by
  unfold PyVbsyae.shape
  repeat rw [if_neg (by omega)]
theorem shape_at : ∀ i : Nat, i < 21 → PyVbsyae.shape (i : Int) = some (if isL i = true then (0, 1) else (wnum i, 0)) := by decide +kernel
theorem call_nums {p : Int} {r t : List Int} {n : Nat} {c : List (List Int)} (hs : PyVbsyae.shape p = some (n, 0)) (h : PyFlat.call PyVbsyae.shape (p :: r) = some (c, t)) : n ≤ r.length ∧ c = [p :: r.take n] ∧ t = r.drop n := by
  unfold PyFlat.call at h
  dsimp only at h
  rw [hs] at h
  dsimp only at h
  split at h
  · cases h
  · rename_i hlt
    unfold PyFlat.rows at h
    dsimp only at h
    cases h
    exact ⟨by omega, rfl, rfl⟩
theorem call_list {p : Int} {r t : List Int} {c : List (List Int)} (hs : PyVbsyae.shape p = some (0, 1)) (h : PyFlat.call PyVbsyae.shape (p :: r) = some (c, t)) :
    ∃ q r', r = q :: r' ∧ 0 ≤ q ∧ q.toNat ≤ r'.length ∧ c = [[p], r'.take q.toNat] ∧ t = r'.drop q.toNat := by
  unfold PyFlat.call at h
  dsimp only at h
  rw [hs] at h
  dsimp only at h
  rw [if_neg (by omega), List.drop_zero] at h
  cases r with
  | nil =>
    unfold PyFlat.rows PyFlat.row at h
    cases h
  | cons q r' =>
    unfold PyFlat.rows PyFlat.row at h
    dsimp only at h
    split at h
    · cases h
    · rename_i xs tt hh
      split at hh
      · cases hh
      · rename_i xs2 s2 h2
        split at h2
        · rename_i hq
          cases h2
          unfold PyFlat.rows at hh
          dsimp only at hh
          cases hh
          cases h
          exact ⟨q, r', rfl, hq.1, hq.2, rfl, rfl⟩
        · cases h2
/-- the numbers' calls -/
theorem dec_nums : ∀ (i : Nat), i < 21 → isL i = false → ∀ g : List Int, g.length = wnum i → ∃ call cc, cTab[i]? = some cc ∧ cc g = some call ∧ decode (PyVbsyae.whole [(i : Int) :: g]) = some call := by
  intro i hi hL g hg
  match i, hi, hL, g, hg with
  | 0, _, _, [], _ => exact ⟨_, _, rfl, rfl, rfl⟩
  | 3, _, _, [], _ => exact ⟨_, _, rfl, rfl, rfl⟩
  | 5, _, _, [x], _ => exact ⟨_, _, rfl, rfl, rfl⟩
  | 6, _, _, [], _ => exact ⟨_, _, rfl, rfl, rfl⟩
  | 9, _, _, [x, y], _ => exact ⟨_, _, rfl, rfl, rfl⟩
  | 10, _, _, [x], _ => exact ⟨_, _, rfl, rfl, rfl⟩
  | 11, _, _, [x], _ => exact ⟨_, _, rfl, rfl, rfl⟩
  | 12, _, _, [], _ => exact ⟨_, _, rfl, rfl, rfl⟩
  | 14, _, _, [], _ => exact ⟨_, _, rfl, rfl, rfl⟩
  | 15, _, _, [], _ => exact ⟨_, _, rfl, rfl, rfl⟩
  | 17, _, _, [], _ => exact ⟨_, _, rfl, rfl, rfl⟩
  | 18, _, _, [], _ => exact ⟨_, _, rfl, rfl, rfl⟩
  | 19, _, _, [], _ => exact ⟨_, _, rfl, rfl, rfl⟩
  | 20, _, _, [x, y], _ => exact ⟨_, _, rfl, rfl, rfl⟩
  | n + 21, h, _, _, _ => exact absurd h (by omega)
theorem dec_list : ∀ (i : Nat), i < 21 → isL i = true → ∀ g : List Int, ∃ call cc, cTab[i]? = some cc ∧ cc g = some call ∧ decode (PyVbsyae.whole [[(i : Int)], g]) = some call := by
  intro i hi hL g
  match i, hi, hL with
  | 1, _, _ => exact ⟨_, _, rfl, rfl, rfl⟩
  | 2, _, _ => exact ⟨_, _, rfl, rfl, rfl⟩
  | 4, _, _ => exact ⟨_, _, rfl, rfl, rfl⟩
  | 7, _, _ => exact ⟨_, _, rfl, rfl, rfl⟩
  | 8, _, _ => exact ⟨_, _, rfl, rfl, rfl⟩
  | 13, _, _ => exact ⟨_, _, rfl, rfl, rfl⟩
  | 16, _, _ => exact ⟨_, _, rfl, rfl, rfl⟩
theorem bound_list : ∀ (i : Nat), i < 21 → isL i = true → ∀ g : List Int, PyInside.call PyVbsyae.bound [[(i : Int)], g] = true → g.length ≤ 2000 := by
  intro i hi hL g h
  have key : ∀ b : Int × Int, (decide (0 ≤ g.length) && decide (g.length ≤ 2000) && g.all (PyInside.within b.1 b.2) && true) = true → g.length ≤ 2000 := fun b hh => by
    simp only [Bool.and_eq_true, decide_eq_true_eq] at hh
    exact hh.1.1.2
  match i, hi, hL with
  | 1, _, _ => exact key (-9223372036854775808, 9223372036854775807) h
  | 2, _, _ => exact key (-9223372036854775808, 9223372036854775807) h
  | 4, _, _ => exact key (-9223372036854775808, 9223372036854775807) h
  | 7, _, _ => exact key (-9223372036854775808, 9223372036854775807) h
  | 8, _, _ => exact key (-9223372036854775808, 9223372036854775807) h
  | 13, _, _ => exact key (-9223372036854775808, 9223372036854775807) h
  | 16, _, _ => exact key (-9223372036854775808, 9223372036854775807) h
theorem wnum_le : ∀ i, i < 21 → wnum i ≤ 2 := by decide +kernel
/-- one call of a list that may be handed in -/
theorem one_call {k : Nat} {p : Int} {r : List Int} {cs : List (List (List Int))} (h : PyFlat.calls PyVbsyae.shape k (p :: r) = some cs) (hb : PyInside.calls PyVbsyae.bound cs = true) :
    ∃ (i : Nat) (g : List Int) (k' : Nat) (c : List (List Int)) (cs' : List (List (List Int))) (call : Call) (cc : List Int → Option Call),
      p = (i : Int) ∧ i < 21 ∧ cTab[i]? = some cc ∧ cc g = some call ∧ decode (PyVbsyae.whole c) = some call ∧ cs = c :: cs' ∧ g.length ≤ 2000 ∧ PyInside.calls PyVbsyae.bound cs' = true ∧
      (isL i = true → ∃ q r', r = q :: r' ∧ 0 ≤ q ∧ q.toNat ≤ r'.length ∧ g = r'.take q.toNat ∧ PyFlat.calls PyVbsyae.shape k' (r'.drop q.toNat) = some cs') ∧
      (isL i = false → wnum i ≤ r.length ∧ g = r.take (wnum i) ∧ PyFlat.calls PyVbsyae.shape k' (r.drop (wnum i)) = some cs') := by
  cases k with
  | zero => unfold PyFlat.calls at h; cases h
  | succ k' =>
    unfold PyFlat.calls at h
    split at h
    · cases h
    · rename_i c t hc
      split at h
      · cases h
      · rename_i cs' hcs
        cases h
        by_cases hp : 0 ≤ p ∧ p ≤ 20
        · obtain ⟨i, rfl⟩ : ∃ i : Nat, p = (i : Int) := ⟨p.toNat, by omega⟩
          have hi : i < 21 := by omega
          have hsh := shape_at i hi
          have hb2 : (PyInside.call PyVbsyae.bound c && PyInside.calls PyVbsyae.bound cs') = true := by
            unfold PyInside.calls at hb ⊢
            rw [List.all_cons] at hb
            exact hb
          rw [Bool.and_eq_true] at hb2
          cases hL : isL i with
          | true =>
            rw [hL, if_pos rfl] at hsh
            obtain ⟨q, r', rfl, h1, h2, rfl, rfl⟩ := call_list hsh hc
            obtain ⟨call, cc, e1, e2, e3⟩ := dec_list i hi hL (r'.take q.toNat)
            exact ⟨i, _, k', _, cs', call, cc, rfl, hi, e1, e2, e3, rfl, bound_list i hi hL _ hb2.1, hb2.2, fun _ => ⟨q, r', rfl, h1, h2, rfl, hcs⟩, fun z => Bool.noConfusion (hL ▸ z)⟩
          | false =>
            rw [hL, if_neg (by simp)] at hsh
            obtain ⟨h1, rfl, rfl⟩ := call_nums hsh hc
            obtain ⟨call, cc, e1, e2, e3⟩ := dec_nums i hi hL (r.take (wnum i)) (by rw [List.length_take]; omega)
            refine ⟨i, _, k', _, cs', call, cc, rfl, hi, e1, e2, e3, rfl, ?_, hb2.2, fun z => Bool.noConfusion (hL ▸ z), fun _ => ⟨h1, rfl, hcs⟩⟩
            have := wnum_le i hi
            rw [List.length_take]
            omega
        · have hsh := shape_none hp
          unfold PyFlat.call at hc
          dsimp only at hc
          rw [hsh] at hc
          cases hc
/-- what a call answers, refusals too -/
def stepC (f : Field) (c : Call) : Field × List Int := match run f c with
  | .ok r => r
  | .error e => (f, [e])
theorem step_is {f : Field} {c : List (List Int)} {call : Call} (h : decode (PyVbsyae.whole c) = some call) : VbsyaeNeutral.step f (PyVbsyae.whole c) = stepC f call := by
  unfold VbsyaeNeutral.step Vbsyae.step stepC
  rw [h]
  rfl
theorem told_cons (a : List Int) (l : List (List Int)) : PyFlat.told (a :: l) = ((a.length : Int) :: a) ++ PyFlat.told l := by
  unfold PyFlat.told
  rw [List.flatMap_cons]
/-- the rest of the answers -/
def rest (f : Field) (cs : List (List (List Int))) : List Int := PyFlat.told (PyFlat.played VbsyaeNeutral.step f (cs.map PyVbsyae.whole))
theorem rest_nil (f : Field) : rest f [] = [] := rfl
theorem rest_cons {f : Field} {c : List (List Int)} {cs : List (List (List Int))} {call : Call} (h : decode (PyVbsyae.whole c) = some call) : rest f (c :: cs) = (((stepC f call).2.length : Int) :: (stepC f call).2) ++ rest (stepC f call).1 cs := by
  have e : PyFlat.played VbsyaeNeutral.step f ((c :: cs).map PyVbsyae.whole) = (VbsyaeNeutral.step f (PyVbsyae.whole c)).2 :: PyFlat.played VbsyaeNeutral.step (VbsyaeNeutral.step f (PyVbsyae.whole c)).1 (cs.map PyVbsyae.whole) := rfl
  unfold rest
  rw [e, step_is h, told_cons]
theorem asked_is {l : List Int} (h : PyVbsyae.answers_asked l = true) : ∃ cs, PyFlat.calls PyVbsyae.shape l.length l = some cs ∧ PyInside.calls PyVbsyae.bound cs = true ∧ PyVbsyae.answers l = rest Vbsyae.start cs ∧ (PyVbsyae.answers l).length ≤ 10000000 := by
  unfold PyVbsyae.answers_asked at h
  split at h
  · cases h
  · rename_i raw hraw
    simp only [Bool.and_eq_true] at h
    refine ⟨raw, hraw, h.1.1.2, ?_, ?_⟩
    · unfold PyVbsyae.answers PyVbsyae.calls
      rw [hraw]
      rfl
    · have := h.2
      unfold PyFlat.short at this
      exact of_decide_eq_true this
end HFM
namespace HF
open PySem PySem.Spec PyProof.Rows L2
/-- where the classes and the tables of the top stand -/
structure Ad where
  cField : Addr
  cReader : Addr
  cRefusal : Addr
  cNotBytes : Addr
  cOutOfRange : Addr
  cWrongList : Addr
  cNotThere : Addr
  cTooManyDays : Addr
  cTextFault : Addr
  cTable : Addr
  aSides : Addr
  aLists : Addr
  aWhole : Addr
  aAns : Addr
/-- what the top has written -/
structure Txt (K : PySem.W.Frag) (mg : Str → Option Value) (A : Ad) : Prop where
  clField : Cls K A.cField
  nRows : NoAttr K A.cField "rows"
  nColumns : NoAttr K A.cField "columns"
  nWalls : NoAttr K A.cField "walls"
  nDays : NoAttr K A.cField "days"
  clReader : Cls K A.cReader
  nLength : NoAttr K A.cReader "length"
  nWords : NoAttr K A.cReader "words"
  nReached : NoAttr K A.cReader "reached"
  clTable : Cls K A.cTable
  nFirst : NoAttr K A.cTable "first"
  nSteps : NoAttr K A.cTable "steps"
  nBits : NoAttr K A.cTable "bits"
  nSets : NoAttr K A.cTable "sets"
  nLines : NoAttr K A.cTable "lines"
  ABOVE : ∃ t, mg "ABOVE" = some (.int 0 t)
  RIGHT : ∃ t, mg "RIGHT" = some (.int 1 t)
  BELOW : ∃ t, mg "BELOW" = some (.int 2 t)
  LEFT : ∃ t, mg "LEFT" = some (.int 3 t)
  SIDE_WORDS : mg "SIDE_WORDS" = some (.ref A.aSides)
  sides : ∀ H, SqT K H A.aSides [.str "above", .str "right", .str "below", .str "left"]
  MOST_LINES : ∃ t, mg "MOST_LINES" = some (.int 8 t)
  MOST_DAYS : ∃ t, mg "MOST_DAYS" = some (.int 20 t)
  BLANK : ∃ t, mg "BLANK" = some (.int 32 t)
  LINE_END : ∃ t, mg "LINE_END" = some (.int 10 t)
  DIGIT_ZERO : ∃ t, mg "DIGIT_ZERO" = some (.int 48 t)
  MOST_HURDLES : ∃ t, mg "MOST_HURDLES" = some (.int 100 t)
  MOST_CELLS : ∃ t, mg "MOST_CELLS" = some (.int 64 t)
  MOST_DAYS_IN_TABLE : ∃ t, mg "MOST_DAYS_IN_TABLE" = some (.int 7 t)
  errs : ∀ C, C ∈ [A.cNotBytes, A.cOutOfRange, A.cWrongList, A.cNotThere, A.cTooManyDays, A.cTextFault] → XC K C ∧ XfC K C ∧ PySem.W.findIn K (.ref C) "answer" = some none ∧ PySem.W.findIn K (.ref C) "place" = some none ∧ PySem.W.exmOne K (.ref C) (.ref A.cRefusal) = some true
  tf : PySem.W.exmOne K (.ref A.cTextFault) (.ref A.cTextFault) = some true
  gRefusal : mg "Refusal" = some (.ref A.cRefusal)
  gTextFault : mg "TextFault" = some (.ref A.cTextFault)
  len : mg "len" = none
  range : mg "range" = none
  list : mg "list" = none
  ord : mg "ord" = none
  enumerate : mg "enumerate" = none
  min : mg "min" = none
  max : mg "max" = none
  sum : mg "sum" = none
  sorted : mg "sorted" = none
  reversed : mg "reversed" = none
/-! ### readings in short -/
theorem cxK {CX : CXT} {P : Program} {w : World} {K : PySem.W.Frag} {mg : Str → Option Value} {base : Heap} {N : List Str} {qual : Str} {scope : Scope} {f : Addr} {cd : Value} {A : Around} {outer : List Env} {s : Shared} {H : Hp} {E : XK} :
    (cxOf CX P w K mg base N qual scope f cd A outer s H E).K = K := rfl
theorem cxK2 {X : Cx} : X.nox.K = X.K := rfl
theorem scal_ii {i j : Int} : scal (.int i) (.int j) = true := rfl
theorem scal_bb {i j : Bool} : scal (.bl i) (.bl j) = true := rfl
theorem scal_ss {i j : Str} : scal (.str i) (.str j) = true := rfl
theorem scal_sn {i : Str} : scal (.str i) .non = true := rfl
theorem scal_ns {i : Str} : scal .non (.str i) = true := rfl
theorem scal_in {i : Int} : scal (.int i) .non = true := rfl
theorem scal_ni {i : Int} : scal .non (.int i) = true := rfl
theorem st_ixL {K : PySem.W.Frag} {H : Hp} {Q : VK} {p : Addr} {xs : List V} {i : Int} {v : V} (h : H p = some (.lst xs)) (e : atI xs i = some v) (q : Q v H) : rIxL K (.ref p) (.int i) H Q := ⟨p, xs, i, v, rfl, rfl, SqL.of h, e, q⟩
theorem st_ixS {K : PySem.W.Frag} {H : Hp} {Q : VK} {p : Addr} {xs : List V} {i : Int} {v : V} (h : SqL K H p xs) (e : atI xs i = some v) (q : Q v H) : rIxL K (.ref p) (.int i) H Q := ⟨p, xs, i, v, rfl, rfl, h, e, q⟩
theorem st_ixT {K : PySem.W.Frag} {H : Hp} {Q : VK} {p : Addr} {xs : List V} {i : Int} {v : V} (h : H p = some (.tup xs)) (e : atI xs i = some v) (q : Q v H) : rIxT K (.ref p) (.int i) H Q := ⟨p, xs, i, v, rfl, rfl, Or.inl (Or.inl h), e, q⟩
/-! ### loops: Pv is what holds ahead of the i-th turn -/
section
variable {K : PySem.W.Frag} {tl : TE} {ta : TA} {g : TG} {tb : TS} {D : Ends} {σ : L2.St} {H : Hp} {a : Addr} {xs : List V}
theorem q_forL (Pv : Nat → L2.St → Hp → Prop) (ht : ∀ R : VK, R (.ref a) H → tl σ H R) (h0 : Pv 0 σ H) (hl : ∀ i σ H, i ≤ xs.length → Pv i σ H → SqL K H a xs)
    (hs : ∀ i x σ H, xs[i]? = some x → Pv i σ H → g x σ H fun σ2 H2 => tb { D with nx := Pv (i + 1), ct := Pv (i + 1), bk := D.nx } σ2 H2) (hd : ∀ σ H, Pv xs.length σ H → D.nx σ H) : tFor (iList K tl) g tb D σ H :=
  ht _ ⟨a, rfl, ⟨xs, hl 0 σ H (Nat.zero_le _) h0⟩, for_list Pv h0 hl hs hd⟩
theorem q_forT (Pv : Nat → L2.St → Hp → Prop) (ht : ∀ R : VK, R (.ref a) H → tl σ H R) (h0 : Pv 0 σ H) (hl : ∀ i σ H, i ≤ xs.length → Pv i σ H → SqT K H a xs)
    (hs : ∀ i x σ H, xs[i]? = some x → Pv i σ H → g x σ H fun σ2 H2 => tb { D with nx := Pv (i + 1), ct := Pv (i + 1), bk := D.nx } σ2 H2) (hd : ∀ σ H, Pv xs.length σ H → D.nx σ H) : tFor (iTup K tl) g tb D σ H :=
  ht _ ⟨a, rfl, ⟨xs, hl 0 σ H (Nat.zero_le _) h0⟩, for_tup Pv h0 hl hs hd⟩
theorem q_forR (n : Nat) (hn : n ≤ 1000000) (Pv : Nat → L2.St → Hp → Prop) (ht : ∀ R : List V → Hp → Prop, R [.int n] H → ta σ H R) (h0 : Pv 0 σ H)
    (hs : ∀ i σ H, i < n → Pv i σ H → g (.int (i : Int)) σ H fun σ2 H2 => tb { D with nx := Pv (i + 1), ct := Pv (i + 1), bk := D.nx } σ2 H2) (hd : ∀ σ H, Pv n σ H → D.nx σ H) : tFor (iRng1 ta) g tb D σ H := by
  refine ht _ ⟨n, rfl, by omega, by omega, ?_⟩
  rw [Int.toNat_natCast]
  refine for_range (lo := 0) (n := n) Pv h0 (fun i σ H hi p => ?_) hd
  rw [Int.zero_add]
  exact hs i σ H hi p
theorem q_forR2 (lo hi : Nat) (hn : hi ≤ 1000000) (hlo : lo ≤ 1000000) (Pv : Nat → L2.St → Hp → Prop) (ht : ∀ R : List V → Hp → Prop, R [.int lo, .int hi] H → ta σ H R) (h0 : Pv 0 σ H)
    (hs : ∀ i σ H, lo + i < hi → Pv i σ H → g (.int ((lo + i : Nat) : Int)) σ H fun σ2 H2 => tb { D with nx := Pv (i + 1), ct := Pv (i + 1), bk := D.nx } σ2 H2) (hd : ∀ σ H, Pv (hi - lo) σ H → D.nx σ H) : tFor (iRng2 ta) g tb D σ H := by
  refine ht _ ⟨lo, hi, rfl, ⟨by omega, by omega, by omega, by omega⟩, ?_⟩
  have e : ((hi : Int) - (lo : Int)).toNat = hi - lo := by omega
  rw [e]
  refine for_range (lo := (lo : Int)) (n := hi - lo) Pv h0 (fun i σ H hi p => ?_) hd
  have e2 : ((lo : Int) + (i : Int)) = ((lo + i : Nat) : Int) := by omega
  rw [e2]
  exact hs i σ H (by omega) p
theorem q_forE (Pv : Nat → L2.St → Hp → Prop) (ht : ∀ R : List V → Hp → Prop, R [.ref a] H → ta σ H R) (h0 : Pv 0 σ H) (hl : ∀ i σ H, i ≤ xs.length → Pv i σ H → SqL K H a xs)
    (hs : ∀ i x T σ H, xs[i]? = some x → H T = none → Pv i σ H → g (.ref T) σ (upd H T (.tup [.int (i : Nat), x])) fun σ2 H2 => tb { D with nx := Pv (i + 1), ct := Pv (i + 1), bk := D.nx } σ2 H2) (hd : ∀ σ H, Pv xs.length σ H → D.nx σ H) :
    tFor (iEnum K ta) g tb D σ H := by
  refine ht _ ⟨a, xs, rfl, hl 0 σ H (Nat.zero_le _) h0, for_it walk_enum Pv h0 hl (fun i v σ H H' hi p y => ?_) hd⟩
  obtain ⟨T, x, y, rfl, nT, rfl, e1, e2⟩ := y
  cases e1
  exact hs i y T σ H e2 nT p
end
/-! ### the field in the heap -/
def wv (b : Bool) : V := .int (if b = true then 1 else 0)
def dayV (x : Vbsyae.Fold) : List V := [.int x.row, .int x.col, .int x.high, .int x.wide]
def fF (f : Vbsyae.Field) (w d : Addr) : List (Str × V) := [("rows", .int f.rows), ("columns", .int f.cols), ("walls", .ref w), ("days", .ref d)]
theorem fF_rows (f : Vbsyae.Field) (w d : Addr) : (fF f w d).lookup ("rows" : Str) = some (.int f.rows) := by
  unfold fF
  simp [List.lookup]
theorem fF_cols (f : Vbsyae.Field) (w d : Addr) : (fF f w d).lookup ("columns" : Str) = some (.int f.cols) := by
  have e1 : (("columns" : Str) == "rows") = false := by decide +kernel
  unfold fF
  simp [List.lookup, e1]
theorem fF_walls (f : Vbsyae.Field) (w d : Addr) : (fF f w d).lookup ("walls" : Str) = some (.ref w) := by
  have e1 : (("walls" : Str) == "rows") = false := by decide +kernel
  have e2 : (("walls" : Str) == "columns") = false := by decide +kernel
  unfold fF
  simp [List.lookup, e1, e2]
theorem fF_days (f : Vbsyae.Field) (w d : Addr) : (fF f w d).lookup ("days" : Str) = some (.ref d) := by
  have e1 : (("days" : Str) == "rows") = false := by decide +kernel
  have e2 : (("days" : Str) == "columns") = false := by decide +kernel
  have e3 : (("days" : Str) == "walls") = false := by decide +kernel
  unfold fF
  simp [List.lookup, e1, e2, e3]
theorem fF_become (f : Vbsyae.Field) (w d : Addr) : (fF f w d).lookup ("become" : Str) = none := by
  have e1 : (("become" : Str) == "rows") = false := by decide +kernel
  have e2 : (("become" : Str) == "columns") = false := by decide +kernel
  have e3 : (("become" : Str) == "walls") = false := by decide +kernel
  have e4 : (("become" : Str) == "days") = false := by decide +kernel
  unfold fF
  simp [List.lookup, e1, e2, e3, e4]
/-- the tuples of the days -/
def DaysAt (H : Hp) : List V → List Vbsyae.Fold → Prop
  | [], [] => True
  | v :: vs, x :: xs => (∃ t, v = .ref t ∧ H t = some (.tup (dayV x))) ∧ DaysAt H vs xs
  | _, _ => False
theorem DaysAt.len {H : Hp} : ∀ {vs : List V} {xs : List Vbsyae.Fold}, DaysAt H vs xs → vs.length = xs.length
  | [], [], _ => rfl
  | v :: vs, x :: xs, h => congrArg (· + 1) (DaysAt.len h.2)
  | [], _ :: _, h => h.elim
  | _ :: _, [], h => h.elim
theorem DaysAt.imp {H H' : Hp} (k : ∀ t xs, H t = some (.tup xs) → H' t = some (.tup xs)) : ∀ {vs : List V} {xs : List Vbsyae.Fold}, DaysAt H vs xs → DaysAt H' vs xs
  | [], [], _ => trivial
  | v :: vs, x :: xs, h => ⟨let ⟨t, e, q⟩ := h.1; ⟨t, e, k _ _ q⟩, DaysAt.imp k h.2⟩
  | [], _ :: _, h => h.elim
  | _ :: _, [], h => h.elim
theorem DaysAt.get {H : Hp} : ∀ {vs : List V} {xs : List Vbsyae.Fold} {i : Nat} {x : Vbsyae.Fold}, DaysAt H vs xs → xs[i]? = some x → ∃ t, vs[i]? = some (.ref t) ∧ H t = some (.tup (dayV x))
  | [], [], i, x, _, e => by simp at e
  | v :: vs, y :: xs, 0, x, h, e => by
    obtain ⟨⟨t, rfl, q⟩, _⟩ := h
    cases e
    exact ⟨t, rfl, q⟩
  | v :: vs, y :: xs, i + 1, x, h, e => DaysAt.get (i := i) h.2 (by simpa using e)
  | [], _ :: _, _, _, h, _ => h.elim
  | _ :: _, [], _, _, h, _ => h.elim
theorem DaysAt.snoc {H : Hp} {t : Addr} {x : Vbsyae.Fold} (ht : H t = some (.tup (dayV x))) : ∀ {vs : List V} {xs : List Vbsyae.Fold}, DaysAt H vs xs → DaysAt H (vs ++ [.ref t]) (xs ++ [x])
  | [], [], _ => ⟨⟨t, rfl, ht⟩, trivial⟩
  | v :: vs, y :: xs, h => ⟨h.1, DaysAt.snoc ht h.2⟩
  | [], _ :: _, h => h.elim
  | _ :: _, [], h => h.elim
theorem DaysAt.take {H : Hp} : ∀ (n : Nat) {vs : List V} {xs : List Vbsyae.Fold}, DaysAt H vs xs → DaysAt H (vs.take n) (xs.take n)
  | 0, _, _, _ => trivial
  | n + 1, [], [], _ => trivial
  | n + 1, v :: vs, y :: xs, h => ⟨h.1, DaysAt.take n h.2⟩
  | _ + 1, [], _ :: _, h => h.elim
  | _ + 1, _ :: _, [], h => h.elim
/-- a field as the document lets it be -/
structure Wf (f : Vbsyae.Field) : Prop where
  r1 : 1 ≤ f.rows
  r8 : f.rows ≤ 8
  c1 : 1 ≤ f.cols
  c8 : f.cols ≤ 8
  w4 : f.walls.length = 4
  d20 : f.days.length ≤ 20
  inn : ∀ x ∈ f.days, x.row + x.high ≤ f.rows ∧ x.col + x.wide ≤ f.cols ∧ 1 ≤ x.high ∧ 1 ≤ x.wide
/-- the field f stands at a; what F knows is as it was, and nothing of the field is in F -/
structure FieldIn (C : Addr) (F H : Hp) (a : Addr) (f : Vbsyae.Field) : Prop where
  same : Same F H
  na : F a = none
  wf : Wf f
  ex : ∃ (dx w d : Addr) (ds : List V), F w = none ∧ F d = none ∧ w ≠ d ∧ H a = some (.ins C dx (fF f w d)) ∧ H w = some (.lst (f.walls.map wv)) ∧ H d = some (.lst ds) ∧ DaysAt H ds f.days
/-- nothing known -/
def Emp : Hp := fun _ => none
abbrev FieldAt (C : Addr) (H : Hp) (a : Addr) (f : Vbsyae.Field) : Prop := FieldIn C Emp H a f
theorem FieldIn.at {C : Addr} {F H : Hp} {a : Addr} {f : Vbsyae.Field} (h : FieldIn C F H a f) : FieldAt C H a f := by
  obtain ⟨s, na, wf, dx, w, d, ds, fw, fd, r⟩ := h
  exact ⟨(fun _ _ e => by cases e), rfl, wf, dx, w, d, ds, rfl, rfl, r⟩
/-- what is new beside it does it no harm -/
theorem FieldIn.on {C : Addr} {F H H' : Hp} {a : Addr} {f : Vbsyae.Field} (h : FieldIn C F H a f) (s : Same H H') : FieldIn C F H' a f := by
  obtain ⟨s0, na, wf, dx, w, d, ds, fw, fd, wd, e1, e2, e3, e4⟩ := h
  exact ⟨s0.trans s, na, wf, dx, w, d, ds, fw, fd, wd, s _ _ e1, s _ _ e2, s _ _ e3, e4.imp fun t xs q => s _ _ q⟩
theorem walls4 {f : Vbsyae.Field} (w : Wf f) : f.walls = [Vbsyae.walled f 0, Vbsyae.walled f 1, Vbsyae.walled f 2, Vbsyae.walled f 3] := by
  have h := w.w4
  unfold Vbsyae.walled
  match e : f.walls, h with
  | [a, b, c, d], _ => rfl
theorem walls4v {f : Vbsyae.Field} (w : Wf f) : f.walls.map wv = [wv (Vbsyae.walled f 0), wv (Vbsyae.walled f 1), wv (Vbsyae.walled f 2), wv (Vbsyae.walled f 3)] := by
  rw [walls4 w]
  rfl
end HF
namespace HF
open PySem PySem.Spec PyProof.Rows L2
abbrev s_line_cost : Stmt := top 47
theorem sc_line_cost : FnScope ["whole", "walled"] ["whole", "walled"] (defScope s_line_cost) := ⟨rfl, rfl, rfl, by decide +kernel, rfl, by decide +kernel, by decide +kernel⟩
abbrev s_rectangle_cost : Stmt := top 48
theorem sc_rectangle_cost : FnScope ["field", "high", "wide", "walls", "row_cost", "column_cost"] ["field", "high", "wide"] (defScope s_rectangle_cost) := ⟨rfl, rfl, rfl, by decide +kernel, rfl, by decide +kernel, by decide +kernel⟩
abbrev s_first_line : Stmt := top 49
theorem sc_first_line : FnScope ["last_that_fits", "walled_before", "walled_behind"] ["last_that_fits", "walled_before", "walled_behind"] (defScope s_first_line) := ⟨rfl, rfl, rfl, by decide +kernel, rfl, by decide +kernel, by decide +kernel⟩
abbrev s_rectangle_put : Stmt := top 50
theorem sc_rectangle_put : FnScope ["field", "high", "wide", "walls", "row", "column"] ["field", "high", "wide"] (defScope s_rectangle_put) := ⟨rfl, rfl, rfl, by decide +kernel, rfl, by decide +kernel, by decide +kernel⟩
section
variable {P : Program} {w : World} {K : PySem.W.Frag} {mg : Str → Option Value} {base : Heap} {A : Ad}
/-- what a line costs by whether it is whole and how many of its two ends are walled -/
def lineCost (whole : Bool) (n : Int) : Int := if whole = true then 2 - n else if 0 < n then 1 else 2
def sp_line_cost : Sp := fun vs H Q _ => ∃ (b : Bool) (n : Int), vs = [.bl b, .int n] ∧ Q (.int (lineCost b n)) H
theorem ok_line_cost {f : Addr} {fd : FuncData} (F : Fun K "line_cost" "line_cost" s_line_cost f fd) : FnOk P w K mg base CX0 1 f fd ["whole", "walled"] sp_line_cost := by
  refine F.ok sc_line_cost (fun vs H Q E h => ?_) (fun cdv B outer s H vs Q E hr h => ?_)
  · obtain ⟨b, n, rfl, _⟩ := h
    rfl
  · obtain ⟨b, n, rfl, q⟩ := h
    refine ⟨_, (pss_cons (ps_if (pt_val (pv 0)) (pss_one (ps_ret (pe_op op_sub pe_int (pv 1)))) pss_nil)
      (pss_one (ps_ret (pe_ifExp (pt_cmpR op_gt (pv 1) pe_int (nomark _)) pe_int pe_int)))), ?_⟩
    simp only [tSeq, tIfS, tB, tVar, tRet, tRetN, tDrop, tAsg, gName, tOp, tC, tUn, rU, rI, rI0, tNext, tIf, tTest, tAnd, tOr, tNot, tAndV, tOrV, tNotV, tCons, tNil, tCal, tCalM, tCalC, tBase, tFld, sFld, sFldAug, L2.rAdd, tIsN, tNotN, rEq, rNe, scal_ii, scal_bb, scal_ss, scal_sn, scal_ns, scal_in, scal_ni, cxK, cxK2, tAug, ipI, L2.start, List.map_cons, List.map_nil, List.cons_append, List.nil_append, List.length_cons, List.length_nil, Nat.reduceAdd, Nat.reduceSub, List.replicate_zero, List.replicate_succ, List.append_nil, List.set_cons_zero, List.set_cons_succ, List.getElem?_cons_zero, List.getElem?_cons_succ, Option.some.injEq, exists_eq_left', exists_eq_left, exists_eq_right, exists_eq', V.int.injEq, V.bl.injEq, V.ref.injEq, V.str.injEq, HO.ins.injEq, and_assoc, true_and, and_true, exists_and_left, List.cons.injEq, exists_const, ne_eq, reduceCtorEq, not_false_eq_true, decide_true, decide_false, if_true, if_false, false_and, false_or, Bool.not_true, Bool.not_false, Bool.false_eq_true]
    unfold lineCost at q
    cases b
    · simp only [Bool.false_eq_true, if_false] at q ⊢
      by_cases c : 0 < n
      · simpa [c] using q
      · simpa [c] using q
    · simpa using q
theorem lineCost_row (f : Vbsyae.Field) (y : Nat) : lineCost (decide ((y : Int) = (f.cols : Int))) ((if Vbsyae.walled f 1 = true then 1 else 0) + if Vbsyae.walled f 3 = true then 1 else 0) = (Vbsyae.rowCost f y : Nat) := by
  unfold lineCost Vbsyae.rowCost
  by_cases c : y = f.cols
  · subst c
    cases Vbsyae.walled f 1 <;> cases Vbsyae.walled f 3 <;> simp
  · have c' : ¬ ((y : Int) = (f.cols : Int)) := by omega
    cases Vbsyae.walled f 1 <;> cases Vbsyae.walled f 3 <;> simp [c, c']
theorem lineCost_col (f : Vbsyae.Field) (x : Nat) : lineCost (decide ((x : Int) = (f.rows : Int))) ((if Vbsyae.walled f 0 = true then 1 else 0) + if Vbsyae.walled f 2 = true then 1 else 0) = (Vbsyae.colCost f x : Nat) := by
  unfold lineCost Vbsyae.colCost
  by_cases c : x = f.rows
  · subst c
    cases Vbsyae.walled f 0 <;> cases Vbsyae.walled f 2 <;> simp
  · have c' : ¬ ((x : Int) = (f.rows : Int)) := by omega
    cases Vbsyae.walled f 0 <;> cases Vbsyae.walled f 2 <;> simp [c, c']
def sp_rectangle_cost (A : Ad) : Sp := fun vs H Q _ => ∃ (a : Addr) (f : Vbsyae.Field) (x y : Nat), vs = [.ref a, .int x, .int y] ∧ FieldAt A.cField H a f ∧ x ≤ 8 ∧ y ≤ 8 ∧ Q (.int (Vbsyae.rectCost f x y)) H
theorem ok_rectangle_cost {f : Addr} {fd : FuncData} (F : Fun K "rectangle_cost" "rectangle_cost" s_rectangle_cost f fd) (T : Txt K mg A) (c_line_cost : Cal P w K mg base CX0 1 "line_cost" ["whole", "walled"] sp_line_cost) : FnOk P w K mg base CX0 2 f fd ["field", "high", "wide"] (sp_rectangle_cost A) := by
  refine F.ok sc_rectangle_cost (fun vs H Q E h => ?_) (fun cdv B outer s H vs Q E hr h => ?_)
  · obtain ⟨a, f, x, y, rfl, _⟩ := h
    rfl
  · obtain ⟨a, fl, x, y, rfl, hF, hx, hy, q⟩ := h
    refine ⟨_, (pss_cons (ps_set (i := 3) sc_rectangle_cost.nd rfl (Or.inl rfl) (pe_fld (pv 0) rfl))
      (pss_cons (ps_set (i := 4) sc_rectangle_cost.nd rfl (Or.inl rfl) (pe_cal c_line_cost hr (by rfl) pass0 (pa_cons (pe_cmpR op_eq (pv 2) (pe_fld (pv 0) rfl) (nomark _)) (pa_cons (pe_op op_add (pe_ix ix_list (pv 3) (pe_gi T.RIGHT (by rfl)) (fun _ _ => rfl)) (pe_ix ix_list (pv 3) (pe_gi T.LEFT (by rfl)) (fun _ _ => rfl))) pa_nil))))
      (pss_cons (ps_set (i := 5) sc_rectangle_cost.nd rfl (Or.inl rfl) (pe_cal c_line_cost hr (by rfl) pass0 (pa_cons (pe_cmpR op_eq (pv 1) (pe_fld (pv 0) rfl) (nomark _)) (pa_cons (pe_op op_add (pe_ix ix_list (pv 3) (pe_gi T.ABOVE (by rfl)) (fun _ _ => rfl)) (pe_ix ix_list (pv 3) (pe_gi T.BELOW (by rfl)) (fun _ _ => rfl))) pa_nil))))
      (pss_one (ps_ret (pe_op op_add (pe_op op_mul (pv 1) (pv 4)) (pe_op op_mul (pv 2) (pv 5)))))))), ?_⟩
    obtain ⟨-, -, wf, dx, wl, dl, ds, -, -, -, hA, hW, -, -⟩ := hF
    rw [walls4v wf] at hW
    simp only [tSeq, tIfS, tB, tVar, tRet, tRetN, tDrop, tAsg, gName, tOp, tC, tUn, rU, rI, rI0, tNext, tIf, tTest, tAnd, tOr, tNot, tAndV, tOrV, tNotV, tCons, tNil, tCal, tCalM, tCalC, tBase, tFld, sFld, sFldAug, L2.rAdd, tIsN, tNotN, rEq, rNe, scal_ii, scal_bb, scal_ss, scal_sn, scal_ns, scal_in, scal_ni, cxK, cxK2, tAug, ipI, L2.start, List.map_cons, List.map_nil, List.cons_append, List.nil_append, List.length_cons, List.length_nil, Nat.reduceAdd, Nat.reduceSub, List.replicate_zero, List.replicate_succ, List.append_nil, List.set_cons_zero, List.set_cons_succ, List.getElem?_cons_zero, List.getElem?_cons_succ, Option.some.injEq, exists_eq_left', exists_eq_left, exists_eq_right, exists_eq', V.int.injEq, V.bl.injEq, V.ref.injEq, V.str.injEq, HO.ins.injEq, and_assoc, true_and, and_true, exists_and_left, List.cons.injEq, exists_const, ne_eq, reduceCtorEq, not_false_eq_true, decide_true, decide_false, if_true, if_false, false_and, false_or, Bool.not_true, Bool.not_false, Bool.false_eq_true, T.clField, T.nRows, T.nColumns, T.nWalls, T.nDays, fF_rows, fF_cols, fF_walls, fF_days, hA, sp_line_cost]
    refine st_ixL hW rfl (st_ixL hW rfl ?_)
    simp only [tSeq, tIfS, tB, tVar, tRet, tRetN, tDrop, tAsg, gName, tOp, tC, tUn, rU, rI, rI0, tNext, tIf, tTest, tAnd, tOr, tNot, tAndV, tOrV, tNotV, tCons, tNil, tCal, tCalM, tCalC, tBase, tFld, sFld, sFldAug, L2.rAdd, tIsN, tNotN, rEq, rNe, scal_ii, scal_bb, scal_ss, scal_sn, scal_ns, scal_in, scal_ni, cxK, cxK2, tAug, ipI, L2.start, List.map_cons, List.map_nil, List.cons_append, List.nil_append, List.length_cons, List.length_nil, Nat.reduceAdd, Nat.reduceSub, List.replicate_zero, List.replicate_succ, List.append_nil, List.set_cons_zero, List.set_cons_succ, List.getElem?_cons_zero, List.getElem?_cons_succ, Option.some.injEq, exists_eq_left', exists_eq_left, exists_eq_right, exists_eq', V.int.injEq, V.bl.injEq, V.ref.injEq, V.str.injEq, HO.ins.injEq, and_assoc, true_and, and_true, exists_and_left, List.cons.injEq, exists_const, ne_eq, reduceCtorEq, not_false_eq_true, decide_true, decide_false, if_true, if_false, false_and, false_or, Bool.not_true, Bool.not_false, Bool.false_eq_true, T.clField, T.nRows, T.nColumns, T.nWalls, T.nDays, fF_rows, fF_cols, fF_walls, fF_days, hA, wv]
    refine st_ixL hW rfl (st_ixL hW rfl ?_)
    simp only [tSeq, tIfS, tB, tVar, tRet, tRetN, tDrop, tAsg, gName, tOp, tC, tUn, rU, rI, rI0, tNext, tIf, tTest, tAnd, tOr, tNot, tAndV, tOrV, tNotV, tCons, tNil, tCal, tCalM, tCalC, tBase, tFld, sFld, sFldAug, L2.rAdd, tIsN, tNotN, rEq, rNe, scal_ii, scal_bb, scal_ss, scal_sn, scal_ns, scal_in, scal_ni, cxK, cxK2, tAug, ipI, L2.start, List.map_cons, List.map_nil, List.cons_append, List.nil_append, List.length_cons, List.length_nil, Nat.reduceAdd, Nat.reduceSub, List.replicate_zero, List.replicate_succ, List.append_nil, List.set_cons_zero, List.set_cons_succ, List.getElem?_cons_zero, List.getElem?_cons_succ, Option.some.injEq, exists_eq_left', exists_eq_left, exists_eq_right, exists_eq', V.int.injEq, V.bl.injEq, V.ref.injEq, V.str.injEq, HO.ins.injEq, and_assoc, true_and, and_true, exists_and_left, List.cons.injEq, exists_const, ne_eq, reduceCtorEq, not_false_eq_true, decide_true, decide_false, if_true, if_false, false_and, false_or, Bool.not_true, Bool.not_false, Bool.false_eq_true, T.clField, T.nRows, T.nColumns, T.nWalls, T.nDays, fF_rows, fF_cols, fF_walls, fF_days, hA, wv]
    have e1 := lineCost_row fl y
    have e2 := lineCost_col fl x
    rw [e1, e2]
    refine ⟨Or.inl ⟨by omega, by omega⟩, Or.inl ⟨by omega, by omega⟩, ?_⟩
    have e3 : ((x : Int) * (Vbsyae.rowCost fl y : Nat) + (y : Int) * (Vbsyae.colCost fl x : Nat)) = ((Vbsyae.rectCost fl x y : Nat) : Int) := by
      unfold Vbsyae.rectCost
      simp
    rw [e3]
    exact q
def firstLine (l : Int) (b c : Bool) : Int := if c = true ∧ b = false then l else 0
def sp_first_line : Sp := fun vs H Q _ => ∃ (l : Int) (b c : Bool), vs = [.int l, wv b, wv c] ∧ Q (.int (firstLine l b c)) H
theorem ok_first_line {f : Addr} {fd : FuncData} (F : Fun K "first_line" "first_line" s_first_line f fd) : FnOk P w K mg base CX0 1 f fd ["last_that_fits", "walled_before", "walled_behind"] sp_first_line := by
  refine F.ok sc_first_line (fun vs H Q E h => ?_) (fun cdv B outer s H vs Q E hr h => ?_)
  · obtain ⟨l, b, c, rfl, _⟩ := h
    rfl
  · obtain ⟨l, b, c, rfl, q⟩ := h
    refine ⟨_, (pss_cons (ps_if (PW.pt (pw_and (pt_cmpR op_eq (pv 2) pe_int (nomark _)) (pw_and1 (pt_cmpR op_eq (pv 1) pe_int (nomark _))))) (pss_one (ps_ret (pv 0))) pss_nil)
      (pss_one (ps_ret pe_int))), ?_⟩
    simp only [tSeq, tIfS, tB, tVar, tRet, tRetN, tDrop, tAsg, gName, tOp, tC, tUn, rU, rI, rI0, tNext, tIf, tTest, tAnd, tOr, tNot, tAndV, tOrV, tNotV, tCons, tNil, tCal, tCalM, tCalC, tBase, tFld, sFld, sFldAug, L2.rAdd, tIsN, tNotN, rEq, rNe, scal_ii, scal_bb, scal_ss, scal_sn, scal_ns, scal_in, scal_ni, cxK, cxK2, tAug, ipI, L2.start, List.map_cons, List.map_nil, List.cons_append, List.nil_append, List.length_cons, List.length_nil, Nat.reduceAdd, Nat.reduceSub, List.replicate_zero, List.replicate_succ, List.append_nil, List.set_cons_zero, List.set_cons_succ, List.getElem?_cons_zero, List.getElem?_cons_succ, Option.some.injEq, exists_eq_left', exists_eq_left, exists_eq_right, exists_eq', V.int.injEq, V.bl.injEq, V.ref.injEq, V.str.injEq, HO.ins.injEq, and_assoc, true_and, and_true, exists_and_left, List.cons.injEq, exists_const, ne_eq, reduceCtorEq, not_false_eq_true, decide_true, decide_false, if_true, if_false, false_and, false_or, Bool.not_true, Bool.not_false, Bool.false_eq_true, wv]
    cases b <;> cases c <;> simpa [firstLine] using q
def sp_rectangle_put (A : Ad) : Sp := fun vs H Q _ => ∃ (a : Addr) (f : Vbsyae.Field) (x y : Nat), vs = [.ref a, .int x, .int y] ∧ FieldAt A.cField H a f ∧ x ≤ f.rows ∧ y ≤ f.cols ∧
  ∀ (H' : Hp) (p : Addr), Same H H' → H p = none → H' p = some (.lst ((Vbsyae.foldRow (Vbsyae.putAt f x y)).map V.int)) → Q (.ref p) H'
theorem ok_rectangle_put {f : Addr} {fd : FuncData} (F : Fun K "rectangle_put" "rectangle_put" s_rectangle_put f fd) (T : Txt K mg A) (c_first_line : Cal P w K mg base CX0 1 "first_line" ["last_that_fits", "walled_before", "walled_behind"] sp_first_line) : FnOk P w K mg base CX0 2 f fd ["field", "high", "wide"] (sp_rectangle_put A) := by
  refine F.ok sc_rectangle_put (fun vs H Q E h => ?_) (fun cdv B outer s H vs Q E hr h => ?_)
  · obtain ⟨a, f, x, y, rfl, _⟩ := h
    rfl
  · obtain ⟨a, fl, x, y, rfl, hF, hx, hy, q⟩ := h
    refine ⟨_, (pss_cons (ps_set (i := 3) sc_rectangle_put.nd rfl (Or.inl rfl) (pe_fld (pv 0) rfl))
      (pss_cons (ps_set (i := 4) sc_rectangle_put.nd rfl (Or.inl rfl) (pe_cal c_first_line hr (by rfl) pass0 (pa_cons (pe_op op_sub (pe_fld (pv 0) rfl) (pv 1)) (pa_cons (pe_ix ix_list (pv 3) (pe_gi T.ABOVE (by rfl)) (fun _ _ => rfl)) (pa_cons (pe_ix ix_list (pv 3) (pe_gi T.BELOW (by rfl)) (fun _ _ => rfl)) pa_nil)))))
      (pss_cons (ps_set (i := 5) sc_rectangle_put.nd rfl (Or.inl rfl) (pe_cal c_first_line hr (by rfl) pass0 (pa_cons (pe_op op_sub (pe_fld (pv 0) rfl) (pv 2)) (pa_cons (pe_ix ix_list (pv 3) (pe_gi T.LEFT (by rfl)) (fun _ _ => rfl)) (pa_cons (pe_ix ix_list (pv 3) (pe_gi T.RIGHT (by rfl)) (fun _ _ => rfl)) pa_nil)))))
      (pss_one (ps_ret (pe_lst (pa_cons (pv 4) (pa_cons (pv 5) (pa_cons (pv 1) (pa_cons (pv 2) pa_nil)))))))))), ?_⟩
    obtain ⟨-, -, wf, dx, wl, dl, ds, -, -, -, hA, hW, -, -⟩ := hF
    rw [walls4v wf] at hW
    simp only [tSeq, tIfS, tB, tVar, tRet, tRetN, tDrop, tAsg, gName, tOp, tC, tUn, rU, rI, rI0, tNext, tIf, tTest, tAnd, tOr, tNot, tAndV, tOrV, tNotV, tCons, tNil, tCal, tCalM, tCalC, tBase, tFld, sFld, sFldAug, L2.rAdd, tIsN, tNotN, rEq, rNe, scal_ii, scal_bb, scal_ss, scal_sn, scal_ns, scal_in, scal_ni, cxK, cxK2, tAug, ipI, L2.start, List.map_cons, List.map_nil, List.cons_append, List.nil_append, List.length_cons, List.length_nil, Nat.reduceAdd, Nat.reduceSub, List.replicate_zero, List.replicate_succ, List.append_nil, List.set_cons_zero, List.set_cons_succ, List.getElem?_cons_zero, List.getElem?_cons_succ, Option.some.injEq, exists_eq_left', exists_eq_left, exists_eq_right, exists_eq', V.int.injEq, V.bl.injEq, V.ref.injEq, V.str.injEq, HO.ins.injEq, and_assoc, true_and, and_true, exists_and_left, List.cons.injEq, exists_const, ne_eq, reduceCtorEq, not_false_eq_true, decide_true, decide_false, if_true, if_false, false_and, false_or, Bool.not_true, Bool.not_false, Bool.false_eq_true, T.clField, T.nRows, T.nColumns, T.nWalls, T.nDays, fF_rows, fF_cols, fF_walls, fF_days, hA]
    refine st_ixL hW rfl (st_ixL hW rfl ⟨_, _, _, rfl, ?_⟩)
    simp only [tSeq, tIfS, tB, tVar, tRet, tRetN, tDrop, tAsg, gName, tOp, tC, tUn, rU, rI, rI0, tNext, tIf, tTest, tAnd, tOr, tNot, tAndV, tOrV, tNotV, tCons, tNil, tCal, tCalM, tCalC, tBase, tFld, sFld, sFldAug, L2.rAdd, tIsN, tNotN, rEq, rNe, scal_ii, scal_bb, scal_ss, scal_sn, scal_ns, scal_in, scal_ni, cxK, cxK2, tAug, ipI, L2.start, List.map_cons, List.map_nil, List.cons_append, List.nil_append, List.length_cons, List.length_nil, Nat.reduceAdd, Nat.reduceSub, List.replicate_zero, List.replicate_succ, List.append_nil, List.set_cons_zero, List.set_cons_succ, List.getElem?_cons_zero, List.getElem?_cons_succ, Option.some.injEq, exists_eq_left', exists_eq_left, exists_eq_right, exists_eq', V.int.injEq, V.bl.injEq, V.ref.injEq, V.str.injEq, HO.ins.injEq, and_assoc, true_and, and_true, exists_and_left, List.cons.injEq, exists_const, ne_eq, reduceCtorEq, not_false_eq_true, decide_true, decide_false, if_true, if_false, false_and, false_or, Bool.not_true, Bool.not_false, Bool.false_eq_true, T.clField, T.nRows, T.nColumns, T.nWalls, T.nDays, fF_rows, fF_cols, fF_walls, fF_days, hA]
    refine st_ixL hW rfl (st_ixL hW rfl ⟨_, _, _, rfl, ?_⟩)
    simp only [tSeq, tIfS, tB, tVar, tRet, tRetN, tDrop, tAsg, gName, tOp, tC, tUn, rU, rI, rI0, tNext, tIf, tTest, tAnd, tOr, tNot, tAndV, tOrV, tNotV, tCons, tNil, tCal, tCalM, tCalC, tBase, tFld, sFld, sFldAug, L2.rAdd, tIsN, tNotN, rEq, rNe, scal_ii, scal_bb, scal_ss, scal_sn, scal_ns, scal_in, scal_ni, cxK, cxK2, tAug, ipI, L2.start, List.map_cons, List.map_nil, List.cons_append, List.nil_append, List.length_cons, List.length_nil, Nat.reduceAdd, Nat.reduceSub, List.replicate_zero, List.replicate_succ, List.append_nil, List.set_cons_zero, List.set_cons_succ, List.getElem?_cons_zero, List.getElem?_cons_succ, Option.some.injEq, exists_eq_left', exists_eq_left, exists_eq_right, exists_eq', V.int.injEq, V.bl.injEq, V.ref.injEq, V.str.injEq, HO.ins.injEq, and_assoc, true_and, and_true, exists_and_left, List.cons.injEq, exists_const, ne_eq, reduceCtorEq, not_false_eq_true, decide_true, decide_false, if_true, if_false, false_and, false_or, Bool.not_true, Bool.not_false, Bool.false_eq_true, T.clField, T.nRows, T.nColumns, T.nWalls, T.nDays, fF_rows, fF_cols, fF_walls, fF_days, hA, tLst]
    refine ⟨by decide, fun p hp => q _ p (same_new hp) hp ?_⟩
    rw [upd_same]
    have e1 : firstLine ((fl.rows : Int) - x) (Vbsyae.walled fl 0) (Vbsyae.walled fl 2) = ((Vbsyae.putAt fl x y).row : Nat) := by
      unfold firstLine Vbsyae.putAt
      cases Vbsyae.walled fl 0 <;> cases Vbsyae.walled fl 2 <;> simp <;> omega
    have e2 : firstLine ((fl.cols : Int) - y) (Vbsyae.walled fl 3) (Vbsyae.walled fl 1) = ((Vbsyae.putAt fl x y).col : Nat) := by
      unfold firstLine Vbsyae.putAt
      cases Vbsyae.walled fl 3 <;> cases Vbsyae.walled fl 1 <;> simp <;> omega
    rw [e1, e2]
    rfl
end
end HF
namespace HF
open PySem PySem.Spec PyProof.Rows L2
abbrev s_cell_beyond : Stmt := top 10
theorem sc_cell_beyond : FnScope ["field", "cell", "side", "row", "column"] ["field", "cell", "side"] (defScope s_cell_beyond) := ⟨rfl, rfl, rfl, by decide +kernel, rfl, by decide +kernel, by decide +kernel⟩
abbrev s_needs_hurdle : Stmt := top 11
theorem sc_needs_hurdle : FnScope ["field", "inside", "cell", "side", "other"] ["field", "inside", "cell", "side"] (defScope s_needs_hurdle) := ⟨rfl, rfl, rfl, by decide +kernel, rfl, by decide +kernel, by decide +kernel⟩
abbrev s_marked : Stmt := top 12
theorem sc_marked : FnScope ["cells", "inside", "cell"] ["cells"] (defScope s_marked) := ⟨rfl, rfl, rfl, by decide +kernel, rfl, by decide +kernel, by decide +kernel⟩
abbrev s_hurdles : Stmt := top 13
theorem sc_hurdles : FnScope ["field", "cells", "inside", "found", "cell", "side"] ["field", "cells"] (defScope s_hurdles) := ⟨rfl, rfl, rfl, by decide +kernel, rfl, by decide +kernel, by decide +kernel⟩
section
variable {P : Program} {w : World} {K : PySem.W.Frag} {mg : Str → Option Value} {base : Heap} {A : Ad}
theorem fdiv_nat (a b : Nat) : ((a : Int).fdiv (b : Int)) = ((a / b : Nat) : Int) := by
  rw [Int.fdiv_eq_ediv_of_nonneg _ (by omega)]
  rfl
theorem fmod_nat (a b : Nat) : ((a : Int).fmod (b : Int)) = ((a % b : Nat) : Int) := by
  rw [Int.fmod_eq_emod_of_nonneg _ (by omega)]
  rfl
def optV : Option Nat → V
  | none => .non
  | some d => .int d
def sp_cell_beyond (A : Ad) : Sp := fun vs H Q _ => ∃ (a : Addr) (f : Vbsyae.Field) (c s : Nat), vs = [.ref a, .int c, .int s] ∧ FieldAt A.cField H a f ∧ s < 4 ∧ Q (optV (Vbsyae.beyond f c s)) H
theorem ok_cell_beyond {f : Addr} {fd : FuncData} (F : Fun K "cell_beyond" "cell_beyond" s_cell_beyond f fd) (T : Txt K mg A) : FnOk P w K mg base CX0 1 f fd ["field", "cell", "side"] (sp_cell_beyond A) := by
  refine F.ok sc_cell_beyond (fun vs H Q E h => ?_) (fun cdv B outer s H vs Q E hr h => ?_)
  · obtain ⟨a, f, x, y, rfl, _⟩ := h
    rfl
  · obtain ⟨a, fl, c, sd, rfl, hF, hs, q⟩ := h
    refine ⟨_, (pss_cons (ps_set (i := 3) sc_cell_beyond.nd rfl (Or.inl rfl) (pe_op op_fdivN (pv 1) (pe_fld (pv 0) rfl)))
      (pss_cons (ps_set (i := 4) sc_cell_beyond.nd rfl (Or.inl rfl) (pe_op op_modN (pv 1) (pe_fld (pv 0) rfl)))
      (pss_cons (ps_if (PW.pt (pw_and (pt_cmpR op_eq (pv 2) (pe_gi T.ABOVE (by rfl)) (nomark _)) (pw_and1 (pt_cmpR op_gt (pv 3) pe_int (nomark _))))) (pss_one (ps_ret (pe_op op_sub (pv 1) (pe_fld (pv 0) rfl)))) pss_nil)
      (pss_cons (ps_if (PW.pt (pw_and (pt_cmpR op_eq (pv 2) (pe_gi T.RIGHT (by rfl)) (nomark _)) (pw_and1 (pt_cmpR op_lt (pv 4) (pe_op op_sub (pe_fld (pv 0) rfl) pe_int) (nomark _))))) (pss_one (ps_ret (pe_op op_add (pv 1) pe_int))) pss_nil)
      (pss_cons (ps_if (PW.pt (pw_and (pt_cmpR op_eq (pv 2) (pe_gi T.BELOW (by rfl)) (nomark _)) (pw_and1 (pt_cmpR op_lt (pv 3) (pe_op op_sub (pe_fld (pv 0) rfl) pe_int) (nomark _))))) (pss_one (ps_ret (pe_op op_add (pv 1) (pe_fld (pv 0) rfl)))) pss_nil)
      (pss_cons (ps_if (PW.pt (pw_and (pt_cmpR op_eq (pv 2) (pe_gi T.LEFT (by rfl)) (nomark _)) (pw_and1 (pt_cmpR op_gt (pv 4) pe_int (nomark _))))) (pss_one (ps_ret (pe_op op_sub (pv 1) pe_int))) pss_nil)
      (pss_one (ps_ret pe_non)))))))), ?_⟩
    obtain ⟨-, -, wf, dx, wl, dl, ds, -, -, -, hA, hW, -, -⟩ := hF
    simp only [tSeq, tIfS, tB, tVar, tRet, tRetN, tDrop, tAsg, gName, tOp, tC, tUn, rU, rI, rI0, tNext, tIf, tTest, tAnd, tOr, tNot, tAndV, tOrV, tNotV, tCons, tNil, tCal, tCalM, tCalC, tBase, tFld, sFld, sFldAug, L2.rAdd, tIsN, tNotN, rEq, rNe, scal_ii, scal_bb, scal_ss, scal_sn, scal_ns, scal_in, scal_ni, cxK, cxK2, tAug, ipI, L2.start, List.map_cons, List.map_nil, List.cons_append, List.nil_append, List.length_cons, List.length_nil, Nat.reduceAdd, Nat.reduceSub, List.replicate_zero, List.replicate_succ, List.append_nil, List.set_cons_zero, List.set_cons_succ, List.getElem?_cons_zero, List.getElem?_cons_succ, Option.some.injEq, exists_eq_left', exists_eq_left, exists_eq_right, exists_eq', V.int.injEq, V.bl.injEq, V.ref.injEq, V.str.injEq, HO.ins.injEq, and_assoc, true_and, and_true, exists_and_left, List.cons.injEq, exists_const, ne_eq, reduceCtorEq, not_false_eq_true, decide_true, decide_false, if_true, if_false, false_and, false_or, Bool.not_true, Bool.not_false, Bool.false_eq_true, T.clField, T.nRows, T.nColumns, T.nWalls, T.nDays, fF_rows, fF_cols, fF_walls, fF_days, hA, CDivN]
    rw [fdiv_nat, fmod_nat]
    have hc := wf.c1
    have hc8 := wf.c8
    refine ⟨by omega, by omega, by omega, ?_⟩
    have h4 : sd = 0 ∨ sd = 1 ∨ sd = 2 ∨ sd = 3 := by omega
    have g1 : 0 < c / fl.cols → fl.cols ≤ c := fun c0 => Nat.le_of_not_lt fun hl => by rw [Nat.div_eq_of_lt hl] at c0; omega
    have g2 : 0 < c % fl.cols → 1 ≤ c := fun c0 => Nat.pos_of_ne_zero fun z => by subst z; simp at c0
    unfold Vbsyae.beyond at q
    dsimp only at q
    generalize c / fl.cols = k at *
    generalize c % fl.cols = m at *
    rcases h4 with rfl | rfl | rfl | rfl
    · by_cases c0 : 0 < k
      · have e : (c : Int) - (fl.cols : Int) = ((c - fl.cols : Nat) : Int) := by have := g1 c0; omega
        simp [c0, optV] at q
        simp [c0, e]
        exact q
      · simp [c0, optV] at q
        simp [c0]
        exact q
    · by_cases c0 : m + 1 < fl.cols
      · have c0' : (m : Int) < (fl.cols : Int) - 1 := by omega
        simp [c0, optV] at q
        simp [c0']
        exact q
      · have c0' : ¬ (m : Int) < (fl.cols : Int) - 1 := by omega
        simp [c0, optV] at q
        simp [c0']
        exact q
    · by_cases c0 : k + 1 < fl.rows
      · have c0' : (k : Int) < (fl.rows : Int) - 1 := by omega
        simp [c0, optV] at q
        simp [c0']
        exact q
      · have c0' : ¬ (k : Int) < (fl.rows : Int) - 1 := by omega
        simp [c0, optV] at q
        simp [c0']
        exact q
    · by_cases c0 : 0 < m
      · have e : (c : Int) - 1 = ((c - 1 : Nat) : Int) := by have := g2 c0; omega
        simp [c0, optV] at q
        simp [c0, e]
        exact q
      · simp [c0, optV] at q
        simp [c0]
        exact q
/-- x in a list of whole numbers that are not below 0 -/
theorem inV_nat (x : Nat) : ∀ l : List Nat, inV (.int x) (l.map fun (n : Nat) => V.int n) = l.contains x
  | [] => rfl
  | y :: l => by
    have ih := inV_nat x l
    unfold inV at ih ⊢
    rw [List.map_cons, List.any_cons, ih, List.contains_cons]
    congr 1
    show ((y : Int) == (x : Int)) = (x == y)
    by_cases c : x = y
    · subst c
      simp
    · have c' : ¬ (y : Int) = (x : Int) := by omega
      rw [beq_eq_false_iff_ne.mpr c', beq_eq_false_iff_ne.mpr c]
theorem flat_nat (l : List Nat) : (l.map fun (n : Nat) => V.int n).all flatV = true := by
  rw [List.all_map]
  exact List.all_eq_true.mpr fun _ _ => rfl
def natsV (l : List Nat) : List V := l.map fun (n : Nat) => V.int n
theorem nats_get {l : List Nat} {i : Nat} {x : V} (hi : (natsV l)[i]? = some x) : ∃ c : Nat, l[i]? = some c ∧ x = V.int c := by
  unfold natsV at hi
  rw [List.getElem?_map] at hi
  cases e : l[i]? with
  | none => rw [e] at hi; cases hi
  | some c => rw [e] at hi; exact ⟨c, rfl, (Option.some.inj hi).symm⟩
/-- whether a hurdle is needed at a side of a cell of the fold -/
def needs (f : Vbsyae.Field) (l : List Nat) (c s : Nat) : Bool := match Vbsyae.beyond f c s with
  | some d => !l.contains d
  | none => !Vbsyae.walled f s
/-- the keys of a dict are the cells l -/
def Keys (kvs : List (Key × V)) (l : List Nat) : Prop := ∀ n : Nat, (valV kvs (Sum.inl (n : Int))).isSome = l.contains n
def sp_needs_hurdle (A : Ad) : Sp := fun vs H Q _ => ∃ (a p : Addr) (f : Vbsyae.Field) (kvs : List (Key × V)) (l : List Nat) (c s : Nat), vs = [.ref a, .ref p, .int c, .int s] ∧ FieldAt A.cField H a f ∧ H p = some (.dK kvs) ∧ Keys kvs l ∧ s < 4 ∧ Q (.bl (needs f l c s)) H
theorem ok_needs_hurdle {f : Addr} {fd : FuncData} (F : Fun K "needs_hurdle" "needs_hurdle" s_needs_hurdle f fd) (T : Txt K mg A) (c_cell_beyond : Cal P w K mg base CX0 1 "cell_beyond" ["field", "cell", "side"] (sp_cell_beyond A)) : FnOk P w K mg base CX0 2 f fd ["field", "inside", "cell", "side"] (sp_needs_hurdle A) := by
  refine F.ok sc_needs_hurdle (fun vs H Q E h => ?_) (fun cdv B outer s H vs Q E hr h => ?_)
  · obtain ⟨a, p, f, kvs, l, x, y, rfl, _⟩ := h
    rfl
  · obtain ⟨a, p, fl, kvs, l, c, sd, rfl, hF, hp, hk, hs, q⟩ := h
    refine ⟨_, (pss_cons (ps_set (i := 4) sc_needs_hurdle.nd rfl (Or.inl rfl) (pe_cal c_cell_beyond hr (by rfl) pass0 (pa_cons (pv 0) (pa_cons (pv 2) (pa_cons (pv 3) pa_nil)))))
      (pss_cons (ps_if (pt_cmpR op_isN (pv 4) pe_non (nomark _)) (pss_one (ps_ret (pe_cmpR op_eq (pe_ix ix_list (pe_fld (pv 0) rfl) (pv 3) (fun _ _ => rfl)) pe_int (nomark _)))) pss_nil)
      (pss_one (ps_ret (pe_cmp (pc_dnotin (hu_of hr) (pv 4) (pv 1)) rfl))))), ?_⟩
    simp only [tSeq, tIfS, tB, tVar, tRet, tRetN, tDrop, tAsg, gName, tOp, tC, tUn, rU, rI, rI0, tNext, tIf, tTest, tAnd, tOr, tNot, tAndV, tOrV, tNotV, tCons, tNil, tCal, tCalM, tCalC, tBase, tFld, sFld, sFldAug, L2.rAdd, tIsN, tNotN, rEq, rNe, scal_ii, scal_bb, scal_ss, scal_sn, scal_ns, scal_in, scal_ni, cxK, cxK2, tAug, ipI, L2.start, List.map_cons, List.map_nil, List.cons_append, List.nil_append, List.length_cons, List.length_nil, Nat.reduceAdd, Nat.reduceSub, List.replicate_zero, List.replicate_succ, List.append_nil, List.set_cons_zero, List.set_cons_succ, List.getElem?_cons_zero, List.getElem?_cons_succ, Option.some.injEq, exists_eq_left', exists_eq_left, exists_eq_right, exists_eq', V.int.injEq, V.bl.injEq, V.ref.injEq, V.str.injEq, HO.ins.injEq, and_assoc, true_and, and_true, exists_and_left, List.cons.injEq, exists_const, ne_eq, reduceCtorEq, not_false_eq_true, decide_true, decide_false, if_true, if_false, false_and, false_or, Bool.not_true, Bool.not_false, Bool.false_eq_true]
    refine ⟨a, fl, c, sd, rfl, hF, hs, ?_⟩
    obtain ⟨-, -, wf, dx, wl, dl, ds, -, -, -, hA, hW, -, -⟩ := hF
    rw [walls4v wf] at hW
    simp only [tSeq, tIfS, tB, tVar, tRet, tRetN, tDrop, tAsg, gName, tOp, tC, tUn, rU, rI, rI0, tNext, tIf, tTest, tAnd, tOr, tNot, tAndV, tOrV, tNotV, tCons, tNil, tCal, tCalM, tCalC, tBase, tFld, sFld, sFldAug, L2.rAdd, tIsN, tNotN, rEq, rNe, scal_ii, scal_bb, scal_ss, scal_sn, scal_ns, scal_in, scal_ni, cxK, cxK2, tAug, ipI, L2.start, List.map_cons, List.map_nil, List.cons_append, List.nil_append, List.length_cons, List.length_nil, Nat.reduceAdd, Nat.reduceSub, List.replicate_zero, List.replicate_succ, List.append_nil, List.set_cons_zero, List.set_cons_succ, List.getElem?_cons_zero, List.getElem?_cons_succ, Option.some.injEq, exists_eq_left', exists_eq_left, exists_eq_right, exists_eq', V.int.injEq, V.bl.injEq, V.ref.injEq, V.str.injEq, HO.ins.injEq, and_assoc, true_and, and_true, exists_and_left, List.cons.injEq, exists_const, ne_eq, reduceCtorEq, not_false_eq_true, decide_true, decide_false, if_true, if_false, false_and, false_or, Bool.not_true, Bool.not_false, Bool.false_eq_true, T.clField, T.nRows, T.nColumns, T.nWalls, T.nDays, fF_rows, fF_cols, fF_walls, fF_days, hA]
    unfold needs at q
    cases hb : Vbsyae.beyond fl c sd with
    | none =>
      rw [hb] at q
      simp only [optV, decide_true, if_true]
      have h4 : sd = 0 ∨ sd = 1 ∨ sd = 2 ∨ sd = 3 := by omega
      have key : ∀ b : Bool, scal (wv b) (V.int 0) = true ∧ V.bl (decide (wv b = V.int 0)) = V.bl (!b) := fun b => by cases b <;> exact ⟨rfl, by decide⟩
      rcases h4 with rfl | rfl | rfl | rfl
      all_goals (refine st_ixL hW rfl ⟨(key _).1, ?_⟩; rw [(key _).2]; exact q)
    | some d =>
      rw [hb] at q
      have e : decide (optV (some d) = V.non) = false := rfl
      rw [e, if_neg Bool.false_ne_true]
      simp only [tDNotIn, tSeq, tIfS, tB, tVar, tRet, tRetN, tDrop, tAsg, gName, tOp, tC, tUn, rU, rI, rI0, tNext, tIf, tTest, tAnd, tOr, tNot, tAndV, tOrV, tNotV, tCons, tNil, tCal, tCalM, tCalC, tBase, tFld, sFld, sFldAug, L2.rAdd, tIsN, tNotN, rEq, rNe, scal_ii, scal_bb, scal_ss, scal_sn, scal_ns, scal_in, scal_ni, cxK, cxK2, tAug, ipI, L2.start, List.map_cons, List.map_nil, List.cons_append, List.nil_append, List.length_cons, List.length_nil, Nat.reduceAdd, Nat.reduceSub, List.replicate_zero, List.replicate_succ, List.append_nil, List.set_cons_zero, List.set_cons_succ, List.getElem?_cons_zero, List.getElem?_cons_succ, Option.some.injEq, exists_eq_left', exists_eq_left, exists_eq_right, exists_eq', V.int.injEq, V.bl.injEq, V.ref.injEq, V.str.injEq, HO.ins.injEq, and_assoc, true_and, and_true, exists_and_left, List.cons.injEq, exists_const, ne_eq, reduceCtorEq, not_false_eq_true, decide_true, decide_false, if_true, if_false, false_and, false_or, Bool.not_true, Bool.not_false, Bool.false_eq_true]
      refine ⟨_, DGet.k (k := Sum.inl (d : Int)) hp, ?_⟩
      rw [hk d]
      exact q
def sp_marked (K : PySem.W.Frag) : Sp := fun vs H Q _ => ∃ (p : Addr) (l : List Nat), vs = [.ref p] ∧ SqL K H p (natsV l) ∧ l.length ≤ 64 ∧
  ∀ (H' : Hp) (r : Addr) (kvs : List (Key × V)), Same H H' → H r = none → H' r = some (.dK kvs) → Keys kvs l → Q (.ref r) H'
theorem keys_put {kvs : List (Key × V)} {l : List Nat} (h : Keys kvs l) (c : Nat) (v : V) : Keys (putK kvs (Sum.inl (c : Int)) v) (l ++ [c]) := fun n => by
  rw [valV_put]
  by_cases z : n = c
  · subst z
    simp
  · have : ¬ ((Sum.inl (n : Int) : Key) = Sum.inl (c : Int)) := fun q => z (by have := Sum.inl.inj q; omega)
    rw [if_neg this, h n]
    simp [z]
theorem ok_marked {f : Addr} {fd : FuncData} (F : Fun K "marked" "marked" s_marked f fd) (T : Txt K mg A) : FnOk P w K mg base CX0 1 f fd ["cells"] (sp_marked K) := by
  refine F.ok sc_marked (fun vs H Q E h => ?_) (fun cdv B outer s H vs Q E hr h => ?_)
  · obtain ⟨p, l, rfl, _⟩ := h
    rfl
  · obtain ⟨p, l, rfl, hp, hl, q⟩ := h
    refine ⟨_, (pss_cons (ps_set (i := 1) sc_marked.nd rfl (Or.inl rfl) pe_dnewK)
      (pss_cons (ps_for PassesOwn.never rfl (pi_list (pv 0)) (pg_name (i := 2) sc_marked.nd rfl (Or.inl rfl))
      (pss_one (ps_dput (hu_of hr) (pv 1) (pv 2) pe_bl rfl)))
      (pss_one (ps_ret (pv 1))))), ?_⟩
    simp only [tSeq, tIfS, tB, tVar, tRet, tRetN, tDrop, tAsg, gName, tOp, tC, tUn, rU, rI, rI0, tNext, tIf, tTest, tAnd, tOr, tNot, tAndV, tOrV, tNotV, tCons, tNil, tCal, tCalM, tCalC, tBase, tFld, sFld, sFldAug, L2.rAdd, tIsN, tNotN, rEq, rNe, scal_ii, scal_bb, scal_ss, scal_sn, scal_ns, scal_in, scal_ni, cxK, cxK2, tAug, ipI, L2.start, List.map_cons, List.map_nil, List.cons_append, List.nil_append, List.length_cons, List.length_nil, Nat.reduceAdd, Nat.reduceSub, List.replicate_zero, List.replicate_succ, List.append_nil, List.set_cons_zero, List.set_cons_succ, List.getElem?_cons_zero, List.getElem?_cons_succ, Option.some.injEq, exists_eq_left', exists_eq_left, exists_eq_right, exists_eq', V.int.injEq, V.bl.injEq, V.ref.injEq, V.str.injEq, HO.ins.injEq, and_assoc, true_and, and_true, exists_and_left, List.cons.injEq, exists_const, ne_eq, reduceCtorEq, not_false_eq_true, decide_true, decide_false, if_true, if_false, false_and, false_or, Bool.not_true, Bool.not_false, Bool.false_eq_true, tDNewK]
    intro r nr
    have s1 : Same H (upd H r (.dK [])) := same_new nr
    obtain ⟨Pv, hPv⟩ : ∃ Pv : Nat → L2.St → Hp → Prop, ∀ i σ H', Pv i σ H' ↔ ∃ (kvs : List (Key × V)) (y2 : Option V), σ = [some (.ref p), some (.ref r), y2] ∧ Same H H' ∧ H' r = some (.dK kvs) ∧ kvs.length ≤ i ∧ Keys kvs (l.take i) := ⟨_, fun _ _ _ => Iff.rfl⟩
    refine q_forL (a := p) (xs := natsV l) Pv (fun R h => ⟨_, rfl, h⟩) ((hPv _ _ _).mpr ⟨[], none, rfl, s1, upd_same, Nat.zero_le _, fun n => rfl⟩) (fun i σ H' _ h5 => ?_) (fun i x σ H' hi h5 => ?_) (fun σ H' h5 => ?_)
    · obtain ⟨_, _, _, s5, _⟩ := (hPv _ _ _).mp h5
      exact s5.seq hp
    · obtain ⟨kvs, y2, rfl, s5, hr5, hkl, hk⟩ := (hPv _ _ _).mp h5
      obtain ⟨c, hc, rfl⟩ := nats_get hi
      have hil : i < l.length := (List.getElem?_eq_some_iff.mp hc).1
      refine ⟨_, rfl, _, rfl, r, _, rfl, DPut.k (k := Sum.inl (c : Int)) hr5 (Nat.lt_of_le_of_lt (show _ ≤ 1000 by omega) (by decide)), ?_⟩
      refine (hPv _ _ _).mpr ⟨_, _, rfl, same_mut s5 nr, upd_same, ?_, ?_⟩
      · have := length_putK kvs (Sum.inl (c : Int)) (V.bl true)
        omega
      · have e : l.take (i + 1) = l.take i ++ [c] := by
          rw [List.take_add_one, hc]
          rfl
        rw [e]
        exact keys_put hk c _
    · obtain ⟨kvs, y2, rfl, s5, hr5, hkl, hk⟩ := (hPv _ _ _).mp h5
      unfold natsV at hk
      rw [List.length_map, List.take_length] at hk
      simp only [tSeq, tIfS, tB, tVar, tRet, tRetN, tDrop, tAsg, gName, tOp, tC, tUn, rU, rI, rI0, tNext, tIf, tTest, tAnd, tOr, tNot, tAndV, tOrV, tNotV, tCons, tNil, tCal, tCalM, tCalC, tBase, tFld, sFld, sFldAug, L2.rAdd, tIsN, tNotN, rEq, rNe, scal_ii, scal_bb, scal_ss, scal_sn, scal_ns, scal_in, scal_ni, cxK, cxK2, tAug, ipI, L2.start, List.map_cons, List.map_nil, List.cons_append, List.nil_append, List.length_cons, List.length_nil, Nat.reduceAdd, Nat.reduceSub, List.replicate_zero, List.replicate_succ, List.append_nil, List.set_cons_zero, List.set_cons_succ, List.getElem?_cons_zero, List.getElem?_cons_succ, Option.some.injEq, exists_eq_left', exists_eq_left, exists_eq_right, exists_eq', V.int.injEq, V.bl.injEq, V.ref.injEq, V.str.injEq, HO.ins.injEq, and_assoc, true_and, and_true, exists_and_left, List.cons.injEq, exists_const, ne_eq, reduceCtorEq, not_false_eq_true, decide_true, decide_false, if_true, if_false, false_and, false_or, Bool.not_true, Bool.not_false, Bool.false_eq_true]
      exact q H' r kvs s5 nr hr5 hk
/-- the pairs of cell and side, each in a tuple -/
def PairsAt (H : Hp) : List V → List (Nat × Nat) → Prop
  | [], [] => True
  | v :: vs, x :: xs => (∃ t, v = .ref t ∧ H t = some (.tup [.int x.1, .int x.2])) ∧ PairsAt H vs xs
  | _, _ => False
theorem PairsAt.imp {H H' : Hp} (k : ∀ t xs, H t = some (.tup xs) → H' t = some (.tup xs)) : ∀ {vs : List V} {xs : List (Nat × Nat)}, PairsAt H vs xs → PairsAt H' vs xs
  | [], [], _ => trivial
  | v :: vs, x :: xs, h => ⟨let ⟨t, e, q⟩ := h.1; ⟨t, e, k _ _ q⟩, PairsAt.imp k h.2⟩
  | [], _ :: _, h => h.elim
  | _ :: _, [], h => h.elim
theorem PairsAt.len {H : Hp} : ∀ {vs : List V} {xs : List (Nat × Nat)}, PairsAt H vs xs → vs.length = xs.length
  | [], [], _ => rfl
  | v :: vs, x :: xs, h => congrArg (· + 1) (PairsAt.len h.2)
  | [], _ :: _, h => h.elim
  | _ :: _, [], h => h.elim
theorem PairsAt.get {H : Hp} : ∀ {vs : List V} {xs : List (Nat × Nat)} {i : Nat} {v : V}, PairsAt H vs xs → vs[i]? = some v → ∃ t x, v = .ref t ∧ xs[i]? = some x ∧ H t = some (.tup [.int x.1, .int x.2])
  | [], [], i, v, _, e => by simp at e
  | u :: vs, y :: xs, 0, v, h, e => by
    obtain ⟨⟨t, rfl, q⟩, _⟩ := h
    cases e
    exact ⟨t, y, rfl, rfl, q⟩
  | u :: vs, y :: xs, i + 1, v, h, e => PairsAt.get (i := i) h.2 (by simpa using e)
  | [], _ :: _, _, _, h, _ => h.elim
  | _ :: _, [], _, _, h, _ => h.elim
theorem PairsAt.snoc {H : Hp} {t : Addr} {x : Nat × Nat} (ht : H t = some (.tup [.int x.1, .int x.2])) : ∀ {vs : List V} {xs : List (Nat × Nat)}, PairsAt H vs xs → PairsAt H (vs ++ [.ref t]) (xs ++ [x])
  | [], [], _ => ⟨⟨t, rfl, ht⟩, trivial⟩
  | v :: vs, y :: xs, h => ⟨h.1, PairsAt.snoc ht h.2⟩
  | [], _ :: _, h => h.elim
  | _ :: _, [], h => h.elim
/-- the hurdles cell by cell, side by side -/
def needAt (f : Vbsyae.Field) (l : List Nat) (c : Nat) : List (Nat × Nat) := ((List.range 4).filter fun s => needs f l c s).map fun s => (c, s)
def needAll (f : Vbsyae.Field) (l : List Nat) : List (Nat × Nat) := l.flatMap fun c => needAt f l c
theorem needAt_len (f : Vbsyae.Field) (l : List Nat) (c : Nat) : (needAt f l c).length ≤ 4 := by
  unfold needAt
  rw [List.length_map]
  exact Nat.le_trans (List.length_filter_le _ _) (by decide)
theorem flat_len {α β : Type} {g : α → List β} {n : Nat} (h : ∀ x, (g x).length ≤ n) : ∀ {l : List α}, (l.flatMap g).length ≤ n * l.length
  | [] => by simp
  | x :: l => by
    have ih := flat_len h (l := l)
    have hx := h x
    rw [List.flatMap_cons, List.length_append, List.length_cons, Nat.mul_add, Nat.mul_one]
    omega
def sp_hurdles (A : Ad) (K : PySem.W.Frag) : Sp := fun vs H Q _ => ∃ (a p : Addr) (f : Vbsyae.Field) (l : List Nat), vs = [.ref a, .ref p] ∧ FieldAt A.cField H a f ∧ SqL K H p (natsV l) ∧ l.length ≤ 64 ∧
  ∀ (H' : Hp) (r : Addr) (vs : List V), Same H H' → H r = none → H' r = some (.lst vs) → PairsAt H' vs (needAll f l) → Q (.ref r) H'
theorem ok_hurdles {f : Addr} {fd : FuncData} (F : Fun K "hurdles" "hurdles" s_hurdles f fd) (T : Txt K mg A) (c_needs_hurdle : Cal P w K mg base CX0 2 "needs_hurdle" ["field", "inside", "cell", "side"] (sp_needs_hurdle A)) (c_marked : Cal P w K mg base CX0 1 "marked" ["cells"] (sp_marked K)) : FnOk P w K mg base CX0 3 f fd ["field", "cells"] (sp_hurdles A K) := by
  refine F.ok sc_hurdles (fun vs H Q E h => ?_) (fun cdv B outer s H vs Q E hr h => ?_)
  · obtain ⟨a, p, f, l, rfl, _⟩ := h
    rfl
  · obtain ⟨a, p, fl, l, rfl, hF, hp, hl, q⟩ := h
    refine ⟨_, (pss_cons (ps_set (i := 2) sc_hurdles.nd rfl (Or.inl rfl) (pe_cal c_marked (hr.mono (by decide)) (by rfl) pass0 (pa_cons (pv 1) pa_nil)))
      (pss_cons (ps_set (i := 3) sc_hurdles.nd rfl (Or.inl rfl) (pe_lst pa_nil))
      (pss_cons (ps_for PassesOwn.never rfl (pi_list (pv 1)) (pg_name (i := 4) sc_hurdles.nd rfl (Or.inl rfl))
      (pss_one (ps_for PassesOwn.never rfl (pi_range1 (by rfl) T.range (pa_cons (pe_callB call_len_seq (by rfl) T.len PySem.boot_len (pa_cons (pe_gr T.SIDE_WORDS (by rfl)) pa_nil)) pa_nil)) (pg_name (i := 5) sc_hurdles.nd rfl (Or.inl rfl))
      (pss_one (ps_if (pt_val (pe_cal c_needs_hurdle hr (by rfl) pass0 (pa_cons (pv 0) (pa_cons (pv 2) (pa_cons (pv 4) (pa_cons (pv 5) pa_nil)))))) (pss_one (ps_expr (pe_bm PySem.F.plainAttrs_list PySem.F.slot_list_append PySem.F.type_list_append mt_append (pv 3) (pa_cons (pe_tup (pa_cons (pv 4) (pa_cons (pv 5) pa_nil))) pa_nil)))) pss_nil)))))
      (pss_one (ps_ret (pv 3)))))), ?_⟩
    simp only [tSeq, tIfS, tB, tVar, tRet, tRetN, tDrop, tAsg, gName, tOp, tC, tUn, rU, rI, rI0, tNext, tIf, tTest, tAnd, tOr, tNot, tAndV, tOrV, tNotV, tCons, tNil, tCal, tCalM, tCalC, tBase, tFld, sFld, sFldAug, L2.rAdd, tIsN, tNotN, rEq, rNe, scal_ii, scal_bb, scal_ss, scal_sn, scal_ns, scal_in, scal_ni, cxK, cxK2, tAug, ipI, L2.start, List.map_cons, List.map_nil, List.cons_append, List.nil_append, List.length_cons, List.length_nil, Nat.reduceAdd, Nat.reduceSub, List.replicate_zero, List.replicate_succ, List.append_nil, List.set_cons_zero, List.set_cons_succ, List.getElem?_cons_zero, List.getElem?_cons_succ, Option.some.injEq, exists_eq_left', exists_eq_left, exists_eq_right, exists_eq', V.int.injEq, V.bl.injEq, V.ref.injEq, V.str.injEq, HO.ins.injEq, and_assoc, true_and, and_true, exists_and_left, List.cons.injEq, exists_const, ne_eq, reduceCtorEq, not_false_eq_true, decide_true, decide_false, if_true, if_false, false_and, false_or, Bool.not_true, Bool.not_false, Bool.false_eq_true, tLst]
    refine ⟨p, l, rfl, hp, hl, fun H0 m kvs s0 nm hm hk => ?_⟩
    refine ⟨by decide, fun r nr0 => ?_⟩
    have nr : H r = none := s0.free nr0
    have s1 : Same H (upd H0 r (.lst [])) := s0.trans (same_new nr0)
    have nmr : m ≠ r := ne_of_none hm nr0
    have hm1 : (upd H0 r (.lst [])) m = some (.dK kvs) := (upd_ne nmr).trans hm
    obtain ⟨Pv, hPv⟩ : ∃ Pv : Nat → L2.St → Hp → Prop, ∀ i σ H', Pv i σ H' ↔ ∃ (vs : List V) (y3 y4 : Option V), σ = [some (.ref a), some (.ref p), some (.ref m), some (.ref r), y3, y4] ∧ H' m = some (.dK kvs) ∧ Same H H' ∧ H' r = some (.lst vs) ∧ PairsAt H' vs ((l.take i).flatMap fun c => needAt fl l c) := ⟨_, fun _ _ _ => Iff.rfl⟩
    refine q_forL (a := p) (xs := natsV l) Pv (fun R h => ⟨_, rfl, h⟩) ((hPv _ _ _).mpr ⟨[], none, none, rfl, hm1, s1, upd_same, trivial⟩) (fun i σ H' _ h5 => ?_) (fun i x σ H' hi h5 => ?_) (fun σ H' h5 => ?_)
    · obtain ⟨_, _, _, _, _, s5, _⟩ := (hPv _ _ _).mp h5
      exact s5.seq hp
    · obtain ⟨vs, y3, y4, rfl, hm5, s5, hr5, hps⟩ := (hPv _ _ _).mp h5
      obtain ⟨c, hc, rfl⟩ : ∃ c : Nat, l[i]? = some c ∧ x = V.int c := nats_get hi
      simp only [tSeq, tIfS, tB, tVar, tRet, tRetN, tDrop, tAsg, gName, tOp, tC, tUn, rU, rI, rI0, tNext, tIf, tTest, tAnd, tOr, tNot, tAndV, tOrV, tNotV, tCons, tNil, tCal, tCalM, tCalC, tBase, tFld, sFld, sFldAug, L2.rAdd, tIsN, tNotN, rEq, rNe, scal_ii, scal_bb, scal_ss, scal_sn, scal_ns, scal_in, scal_ni, cxK, cxK2, tAug, ipI, L2.start, List.map_cons, List.map_nil, List.cons_append, List.nil_append, List.length_cons, List.length_nil, Nat.reduceAdd, Nat.reduceSub, List.replicate_zero, List.replicate_succ, List.append_nil, List.set_cons_zero, List.set_cons_succ, List.getElem?_cons_zero, List.getElem?_cons_succ, Option.some.injEq, exists_eq_left', exists_eq_left, exists_eq_right, exists_eq', V.int.injEq, V.bl.injEq, V.ref.injEq, V.str.injEq, HO.ins.injEq, and_assoc, true_and, and_true, exists_and_left, List.cons.injEq, exists_const, ne_eq, reduceCtorEq, not_false_eq_true, decide_true, decide_false, if_true, if_false, false_and, false_or, Bool.not_true, Bool.not_false, Bool.false_eq_true]
      obtain ⟨Pj, hPj⟩ : ∃ Pj : Nat → L2.St → Hp → Prop, ∀ j σ H2, Pj j σ H2 ↔ ∃ (us : List V) (y4 : Option V), σ = [some (.ref a), some (.ref p), some (.ref m), some (.ref r), some (.int c), y4] ∧ H2 m = some (.dK kvs) ∧ Same H H2 ∧ H2 r = some (.lst us) ∧
          PairsAt H2 us (((l.take i).flatMap fun c => needAt fl l c) ++ (((List.range j).filter fun s => needs fl l c s).map fun s => (c, s))) := ⟨_, fun _ _ _ => Iff.rfl⟩
      refine q_forR 4 (by omega) Pj (fun R h => ?_) ((hPj _ _ _).mpr ⟨vs, y4, rfl, hm5, s5, hr5, by simpa using hps⟩) (fun j σ H2 hj h6 => ?_) (fun σ H2 h6 => ?_)
      · simp only [tCB, tSeq, tIfS, tB, tVar, tRet, tRetN, tDrop, tAsg, gName, tOp, tC, tUn, rU, rI, rI0, tNext, tIf, tTest, tAnd, tOr, tNot, tAndV, tOrV, tNotV, tCons, tNil, tCal, tCalM, tCalC, tBase, tFld, sFld, sFldAug, L2.rAdd, tIsN, tNotN, rEq, rNe, scal_ii, scal_bb, scal_ss, scal_sn, scal_ns, scal_in, scal_ni, cxK, cxK2, tAug, ipI, L2.start, List.map_cons, List.map_nil, List.cons_append, List.nil_append, List.length_cons, List.length_nil, Nat.reduceAdd, Nat.reduceSub, List.replicate_zero, List.replicate_succ, List.append_nil, List.set_cons_zero, List.set_cons_succ, List.getElem?_cons_zero, List.getElem?_cons_succ, Option.some.injEq, exists_eq_left', exists_eq_left, exists_eq_right, exists_eq', V.int.injEq, V.bl.injEq, V.ref.injEq, V.str.injEq, HO.ins.injEq, and_assoc, true_and, and_true, exists_and_left, List.cons.injEq, exists_const, ne_eq, reduceCtorEq, not_false_eq_true, decide_true, decide_false, if_true, if_false, false_and, false_or, Bool.not_true, Bool.not_false, Bool.false_eq_true]
        exact ⟨_, .inr (T.sides H'), h⟩
      · obtain ⟨us, y4, rfl, hm6, s6, hr6, hps6⟩ := (hPj _ _ _).mp h6
        simp only [tSeq, tIfS, tB, tVar, tRet, tRetN, tDrop, tAsg, gName, tOp, tC, tUn, rU, rI, rI0, tNext, tIf, tTest, tAnd, tOr, tNot, tAndV, tOrV, tNotV, tCons, tNil, tCal, tCalM, tCalC, tBase, tFld, sFld, sFldAug, L2.rAdd, tIsN, tNotN, rEq, rNe, scal_ii, scal_bb, scal_ss, scal_sn, scal_ns, scal_in, scal_ni, cxK, cxK2, tAug, ipI, L2.start, List.map_cons, List.map_nil, List.cons_append, List.nil_append, List.length_cons, List.length_nil, Nat.reduceAdd, Nat.reduceSub, List.replicate_zero, List.replicate_succ, List.append_nil, List.set_cons_zero, List.set_cons_succ, List.getElem?_cons_zero, List.getElem?_cons_succ, Option.some.injEq, exists_eq_left', exists_eq_left, exists_eq_right, exists_eq', V.int.injEq, V.bl.injEq, V.ref.injEq, V.str.injEq, HO.ins.injEq, and_assoc, true_and, and_true, exists_and_left, List.cons.injEq, exists_const, ne_eq, reduceCtorEq, not_false_eq_true, decide_true, decide_false, if_true, if_false, false_and, false_or, Bool.not_true, Bool.not_false, Bool.false_eq_true]
        refine ⟨a, m, fl, kvs, l, c, j, rfl, hF.on s6, hm6, hk, hj, ?_⟩
        simp only [tSeq, tIfS, tB, tVar, tRet, tRetN, tDrop, tAsg, gName, tOp, tC, tUn, rU, rI, rI0, tNext, tIf, tTest, tAnd, tOr, tNot, tAndV, tOrV, tNotV, tCons, tNil, tCal, tCalM, tCalC, tBase, tFld, sFld, sFldAug, L2.rAdd, tIsN, tNotN, rEq, rNe, scal_ii, scal_bb, scal_ss, scal_sn, scal_ns, scal_in, scal_ni, cxK, cxK2, tAug, ipI, L2.start, List.map_cons, List.map_nil, List.cons_append, List.nil_append, List.length_cons, List.length_nil, Nat.reduceAdd, Nat.reduceSub, List.replicate_zero, List.replicate_succ, List.append_nil, List.set_cons_zero, List.set_cons_succ, List.getElem?_cons_zero, List.getElem?_cons_succ, Option.some.injEq, exists_eq_left', exists_eq_left, exists_eq_right, exists_eq', V.int.injEq, V.bl.injEq, V.ref.injEq, V.str.injEq, HO.ins.injEq, and_assoc, true_and, and_true, exists_and_left, List.cons.injEq, exists_const, ne_eq, reduceCtorEq, not_false_eq_true, decide_true, decide_false, if_true, if_false, false_and, false_or, Bool.not_true, Bool.not_false, Bool.false_eq_true]
        have hlen : us.length ≤ 256 + 4 := by
          rw [hps6.len, List.length_append, List.length_map]
          have h1 : ((l.take i).flatMap fun c => needAt fl l c).length ≤ 4 * (l.take i).length := flat_len fun c => needAt_len fl l c
          have h2 : ((List.range j).filter fun s => needs fl l c s).length ≤ j := Nat.le_trans (List.length_filter_le _ _) (by rw [List.length_range]; exact Nat.le_refl _)
          rw [List.length_take] at h1
          omega
        have more : ∀ b : Bool, needs fl l c j = b → (((List.range (j + 1)).filter fun s => needs fl l c s).map fun s => (c, s)) = (((List.range j).filter fun s => needs fl l c s).map fun s => (c, s)) ++ (if b = true then [(c, j)] else []) := fun b hb => by
          rw [List.range_succ, List.filter_append, List.map_append]
          congr 1
          cases b <;> simp [hb]
        by_cases hn : needs fl l c j = true
        · rw [hn, if_pos rfl]
          simp only [tBM, tTup, tSeq, tIfS, tB, tVar, tRet, tRetN, tDrop, tAsg, gName, tOp, tC, tUn, rU, rI, rI0, tNext, tIf, tTest, tAnd, tOr, tNot, tAndV, tOrV, tNotV, tCons, tNil, tCal, tCalM, tCalC, tBase, tFld, sFld, sFldAug, L2.rAdd, tIsN, tNotN, rEq, rNe, scal_ii, scal_bb, scal_ss, scal_sn, scal_ns, scal_in, scal_ni, cxK, cxK2, tAug, ipI, L2.start, List.map_cons, List.map_nil, List.cons_append, List.nil_append, List.length_cons, List.length_nil, Nat.reduceAdd, Nat.reduceSub, List.replicate_zero, List.replicate_succ, List.append_nil, List.set_cons_zero, List.set_cons_succ, List.getElem?_cons_zero, List.getElem?_cons_succ, Option.some.injEq, exists_eq_left', exists_eq_left, exists_eq_right, exists_eq', V.int.injEq, V.bl.injEq, V.ref.injEq, V.str.injEq, HO.ins.injEq, and_assoc, true_and, and_true, exists_and_left, List.cons.injEq, exists_const, ne_eq, reduceCtorEq, not_false_eq_true, decide_true, decide_false, if_true, if_false, false_and, false_or, Bool.not_true, Bool.not_false, Bool.false_eq_true]
          refine ⟨.inl ⟨rfl, _, SqL.of hr6⟩, by decide, fun t nt => ?_⟩
          have st := same_new (o := .tup [.int c, .int j]) nt
          refine ⟨r, us, _, rfl, rfl, st _ _ hr6, Nat.lt_of_le_of_lt hlen (by decide), ?_⟩
          have nrt : r ≠ t := ne_of_none hr6 nt
          refine (hPj _ _ _).mpr ⟨us ++ [.ref t], _, rfl, (upd_ne nmr).trans (st _ _ hm6), same_mut (s6.trans st) nr, upd_same, ?_⟩
          rw [more true hn, if_pos rfl, ← List.append_assoc]
          have keep : ∀ b xs, H2 b = some (.tup xs) → (upd (upd H2 t (.tup [.int c, .int j])) r (.lst (us ++ [.ref t]))) b = some (.tup xs) := fun b xs e => by
            rw [upd_ne (ne_of e hr6 (by intro q; cases q))]
            exact st _ _ e
          exact (hps6.imp keep).snoc (by rw [upd_ne (Ne.symm nrt)]; exact upd_same)
        · have hn' : needs fl l c j = false := by simpa using hn
          rw [hn', if_neg Bool.false_ne_true]
          refine (hPj _ _ _).mpr ⟨us, _, rfl, hm6, s6, hr6, ?_⟩
          rw [more false hn', if_neg Bool.false_ne_true, List.append_nil]
          exact hps6
      · obtain ⟨us, y4, rfl, hm6, s6, hr6, hps6⟩ := (hPj _ _ _).mp h6
        refine (hPv _ _ _).mpr ⟨us, _, _, rfl, hm6, s6, hr6, ?_⟩
        have e : l.take (i + 1) = l.take i ++ [c] := by
          rw [List.take_add_one, hc]
          rfl
        rw [e, List.flatMap_append, List.flatMap_singleton]
        exact hps6
    · obtain ⟨vs, y3, y4, rfl, hm5, s5, hr5, hps⟩ := (hPv _ _ _).mp h5
      simp only [tSeq, tIfS, tB, tVar, tRet, tRetN, tDrop, tAsg, gName, tOp, tC, tUn, rU, rI, rI0, tNext, tIf, tTest, tAnd, tOr, tNot, tAndV, tOrV, tNotV, tCons, tNil, tCal, tCalM, tCalC, tBase, tFld, sFld, sFldAug, L2.rAdd, tIsN, tNotN, rEq, rNe, scal_ii, scal_bb, scal_ss, scal_sn, scal_ns, scal_in, scal_ni, cxK, cxK2, tAug, ipI, L2.start, List.map_cons, List.map_nil, List.cons_append, List.nil_append, List.length_cons, List.length_nil, Nat.reduceAdd, Nat.reduceSub, List.replicate_zero, List.replicate_succ, List.append_nil, List.set_cons_zero, List.set_cons_succ, List.getElem?_cons_zero, List.getElem?_cons_succ, Option.some.injEq, exists_eq_left', exists_eq_left, exists_eq_right, exists_eq', V.int.injEq, V.bl.injEq, V.ref.injEq, V.str.injEq, HO.ins.injEq, and_assoc, true_and, and_true, exists_and_left, List.cons.injEq, exists_const, ne_eq, reduceCtorEq, not_false_eq_true, decide_true, decide_false, if_true, if_false, false_and, false_or, Bool.not_true, Bool.not_false, Bool.false_eq_true]
      refine q H' r vs s5 nr hr5 ?_
      unfold natsV at hps
      rw [List.length_map, List.take_length] at hps
      exact hps
end
end HF
namespace HF
open PySem PySem.Spec PyProof.Rows L2
abbrev s_Refusal___init__ : Stmt := inClass (top 25) 0
theorem sc_Refusal___init__ : FnScope ["self", "answer"] ["self", "answer"] (defScope s_Refusal___init__) := ⟨rfl, rfl, rfl, by decide +kernel, rfl, by decide +kernel, by decide +kernel⟩
abbrev s_NotBytes___init__ : Stmt := inClass (top 26) 0
theorem sc_NotBytes___init__ : FnScope ["self"] ["self"] (defScope s_NotBytes___init__) := ⟨rfl, rfl, rfl, by decide +kernel, rfl, by decide +kernel, by decide +kernel⟩
abbrev s_OutOfRange___init__ : Stmt := inClass (top 27) 0
theorem sc_OutOfRange___init__ : FnScope ["self"] ["self"] (defScope s_OutOfRange___init__) := ⟨rfl, rfl, rfl, by decide +kernel, rfl, by decide +kernel, by decide +kernel⟩
abbrev s_WrongList___init__ : Stmt := inClass (top 28) 0
theorem sc_WrongList___init__ : FnScope ["self"] ["self"] (defScope s_WrongList___init__) := ⟨rfl, rfl, rfl, by decide +kernel, rfl, by decide +kernel, by decide +kernel⟩
abbrev s_NotThere___init__ : Stmt := inClass (top 29) 0
theorem sc_NotThere___init__ : FnScope ["self"] ["self"] (defScope s_NotThere___init__) := ⟨rfl, rfl, rfl, by decide +kernel, rfl, by decide +kernel, by decide +kernel⟩
abbrev s_TooManyDays___init__ : Stmt := inClass (top 30) 0
theorem sc_TooManyDays___init__ : FnScope ["self"] ["self"] (defScope s_TooManyDays___init__) := ⟨rfl, rfl, rfl, by decide +kernel, rfl, by decide +kernel, by decide +kernel⟩
abbrev s_TextFault___init__ : Stmt := inClass (top 31) 0
theorem sc_TextFault___init__ : FnScope ["self", "place"] ["self", "place"] (defScope s_TextFault___init__) := ⟨rfl, rfl, rfl, by decide +kernel, rfl, by decide +kernel, by decide +kernel⟩
abbrev s_check_range : Stmt := top 61
theorem sc_check_range : FnScope ["number", "least", "most"] ["number", "least", "most"] (defScope s_check_range) := ⟨rfl, rfl, rfl, by decide +kernel, rfl, by decide +kernel, by decide +kernel⟩
abbrev s_check_bytes : Stmt := top 62
theorem sc_check_bytes : FnScope ["text", "number"] ["text"] (defScope s_check_bytes) := ⟨rfl, rfl, rfl, by decide +kernel, rfl, by decide +kernel, by decide +kernel⟩
abbrev s_check_cells : Stmt := top 63
theorem sc_check_cells : FnScope ["field", "cells", "before", "cell"] ["field", "cells"] (defScope s_check_cells) := ⟨rfl, rfl, rfl, by decide +kernel, rfl, by decide +kernel, by decide +kernel⟩
section
variable {P : Program} {w : World} {K : PySem.W.Frag} {mg : Str → Option Value} {base : Heap} {A : Ad}
/-- what Refusal.__init__ leaves of an error at a -/
def sp_Refusal_init (K : PySem.W.Frag) : Sp := fun vs H Q _ => ∃ (a C : Addr) (n : Int), vs = [.ref a, .int n] ∧ XC K C ∧ PySem.W.findIn K (.ref C) "answer" = some none ∧ H a = some (exo a C none) ∧
  ∀ dx, H dx = none → dx ≠ a → Q .non (upd (upd H dx (exd dx [("answer", .int n)])) a (exo a C (some dx)))
theorem ok_Refusal_init {f : Addr} {fd : FuncData} (F : Fun K "__init__" "Refusal.__init__" s_Refusal___init__ f fd) : FnOk P w K mg base CX0 1 f fd ["self", "answer"] (sp_Refusal_init K) := by
  refine F.ok sc_Refusal___init__ (fun vs H Q E h => ?_) (fun cdv B outer s H vs Q E hr h => ?_)
  · obtain ⟨a, C, n, rfl, _⟩ := h
    rfl
  · obtain ⟨a, C, n, rfl, x, hno, ha, q⟩ := h
    refine ⟨_, (pss_one (ps_st (pv 0) (pv 1))), ?_⟩
    exact ⟨_, rfl, _, rfl, a, C, rfl, x, hno, .inl ⟨ha, fun dx nd ne => q dx nd ne⟩⟩
/-- the base's __init__, reached by its class -/
def CalB (P : Program) (w : World) (K : PySem.W.Frag) (mg : Str → Option Value) (base : Heap) (k : Nat) (C : Addr) (x : Str) (ps : List Str) (sp : Sp) : Prop :=
  ∃ (f : Addr) (fd : FuncData), FnOk P w K mg base CX0 k f fd ps sp ∧ ClX.CRead K C (.type "type") ∧ PySem.W.findCls K (.ref C) (.type "type") "__init__" = some (.val (.ref f)) ∧ PySem.W.keepIn K (.ref f) = true ∧ mg x = some (.ref C) ∧ Binds K fd ps []
theorem pe_calB {X : Cx} {C : Addr} {k : Nat} {x : Str} {ps : List Str} {sp : Sp} {ta : TA} {e : Expr} {es : List Expr} {p1 p2 pos : Pos} {pl : Sem Bool} (c : CalB X.prog X.w X.K X.mg X.base k C x ps sp) (hr : Room k X.A) (hg : Gl X x) (ha : PA X (e :: es) ta)
    (hdb : (x == ("__debug__" : Str)) = false := by decide)
    (hc : eval (.Call (.Attribute (.Name x p1) "__init__" p2) (e :: es) [] pos) X.env = (do
      let ov ← eval (.Name x p1) X.env
      standAt p2.atName
      let (f, first) ← holding [ov] (getMethod ov "__init__" pl)
      callWith pos f first (backTo pos (starEach (e :: es) X.env)) (backToKw pos (keywordEach [] X.env))) := by rfl)
    (he : starEach (e :: es) X.env = (false, eval e X.env) :: starEach es X.env := by rfl) (hpl : (backTo pos (starEach es X.env)).any (·.1) = false := by rfl) :
    PE X (.Call (.Attribute (.Name x p1) "__init__" p2) (e :: es) [] pos) (tBase sp E0 ta) := by
  obtain ⟨f, fd, F, r, at_, hk, hm, hb⟩ := c
  exact pe_base r at_ hk F hr hb pass0 hg hm ha hdb hc he hpl
def sp_x0 (K : PySem.W.Frag) (C : Addr) (n : Int) : Sp := fun vs H Q _ => ∃ a : Addr, vs = [.ref a] ∧ XC K C ∧ PySem.W.findIn K (.ref C) "answer" = some none ∧ H a = some (exo a C none) ∧
  ∀ dx, H dx = none → dx ≠ a → Q .non (upd (upd H dx (exd dx [("answer", .int n)])) a (exo a C (some dx)))
theorem ok_NotBytes_init {f C : Addr} {fd : FuncData} (F : Fun K "__init__" "NotBytes.__init__" s_NotBytes___init__ f fd) (b_Refusal___init__ : CalB P w K mg base 1 A.cRefusal "Refusal" ["self", "answer"] (sp_Refusal_init K)) : FnOk P w K mg base CX0 2 f fd ["self"] (sp_x0 K C (-1)) := by
  refine F.ok sc_NotBytes___init__ (fun vs H Q E h => ?_) (fun cdv B outer s H vs Q E hr h => ?_)
  · obtain ⟨a, rfl, _⟩ := h
    rfl
  · obtain ⟨a, rfl, x, hno, ha, q⟩ := h
    refine ⟨_, (pss_one (ps_expr (pe_calB b_Refusal___init__ hr (by rfl) (pa_cons (pv 0) (pa_cons (pe_un un_neg pe_int) pa_nil))))), ?_⟩
    simp only [tSeq, tIfS, tB, tVar, tRet, tRetN, tDrop, tAsg, gName, tOp, tC, tUn, rU, rI, rI0, tNext, tIf, tTest, tAnd, tOr, tNot, tAndV, tOrV, tNotV, tCons, tNil, tCal, tCalM, tCalC, tBase, tFld, sFld, sFldAug, L2.rAdd, tIsN, tNotN, rEq, rNe, scal_ii, scal_bb, scal_ss, scal_sn, scal_ns, scal_in, scal_ni, cxK, cxK2, tAug, ipI, L2.start, List.map_cons, List.map_nil, List.cons_append, List.nil_append, List.length_cons, List.length_nil, Nat.reduceAdd, Nat.reduceSub, List.replicate_zero, List.replicate_succ, List.append_nil, List.set_cons_zero, List.set_cons_succ, List.getElem?_cons_zero, List.getElem?_cons_succ, Option.some.injEq, exists_eq_left', exists_eq_left, exists_eq_right, exists_eq', V.int.injEq, V.bl.injEq, V.ref.injEq, V.str.injEq, HO.ins.injEq, and_assoc, true_and, and_true, exists_and_left, List.cons.injEq, exists_const, ne_eq, reduceCtorEq, not_false_eq_true, decide_true, decide_false, if_true, if_false, false_and, false_or, Bool.not_true, Bool.not_false, Bool.false_eq_true]
    exact ⟨a, C, -1, rfl, x, hno, ha, q⟩
theorem ok_OutOfRange_init {f C : Addr} {fd : FuncData} (F : Fun K "__init__" "OutOfRange.__init__" s_OutOfRange___init__ f fd) (b_Refusal___init__ : CalB P w K mg base 1 A.cRefusal "Refusal" ["self", "answer"] (sp_Refusal_init K)) : FnOk P w K mg base CX0 2 f fd ["self"] (sp_x0 K C (-3)) := by
  refine F.ok sc_OutOfRange___init__ (fun vs H Q E h => ?_) (fun cdv B outer s H vs Q E hr h => ?_)
  · obtain ⟨a, rfl, _⟩ := h
    rfl
  · obtain ⟨a, rfl, x, hno, ha, q⟩ := h
    refine ⟨_, (pss_one (ps_expr (pe_calB b_Refusal___init__ hr (by rfl) (pa_cons (pv 0) (pa_cons (pe_un un_neg pe_int) pa_nil))))), ?_⟩
    simp only [tSeq, tIfS, tB, tVar, tRet, tRetN, tDrop, tAsg, gName, tOp, tC, tUn, rU, rI, rI0, tNext, tIf, tTest, tAnd, tOr, tNot, tAndV, tOrV, tNotV, tCons, tNil, tCal, tCalM, tCalC, tBase, tFld, sFld, sFldAug, L2.rAdd, tIsN, tNotN, rEq, rNe, scal_ii, scal_bb, scal_ss, scal_sn, scal_ns, scal_in, scal_ni, cxK, cxK2, tAug, ipI, L2.start, List.map_cons, List.map_nil, List.cons_append, List.nil_append, List.length_cons, List.length_nil, Nat.reduceAdd, Nat.reduceSub, List.replicate_zero, List.replicate_succ, List.append_nil, List.set_cons_zero, List.set_cons_succ, List.getElem?_cons_zero, List.getElem?_cons_succ, Option.some.injEq, exists_eq_left', exists_eq_left, exists_eq_right, exists_eq', V.int.injEq, V.bl.injEq, V.ref.injEq, V.str.injEq, HO.ins.injEq, and_assoc, true_and, and_true, exists_and_left, List.cons.injEq, exists_const, ne_eq, reduceCtorEq, not_false_eq_true, decide_true, decide_false, if_true, if_false, false_and, false_or, Bool.not_true, Bool.not_false, Bool.false_eq_true]
    exact ⟨a, C, -3, rfl, x, hno, ha, q⟩
theorem ok_WrongList_init {f C : Addr} {fd : FuncData} (F : Fun K "__init__" "WrongList.__init__" s_WrongList___init__ f fd) (b_Refusal___init__ : CalB P w K mg base 1 A.cRefusal "Refusal" ["self", "answer"] (sp_Refusal_init K)) : FnOk P w K mg base CX0 2 f fd ["self"] (sp_x0 K C (-4)) := by
  refine F.ok sc_WrongList___init__ (fun vs H Q E h => ?_) (fun cdv B outer s H vs Q E hr h => ?_)
  · obtain ⟨a, rfl, _⟩ := h
    rfl
  · obtain ⟨a, rfl, x, hno, ha, q⟩ := h
    refine ⟨_, (pss_one (ps_expr (pe_calB b_Refusal___init__ hr (by rfl) (pa_cons (pv 0) (pa_cons (pe_un un_neg pe_int) pa_nil))))), ?_⟩
    simp only [tSeq, tIfS, tB, tVar, tRet, tRetN, tDrop, tAsg, gName, tOp, tC, tUn, rU, rI, rI0, tNext, tIf, tTest, tAnd, tOr, tNot, tAndV, tOrV, tNotV, tCons, tNil, tCal, tCalM, tCalC, tBase, tFld, sFld, sFldAug, L2.rAdd, tIsN, tNotN, rEq, rNe, scal_ii, scal_bb, scal_ss, scal_sn, scal_ns, scal_in, scal_ni, cxK, cxK2, tAug, ipI, L2.start, List.map_cons, List.map_nil, List.cons_append, List.nil_append, List.length_cons, List.length_nil, Nat.reduceAdd, Nat.reduceSub, List.replicate_zero, List.replicate_succ, List.append_nil, List.set_cons_zero, List.set_cons_succ, List.getElem?_cons_zero, List.getElem?_cons_succ, Option.some.injEq, exists_eq_left', exists_eq_left, exists_eq_right, exists_eq', V.int.injEq, V.bl.injEq, V.ref.injEq, V.str.injEq, HO.ins.injEq, and_assoc, true_and, and_true, exists_and_left, List.cons.injEq, exists_const, ne_eq, reduceCtorEq, not_false_eq_true, decide_true, decide_false, if_true, if_false, false_and, false_or, Bool.not_true, Bool.not_false, Bool.false_eq_true]
    exact ⟨a, C, -4, rfl, x, hno, ha, q⟩
theorem ok_NotThere_init {f C : Addr} {fd : FuncData} (F : Fun K "__init__" "NotThere.__init__" s_NotThere___init__ f fd) (b_Refusal___init__ : CalB P w K mg base 1 A.cRefusal "Refusal" ["self", "answer"] (sp_Refusal_init K)) : FnOk P w K mg base CX0 2 f fd ["self"] (sp_x0 K C (-5)) := by
  refine F.ok sc_NotThere___init__ (fun vs H Q E h => ?_) (fun cdv B outer s H vs Q E hr h => ?_)
  · obtain ⟨a, rfl, _⟩ := h
    rfl
  · obtain ⟨a, rfl, x, hno, ha, q⟩ := h
    refine ⟨_, (pss_one (ps_expr (pe_calB b_Refusal___init__ hr (by rfl) (pa_cons (pv 0) (pa_cons (pe_un un_neg pe_int) pa_nil))))), ?_⟩
    simp only [tSeq, tIfS, tB, tVar, tRet, tRetN, tDrop, tAsg, gName, tOp, tC, tUn, rU, rI, rI0, tNext, tIf, tTest, tAnd, tOr, tNot, tAndV, tOrV, tNotV, tCons, tNil, tCal, tCalM, tCalC, tBase, tFld, sFld, sFldAug, L2.rAdd, tIsN, tNotN, rEq, rNe, scal_ii, scal_bb, scal_ss, scal_sn, scal_ns, scal_in, scal_ni, cxK, cxK2, tAug, ipI, L2.start, List.map_cons, List.map_nil, List.cons_append, List.nil_append, List.length_cons, List.length_nil, Nat.reduceAdd, Nat.reduceSub, List.replicate_zero, List.replicate_succ, List.append_nil, List.set_cons_zero, List.set_cons_succ, List.getElem?_cons_zero, List.getElem?_cons_succ, Option.some.injEq, exists_eq_left', exists_eq_left, exists_eq_right, exists_eq', V.int.injEq, V.bl.injEq, V.ref.injEq, V.str.injEq, HO.ins.injEq, and_assoc, true_and, and_true, exists_and_left, List.cons.injEq, exists_const, ne_eq, reduceCtorEq, not_false_eq_true, decide_true, decide_false, if_true, if_false, false_and, false_or, Bool.not_true, Bool.not_false, Bool.false_eq_true]
    exact ⟨a, C, -5, rfl, x, hno, ha, q⟩
theorem ok_TooManyDays_init {f C : Addr} {fd : FuncData} (F : Fun K "__init__" "TooManyDays.__init__" s_TooManyDays___init__ f fd) (b_Refusal___init__ : CalB P w K mg base 1 A.cRefusal "Refusal" ["self", "answer"] (sp_Refusal_init K)) : FnOk P w K mg base CX0 2 f fd ["self"] (sp_x0 K C (-9)) := by
  refine F.ok sc_TooManyDays___init__ (fun vs H Q E h => ?_) (fun cdv B outer s H vs Q E hr h => ?_)
  · obtain ⟨a, rfl, _⟩ := h
    rfl
  · obtain ⟨a, rfl, x, hno, ha, q⟩ := h
    refine ⟨_, (pss_one (ps_expr (pe_calB b_Refusal___init__ hr (by rfl) (pa_cons (pv 0) (pa_cons (pe_un un_neg pe_int) pa_nil))))), ?_⟩
    simp only [tSeq, tIfS, tB, tVar, tRet, tRetN, tDrop, tAsg, gName, tOp, tC, tUn, rU, rI, rI0, tNext, tIf, tTest, tAnd, tOr, tNot, tAndV, tOrV, tNotV, tCons, tNil, tCal, tCalM, tCalC, tBase, tFld, sFld, sFldAug, L2.rAdd, tIsN, tNotN, rEq, rNe, scal_ii, scal_bb, scal_ss, scal_sn, scal_ns, scal_in, scal_ni, cxK, cxK2, tAug, ipI, L2.start, List.map_cons, List.map_nil, List.cons_append, List.nil_append, List.length_cons, List.length_nil, Nat.reduceAdd, Nat.reduceSub, List.replicate_zero, List.replicate_succ, List.append_nil, List.set_cons_zero, List.set_cons_succ, List.getElem?_cons_zero, List.getElem?_cons_succ, Option.some.injEq, exists_eq_left', exists_eq_left, exists_eq_right, exists_eq', V.int.injEq, V.bl.injEq, V.ref.injEq, V.str.injEq, HO.ins.injEq, and_assoc, true_and, and_true, exists_and_left, List.cons.injEq, exists_const, ne_eq, reduceCtorEq, not_false_eq_true, decide_true, decide_false, if_true, if_false, false_and, false_or, Bool.not_true, Bool.not_false, Bool.false_eq_true]
    exact ⟨a, C, -9, rfl, x, hno, ha, q⟩
def sp_x1 (K : PySem.W.Frag) (C : Addr) : Sp := fun vs H Q _ => ∃ (a : Addr) (n : Int), vs = [.ref a, .int n] ∧ XC K C ∧ PySem.W.findIn K (.ref C) "answer" = some none ∧ PySem.W.findIn K (.ref C) "place" = some none ∧ H a = some (exo a C none) ∧
  ∀ dx, H dx = none → dx ≠ a → Q .non (upd (upd (upd H dx (exd dx [("answer", .int (-1000 - n))])) a (exo a C (some dx))) dx (exd dx [("place", .int n), ("answer", .int (-1000 - n))]))
theorem ok_TextFault_init {f C : Addr} {fd : FuncData} (F : Fun K "__init__" "TextFault.__init__" s_TextFault___init__ f fd) (b_Refusal___init__ : CalB P w K mg base 1 A.cRefusal "Refusal" ["self", "answer"] (sp_Refusal_init K)) : FnOk P w K mg base CX0 2 f fd ["self", "place"] (sp_x1 K C) := by
  refine F.ok sc_TextFault___init__ (fun vs H Q E h => ?_) (fun cdv B outer s H vs Q E hr h => ?_)
  · obtain ⟨a, n, rfl, _⟩ := h
    rfl
  · obtain ⟨a, n, rfl, x, hno, hno2, ha, q⟩ := h
    refine ⟨_, (pss_cons (ps_expr (pe_calB b_Refusal___init__ hr (by rfl) (pa_cons (pv 0) (pa_cons (pe_op op_sub (pe_un un_neg pe_int) (pv 1)) pa_nil))))
      (pss_one (ps_st (pv 0) (pv 1)))), ?_⟩
    simp only [tSeq, tIfS, tB, tVar, tRet, tRetN, tDrop, tAsg, gName, tOp, tC, tUn, rU, rI, rI0, tNext, tIf, tTest, tAnd, tOr, tNot, tAndV, tOrV, tNotV, tCons, tNil, tCal, tCalM, tCalC, tBase, tFld, sFld, sFldAug, L2.rAdd, tIsN, tNotN, rEq, rNe, scal_ii, scal_bb, scal_ss, scal_sn, scal_ns, scal_in, scal_ni, cxK, cxK2, tAug, ipI, L2.start, List.map_cons, List.map_nil, List.cons_append, List.nil_append, List.length_cons, List.length_nil, Nat.reduceAdd, Nat.reduceSub, List.replicate_zero, List.replicate_succ, List.append_nil, List.set_cons_zero, List.set_cons_succ, List.getElem?_cons_zero, List.getElem?_cons_succ, Option.some.injEq, exists_eq_left', exists_eq_left, exists_eq_right, exists_eq', V.int.injEq, V.bl.injEq, V.ref.injEq, V.str.injEq, HO.ins.injEq, and_assoc, true_and, and_true, exists_and_left, List.cons.injEq, exists_const, ne_eq, reduceCtorEq, not_false_eq_true, decide_true, decide_false, if_true, if_false, false_and, false_or, Bool.not_true, Bool.not_false, Bool.false_eq_true]
    refine ⟨a, C, _, rfl, x, hno, ha, fun dx nd ne => ?_⟩
    refine ⟨_, rfl, _, rfl, a, C, rfl, x, hno2, .inr ⟨dx, _, upd_same, ?_, by simp, q dx nd ne⟩⟩
    rw [upd_ne ne]
    exact upd_same
/-! ### an error that is raised -/
/-- an error of the class C with the answer n -/
def ErrC (C : Addr) (n : Int) (H : Hp) (E : XK) : Prop := ∀ (H' : Hp) (dd : Addr) (fs : List (Str × V)), H dd = none → Same H H' → H' dd = some (.xd fs) → fs.lookup ("answer" : Str) = some (.int n) → E (.ref C) (some dd) H'
theorem mk0_ok {C : Addr} {n : Int} {σ : L2.St} {H : Hp} {Q : XK} (x : XC K C) (hno : PySem.W.findIn K (.ref C) "answer" = some none) (h : ErrC C n H Q) : tMk C (sp_x0 K C n) tNil σ H Q := by
  refine ⟨by decide, fun a na => ⟨a, rfl, x, hno, upd_same, fun dx nd ne => ⟨rfl, dx, [("answer", .int n)], upd_same, ?_, ?_, ?_⟩⟩⟩
  · rw [upd_ne ne]
    exact upd_same
  · rw [upd_ne ne] at nd
    exact nd
  · rw [upd_ne ne] at nd
    refine h _ dx [("answer", .int n)] nd (fun b o e => ?_) upd_same (by simp [List.lookup])
    have nb : b ≠ dx := ne_of_none e nd
    have nba : b ≠ a := ne_of_none e na
    rw [upd_ne nb, del_ne nba, upd_ne nba, upd_ne nb, upd_ne nba]
    exact e
/-- a fault at the place n -/
def ErrT (C : Addr) (n : Int) (H : Hp) (E : XK) : Prop := ∀ (H' : Hp) (dd : Addr) (fs : List (Str × V)), H dd = none → Same H H' → H' dd = some (.xd fs) → fs.lookup ("answer" : Str) = some (.int (-1000 - n)) → fs.lookup ("place" : Str) = some (.int n) → E (.ref C) (some dd) H'
theorem mk1_ok {C : Addr} {n : Int} {σ : L2.St} {H : Hp} {Q : XK} {ta : TA} (x : XC K C) (hno : PySem.W.findIn K (.ref C) "answer" = some none) (hno2 : PySem.W.findIn K (.ref C) "place" = some none) (ht : ∀ R : List V → Hp → Prop, R [.int n] H → ta σ H R) (h : ErrT C n H Q) : tMk C (sp_x1 K C) ta σ H Q := by
  refine ht _ ⟨by simp, fun a na => ⟨a, n, rfl, x, hno, hno2, upd_same, fun dx nd ne => ⟨rfl, dx, [("place", .int n), ("answer", .int (-1000 - n))], ?_, upd_same, ?_, ?_⟩⟩⟩
  · rw [upd_ne (Ne.symm ne)]
    exact upd_same
  · rw [upd_ne ne] at nd
    exact nd
  · rw [upd_ne ne] at nd
    have pa : (("answer" : Str) == "place") = false := by decide +kernel
    refine h _ dx [("place", .int n), ("answer", .int (-1000 - n))] nd (fun b o e => ?_) upd_same (by simp [List.lookup, pa]) (by simp [List.lookup])
    have nb : b ≠ dx := ne_of_none e nd
    have nba : b ≠ a := ne_of_none e na
    rw [upd_ne nb, del_ne nba, upd_ne nb, upd_ne nba, upd_ne nb, upd_ne nba]
    exact e
/-! ### the checks -/
def sp_check_range (A : Ad) : Sp := fun vs H Q E => ∃ n lo hi : Int, vs = [.int n, .int lo, .int hi] ∧ (lo ≤ n ∧ n ≤ hi → Q .non H) ∧ (¬ (lo ≤ n ∧ n ≤ hi) → ErrC A.cOutOfRange (-3) H E)
theorem ok_check_range {f : Addr} {fd : FuncData} (F : Fun K "check_range" "check_range" s_check_range f fd) (T : Txt K mg A) (x_OutOfRange : CalX P w K mg base CX0 2 "OutOfRange" A.cOutOfRange ["self"] (sp_x0 K A.cOutOfRange (-3))) : FnOk P w K mg base (L2.CX P w) 4 f fd ["number", "least", "most"] (sp_check_range A) := by
  refine F.okX sc_check_range (fun vs H Q E h => ?_) (fun cdv B outer s H vs Q E hr h => ?_)
  · obtain ⟨n, lo, hi, rfl, _⟩ := h
    rfl
  · obtain ⟨n, lo, hi, rfl, q, e⟩ := h
    refine ⟨_, (pss_one (ps_if (PW.pt (pw_or (pt_cmpR op_lt (pv 0) (pv 1) (nomark _)) (pw_or1 (pt_cmpR op_gt (pv 0) (pv 2) (nomark _))))) (pss_one (ps_raise rfl (takes_of rfl rfl rfl rfl) (pmk_calX0 x_OutOfRange hr (by rfl) pass0))) pss_nil)), ?_⟩
    simp only [tSeq, tIfS, tB, tVar, tRet, tRetN, tDrop, tAsg, gName, tOp, tC, tUn, rU, rI, rI0, tNext, tIf, tTest, tAnd, tOr, tNot, tAndV, tOrV, tNotV, tCons, tNil, tCal, tCalM, tCalC, tBase, tFld, sFld, sFldAug, L2.rAdd, tIsN, tNotN, rEq, rNe, scal_ii, scal_bb, scal_ss, scal_sn, scal_ns, scal_in, scal_ni, cxK, cxK2, tAug, ipI, L2.start, List.map_cons, List.map_nil, List.cons_append, List.nil_append, List.length_cons, List.length_nil, Nat.reduceAdd, Nat.reduceSub, List.replicate_zero, List.replicate_succ, List.append_nil, List.set_cons_zero, List.set_cons_succ, List.getElem?_cons_zero, List.getElem?_cons_succ, Option.some.injEq, exists_eq_left', exists_eq_left, exists_eq_right, exists_eq', V.int.injEq, V.bl.injEq, V.ref.injEq, V.str.injEq, HO.ins.injEq, and_assoc, true_and, and_true, exists_and_left, List.cons.injEq, exists_const, ne_eq, reduceCtorEq, not_false_eq_true, decide_true, decide_false, if_true, if_false, false_and, false_or, Bool.not_true, Bool.not_false, Bool.false_eq_true]
    obtain ⟨x, -, hno, -⟩ := T.errs A.cOutOfRange (by simp)
    by_cases c1 : n < lo
    · simp only [c1, decide_true, if_true]
      exact mk0_ok x hno (e (by omega))
    · simp only [c1, decide_false, if_false, Bool.false_eq_true]
      by_cases c2 : hi < n
      · simp only [c2, decide_true, if_true]
        exact mk0_ok x hno (e (by omega))
      · simp only [c2, decide_false, if_false, Bool.false_eq_true]
        exact q (by omega)
def intsV (l : List Int) : List V := l.map V.int
theorem ints_get {l : List Int} {i : Nat} {x : V} (hi : (intsV l)[i]? = some x) : ∃ c : Int, l[i]? = some c ∧ x = V.int c := by
  unfold intsV at hi
  rw [List.getElem?_map] at hi
  cases e : l[i]? with
  | none => rw [e] at hi; cases hi
  | some c => rw [e] at hi; exact ⟨c, rfl, (Option.some.inj hi).symm⟩
theorem take_get {α : Type} {l : List α} {i : Nat} {c : α} (hc : l[i]? = some c) : l.take (i + 1) = l.take i ++ [c] := by
  rw [List.take_add_one, hc]
  rfl
def byteB (c : Int) : Bool := VbsyCore.isBetween c 0 255
def sp_check_bytes (A : Ad) (K : PySem.W.Frag) : Sp := fun vs H Q E => ∃ (p : Addr) (l : List Int), vs = [.ref p] ∧ SqL K H p (intsV l) ∧ (l.all byteB = true → Q .non H) ∧ (l.all byteB = false → ErrC A.cNotBytes (-1) H E)
theorem ok_check_bytes {f : Addr} {fd : FuncData} (F : Fun K "check_bytes" "check_bytes" s_check_bytes f fd) (T : Txt K mg A) (x_NotBytes : CalX P w K mg base CX0 2 "NotBytes" A.cNotBytes ["self"] (sp_x0 K A.cNotBytes (-1))) : FnOk P w K mg base (L2.CX P w) 4 f fd ["text"] (sp_check_bytes A K) := by
  refine F.okX sc_check_bytes (fun vs H Q E h => ?_) (fun cdv B outer s H vs Q E hr h => ?_)
  · obtain ⟨p, l, rfl, _⟩ := h
    rfl
  · obtain ⟨p, l, rfl, hp, q, e⟩ := h
    refine ⟨_, (pss_one (ps_for (passes_of rfl) rfl (pi_list (pv 0)) (pg_name (i := 1) sc_check_bytes.nd rfl (Or.inl rfl))
      (pss_one (ps_if (PW.pt (pw_or (pt_cmpR op_lt (pv 1) pe_int (nomark _)) (pw_or1 (pt_cmpR op_gt (pv 1) pe_int (nomark _))))) (pss_one (ps_raise rfl (takes_of rfl rfl rfl rfl) (pmk_calX0 x_NotBytes hr (by rfl) pass0))) pss_nil)))), ?_⟩
    simp only [tSeq, tIfS, tB, tVar, tRet, tRetN, tDrop, tAsg, gName, tOp, tC, tUn, rU, rI, rI0, tNext, tIf, tTest, tAnd, tOr, tNot, tAndV, tOrV, tNotV, tCons, tNil, tCal, tCalM, tCalC, tBase, tFld, sFld, sFldAug, L2.rAdd, tIsN, tNotN, rEq, rNe, scal_ii, scal_bb, scal_ss, scal_sn, scal_ns, scal_in, scal_ni, cxK, cxK2, tAug, ipI, L2.start, List.map_cons, List.map_nil, List.cons_append, List.nil_append, List.length_cons, List.length_nil, Nat.reduceAdd, Nat.reduceSub, List.replicate_zero, List.replicate_succ, List.append_nil, List.set_cons_zero, List.set_cons_succ, List.getElem?_cons_zero, List.getElem?_cons_succ, Option.some.injEq, exists_eq_left', exists_eq_left, exists_eq_right, exists_eq', V.int.injEq, V.bl.injEq, V.ref.injEq, V.str.injEq, HO.ins.injEq, and_assoc, true_and, and_true, exists_and_left, List.cons.injEq, exists_const, ne_eq, reduceCtorEq, not_false_eq_true, decide_true, decide_false, if_true, if_false, false_and, false_or, Bool.not_true, Bool.not_false, Bool.false_eq_true]
    obtain ⟨x, -, hno, -⟩ := T.errs A.cNotBytes (by simp)
    obtain ⟨Pv, hPv⟩ : ∃ Pv : Nat → L2.St → Hp → Prop, ∀ i σ H', Pv i σ H' ↔ ∃ y : Option V, σ = [some (.ref p), y] ∧ H' = H ∧ (l.take i).all byteB = true := ⟨_, fun _ _ _ => Iff.rfl⟩
    refine q_forL (a := p) (xs := intsV l) Pv (fun R h => ⟨_, rfl, h⟩) ((hPv _ _ _).mpr ⟨none, rfl, rfl, rfl⟩) (fun i σ H' _ h5 => ?_) (fun i v σ H' hi h5 => ?_) (fun σ H' h5 => ?_)
    · obtain ⟨_, _, rfl, _⟩ := (hPv _ _ _).mp h5
      exact hp
    · obtain ⟨y, rfl, rfl, ha⟩ := (hPv _ _ _).mp h5
      obtain ⟨c, hc, rfl⟩ := ints_get hi
      simp only [tSeq, tIfS, tB, tVar, tRet, tRetN, tDrop, tAsg, gName, tOp, tC, tUn, rU, rI, rI0, tNext, tIf, tTest, tAnd, tOr, tNot, tAndV, tOrV, tNotV, tCons, tNil, tCal, tCalM, tCalC, tBase, tFld, sFld, sFldAug, L2.rAdd, tIsN, tNotN, rEq, rNe, scal_ii, scal_bb, scal_ss, scal_sn, scal_ns, scal_in, scal_ni, cxK, cxK2, tAug, ipI, L2.start, List.map_cons, List.map_nil, List.cons_append, List.nil_append, List.length_cons, List.length_nil, Nat.reduceAdd, Nat.reduceSub, List.replicate_zero, List.replicate_succ, List.append_nil, List.set_cons_zero, List.set_cons_succ, List.getElem?_cons_zero, List.getElem?_cons_succ, Option.some.injEq, exists_eq_left', exists_eq_left, exists_eq_right, exists_eq', V.int.injEq, V.bl.injEq, V.ref.injEq, V.str.injEq, HO.ins.injEq, and_assoc, true_and, and_true, exists_and_left, List.cons.injEq, exists_const, ne_eq, reduceCtorEq, not_false_eq_true, decide_true, decide_false, if_true, if_false, false_and, false_or, Bool.not_true, Bool.not_false, Bool.false_eq_true]
      have bad : byteB c = false → l.all byteB = false := fun hb => by
        cases z : l.all byteB with
        | false => rfl
        | true =>
          rw [List.all_eq_true.mp z c (List.mem_of_getElem? hc)] at hb
          cases hb
      by_cases c1 : c < 0
      · simp only [c1, decide_true, if_true]
        exact mk0_ok x hno (e (bad (by unfold byteB VbsyCore.isBetween; simp; omega)))
      · simp only [c1, decide_false, if_false, Bool.false_eq_true]
        by_cases c2 : 255 < c
        · simp only [c2, decide_true, if_true]
          exact mk0_ok x hno (e (bad (by unfold byteB VbsyCore.isBetween; simp; omega)))
        · simp only [c2, decide_false, if_false, Bool.false_eq_true]
          refine (hPv _ _ _).mpr ⟨_, rfl, rfl, ?_⟩
          rw [take_get hc, List.all_append, ha]
          have hb : byteB c = true := by unfold byteB VbsyCore.isBetween; simp; omega
          simp [hb]
    · obtain ⟨y, rfl, rfl, ha⟩ := (hPv _ _ _).mp h5
      unfold intsV at ha
      rw [List.length_map, List.take_length] at ha
      exact q ha
/-- cells that rise from above b, below n -/
def risingFrom (n : Nat) : Int → List Int → Bool
  | _, [] => true
  | b, c :: l => !(decide (c ≤ b) || decide ((n : Int) ≤ c)) && risingFrom n c l
def sp_check_cells (A : Ad) (K : PySem.W.Frag) : Sp := fun vs H Q E => ∃ (a p : Addr) (f : Vbsyae.Field) (l : List Int), vs = [.ref a, .ref p] ∧ FieldAt A.cField H a f ∧ SqL K H p (intsV l) ∧
  (risingFrom (Vbsyae.cells f) (-1) l = true → Q .non H) ∧ (risingFrom (Vbsyae.cells f) (-1) l = false → ErrC A.cWrongList (-4) H E)
theorem ok_check_cells {f : Addr} {fd : FuncData} (F : Fun K "check_cells" "check_cells" s_check_cells f fd) (T : Txt K mg A) (x_WrongList : CalX P w K mg base CX0 2 "WrongList" A.cWrongList ["self"] (sp_x0 K A.cWrongList (-4))) : FnOk P w K mg base (L2.CX P w) 4 f fd ["field", "cells"] (sp_check_cells A K) := by
  refine F.okX sc_check_cells (fun vs H Q E h => ?_) (fun cdv B outer s H vs Q E hr h => ?_)
  · obtain ⟨a, p, f, l, rfl, _⟩ := h
    rfl
  · obtain ⟨a, p, fl, l, rfl, hF, hp, q, e⟩ := h
    refine ⟨_, (pss_cons (ps_set (i := 2) sc_check_cells.nd rfl (Or.inl rfl) (pe_un un_neg pe_int))
      (pss_one (ps_for (passes_of rfl) rfl (pi_list (pv 1)) (pg_name (i := 3) sc_check_cells.nd rfl (Or.inl rfl))
      (pss_cons (ps_if (PW.pt (pw_or (pt_cmpR op_le (pv 3) (pv 2) (nomark _)) (pw_or1 (pt_cmpR op_ge (pv 3) (pe_op op_mul (pe_fld (pv 0) rfl) (pe_fld (pv 0) rfl)) (nomark _))))) (pss_one (ps_raise rfl (takes_of rfl rfl rfl rfl) (pmk_calX0 x_WrongList hr (by rfl) pass0))) pss_nil)
      (pss_one (ps_set (i := 2) sc_check_cells.nd rfl (Or.inl rfl) (pv 3))))))), ?_⟩
    obtain ⟨-, -, wf, dx, wl, dl, ds, -, -, -, hA, hW, -, -⟩ := hF
    simp only [tSeq, tIfS, tB, tVar, tRet, tRetN, tDrop, tAsg, gName, tOp, tC, tUn, rU, rI, rI0, tNext, tIf, tTest, tAnd, tOr, tNot, tAndV, tOrV, tNotV, tCons, tNil, tCal, tCalM, tCalC, tBase, tFld, sFld, sFldAug, L2.rAdd, tIsN, tNotN, rEq, rNe, scal_ii, scal_bb, scal_ss, scal_sn, scal_ns, scal_in, scal_ni, cxK, cxK2, tAug, ipI, L2.start, List.map_cons, List.map_nil, List.cons_append, List.nil_append, List.length_cons, List.length_nil, Nat.reduceAdd, Nat.reduceSub, List.replicate_zero, List.replicate_succ, List.append_nil, List.set_cons_zero, List.set_cons_succ, List.getElem?_cons_zero, List.getElem?_cons_succ, Option.some.injEq, exists_eq_left', exists_eq_left, exists_eq_right, exists_eq', V.int.injEq, V.bl.injEq, V.ref.injEq, V.str.injEq, HO.ins.injEq, and_assoc, true_and, and_true, exists_and_left, List.cons.injEq, exists_const, ne_eq, reduceCtorEq, not_false_eq_true, decide_true, decide_false, if_true, if_false, false_and, false_or, Bool.not_true, Bool.not_false, Bool.false_eq_true]
    obtain ⟨x, -, hno, -⟩ := T.errs A.cWrongList (by simp)
    obtain ⟨Pv, hPv⟩ : ∃ Pv : Nat → L2.St → Hp → Prop, ∀ i σ H', Pv i σ H' ↔ ∃ (b : Int) (y : Option V), σ = [some (.ref a), some (.ref p), some (.int b), y] ∧ H' = H ∧ risingFrom (Vbsyae.cells fl) (-1) l = risingFrom (Vbsyae.cells fl) b (l.drop i) := ⟨_, fun _ _ _ => Iff.rfl⟩
    refine q_forL (a := p) (xs := intsV l) Pv (fun R h => ⟨_, rfl, h⟩) ((hPv _ _ _).mpr ⟨-1, none, rfl, rfl, rfl⟩) (fun i σ H' _ h5 => ?_) (fun i v σ H' hi h5 => ?_) (fun σ H' h5 => ?_)
    · obtain ⟨_, _, _, rfl, _⟩ := (hPv _ _ _).mp h5
      exact hp
    · obtain ⟨b, y, rfl, rfl, ha⟩ := (hPv _ _ _).mp h5
      obtain ⟨c, hc, rfl⟩ := ints_get hi
      simp only [tSeq, tIfS, tB, tVar, tRet, tRetN, tDrop, tAsg, gName, tOp, tC, tUn, rU, rI, rI0, tNext, tIf, tTest, tAnd, tOr, tNot, tAndV, tOrV, tNotV, tCons, tNil, tCal, tCalM, tCalC, tBase, tFld, sFld, sFldAug, L2.rAdd, tIsN, tNotN, rEq, rNe, scal_ii, scal_bb, scal_ss, scal_sn, scal_ns, scal_in, scal_ni, cxK, cxK2, tAug, ipI, L2.start, List.map_cons, List.map_nil, List.cons_append, List.nil_append, List.length_cons, List.length_nil, Nat.reduceAdd, Nat.reduceSub, List.replicate_zero, List.replicate_succ, List.append_nil, List.set_cons_zero, List.set_cons_succ, List.getElem?_cons_zero, List.getElem?_cons_succ, Option.some.injEq, exists_eq_left', exists_eq_left, exists_eq_right, exists_eq', V.int.injEq, V.bl.injEq, V.ref.injEq, V.str.injEq, HO.ins.injEq, and_assoc, true_and, and_true, exists_and_left, List.cons.injEq, exists_const, ne_eq, reduceCtorEq, not_false_eq_true, decide_true, decide_false, if_true, if_false, false_and, false_or, Bool.not_true, Bool.not_false, Bool.false_eq_true, T.clField, T.nRows, T.nColumns, T.nWalls, T.nDays, fF_rows, fF_cols, fF_walls, fF_days, hA]
      have hd : l.drop i = c :: l.drop (i + 1) := by
        obtain ⟨h1, h2⟩ := List.getElem?_eq_some_iff.mp hc
        rw [List.drop_eq_getElem_cons h1, h2]
      rw [hd] at ha
      have hcell : ((Vbsyae.cells fl : Nat) : Int) = (fl.rows : Int) * (fl.cols : Int) := by
        unfold Vbsyae.cells
        simp
      have hr8 := wf.r8
      have hc8 := wf.c8
      by_cases c1 : c ≤ b
      · simp only [c1, decide_true, if_true]
        refine mk0_ok x hno (e ?_)
        rw [ha]
        simp [risingFrom, c1]
      · simp only [c1, decide_false, if_false, Bool.false_eq_true]
        refine ⟨Or.inl ⟨by omega, by omega⟩, ?_⟩
        by_cases c2 : (fl.rows : Int) * (fl.cols : Int) ≤ c
        · simp only [c2, decide_true, if_true]
          refine mk0_ok x hno (e ?_)
          rw [ha]
          simp [risingFrom, hcell, c2]
        · simp only [c2, decide_false, if_false, Bool.false_eq_true]
          refine (hPv _ _ _).mpr ⟨c, _, rfl, rfl, ?_⟩
          rw [ha]
          simp [risingFrom, hcell, c1, c2]
    · obtain ⟨b, y, rfl, rfl, ha⟩ := (hPv _ _ _).mp h5
      unfold intsV at ha
      rw [List.length_map, List.drop_length] at ha
      exact q ha
end
end HF
namespace HF
open PySem PySem.Spec PyProof.Rows L2
abbrev s_Field___init__ : Stmt := inClass (top 8) 0
theorem sc_Field___init__ : FnScope ["self"] ["self"] (defScope s_Field___init__) := ⟨rfl, rfl, rfl, by decide +kernel, rfl, by decide +kernel, by decide +kernel⟩
abbrev s_Field_become : Stmt := inClass (top 8) 1
theorem sc_Field_become : FnScope ["self", "other"] ["self", "other"] (defScope s_Field_become) := ⟨rfl, rfl, rfl, by decide +kernel, rfl, by decide +kernel, by decide +kernel⟩
section
variable {P : Program} {w : World} {K : PySem.W.Frag} {mg : Str → Option Value} {base : Heap} {A : Ad}
theorem ne_rc : ¬ (("rows" : Str) = "columns") := by decide +kernel
theorem ne_rw : ¬ (("rows" : Str) = "walls") := by decide +kernel
theorem ne_rd : ¬ (("rows" : Str) = "days") := by decide +kernel
theorem ne_cw : ¬ (("columns" : Str) = "walls") := by decide +kernel
theorem ne_cd : ¬ (("columns" : Str) = "days") := by decide +kernel
theorem ne_wd : ¬ (("walls" : Str) = "days") := by decide +kernel
theorem put_rows (f : Vbsyae.Field) (w d : Addr) (n : Nat) : putF "rows" (.int n) (fF f w d) = fF { f with rows := n } w d := by
  unfold fF
  simp [putF]
theorem put_cols (f : Vbsyae.Field) (w d : Addr) (n : Nat) : putF "columns" (.int n) (fF f w d) = fF { f with cols := n } w d := by
  unfold fF
  simp [putF, ne_rc]
theorem put_walls (f : Vbsyae.Field) (w d w' : Addr) : putF "walls" (.ref w') (fF f w d) = fF f w' d := by
  unfold fF
  simp [putF, ne_rw, ne_cw]
theorem put_days (f : Vbsyae.Field) (w d d' : Addr) : putF "days" (.ref d') (fF f w d) = fF f w d' := by
  unfold fF
  simp [putF, ne_rd, ne_cd, ne_wd]
theorem put_new (w d : Addr) : putF "days" (.ref d) (putF "walls" (.ref w) (putF "columns" (.int 1) (putF "rows" (.int 1) []))) = fF Vbsyae.start w d := by
  unfold fF Vbsyae.start
  simp [putF, ne_rc, ne_rw, ne_rd, ne_cw, ne_cd, ne_wd]
theorem fF_any {f g : Vbsyae.Field} {w d : Addr} (h1 : f.rows = g.rows) (h2 : f.cols = g.cols) : fF f w d = fF g w d := by
  unfold fF
  rw [h1, h2]
theorem fF_len (f : Vbsyae.Field) (w d : Addr) : (fF f w d).length < 1000 := by
  show 4 < 1000
  decide
def sp_Field_init (C : Addr) : Sp := fun vs H Q _ => ∃ (p dx : Addr), vs = [.ref p] ∧ H p = some (.ins C dx []) ∧
  ∀ (H' : Hp) (w d : Addr), (∀ b o, H b = some o → b ≠ p → H' b = some o) → H w = none → H d = none → w ≠ d → H' p = some (.ins C dx (fF Vbsyae.start w d)) → H' w = some (.lst (Vbsyae.start.walls.map wv)) → H' d = some (.lst []) → Q .non H'
theorem ok_Field_init {f : Addr} {fd : FuncData} (F : Fun K "__init__" "Field.__init__" s_Field___init__ f fd) (T : Txt K mg A) : FnOk P w K mg base CX0 1 f fd ["self"] (sp_Field_init A.cField) := by
  refine F.ok sc_Field___init__ (fun vs H Q E h => ?_) (fun cdv B outer s H vs Q E hr h => ?_)
  · obtain ⟨p, dx, rfl, _⟩ := h
    rfl
  · obtain ⟨p, dx, rfl, hp, q⟩ := h
    refine ⟨_, (pss_cons (ps_fld (pv 0) pe_int rfl)
      (pss_cons (ps_fld (pv 0) pe_int rfl)
      (pss_cons (ps_fld (pv 0) (pe_lst (pa_cons pe_int (pa_cons pe_int (pa_cons pe_int (pa_cons pe_int pa_nil))))) rfl)
      (pss_one (ps_fld (pv 0) (pe_lst pa_nil) rfl))))), ?_⟩
    refine ⟨_, rfl, p, A.cField, dx, [], rfl, hp, T.clField, T.nRows, by decide, ?_⟩
    refine ⟨_, rfl, p, A.cField, dx, _, rfl, upd_same, T.clField, T.nColumns, by simp [putF], ?_⟩
    refine ⟨by decide, fun w nw => ?_⟩
    have npw : p ≠ w := fun z => by
      rw [z, upd_same] at nw
      cases nw
    refine ⟨_, rfl, p, A.cField, dx, _, rfl, Eq.trans (upd_ne npw) upd_same, T.clField, T.nWalls, by simp [putF, ne_rc], ?_⟩
    refine ⟨by decide, fun d nd => ?_⟩
    have npd : p ≠ d := fun z => by
      rw [z, upd_same] at nd
      cases nd
    refine ⟨_, rfl, p, A.cField, dx, _, rfl, Eq.trans (upd_ne npd) upd_same, T.clField, T.nDays, by simp [putF, ne_rc, ne_rw, ne_cw], ?_⟩
    have nwd : w ≠ d := fun z => by
      rw [← z, upd_ne (Ne.symm npw), upd_same] at nd
      cases nd
    rw [upd_ne (Ne.symm npw), upd_ne (Ne.symm npw)] at nw
    rw [upd_ne (Ne.symm npd), upd_ne (Ne.symm nwd), upd_ne (Ne.symm npd), upd_ne (Ne.symm npd)] at nd
    refine q _ w d (fun b o e nb => ?_) nw nd nwd ?_ ?_ ?_
    · rw [upd_ne nb, upd_ne (ne_of_none e nd), upd_ne nb, upd_ne (ne_of_none e nw), upd_ne nb, upd_ne nb]
      exact e
    · rw [upd_same, put_new]
    · rw [upd_ne (Ne.symm npw), upd_ne nwd, upd_ne (Ne.symm npw), upd_same]
      rfl
    · rw [upd_ne (Ne.symm npd), upd_same]
/-- a new field, by its class -/
theorem field_new {C : Addr} {F H : Hp} {x dx w d : Addr} {H' : Hp} (s0 : Same F H) (nx : H x = none) (nd : H dx = none) (ne : dx ≠ x) (k : ∀ b o, (upd (upd H dx (.own x)) x (.ins C dx [])) b = some o → b ≠ x → H' b = some o)
    (nw : (upd (upd H dx (.own x)) x (.ins C dx [])) w = none) (nd2 : (upd (upd H dx (.own x)) x (.ins C dx [])) d = none) (wd : w ≠ d) (h1 : H' x = some (.ins C dx (fF Vbsyae.start w d))) (h2 : H' w = some (.lst (Vbsyae.start.walls.map wv))) (h3 : H' d = some (.lst [])) :
    FieldIn C F H' x Vbsyae.start ∧ Same H H' := by
  have sm : Same H H' := fun b o e => k b o (by rw [upd_ne (ne_of_none e nx), upd_ne (ne_of_none e nd)]; exact e) (ne_of_none e nx)
  have free : ∀ {b : Addr}, (upd (upd H dx (.own x)) x (.ins C dx [])) b = none → H b = none := fun {b} e => by
    cases z : H b with
    | none => rfl
    | some o =>
      rw [upd_ne (ne_of_none z nx), upd_ne (ne_of_none z nd), z] at e
      cases e
  exact ⟨⟨s0.trans sm, s0.free nx, ⟨by decide, by decide, by decide, by decide, rfl, by decide, by simp [Vbsyae.start]⟩, dx, w, d, [], s0.free (free nw), s0.free (free nd2), wd, h1, h2, h3, trivial⟩, sm⟩
def sp_Field_become (A : Ad) : Sp := fun vs H Q _ => ∃ (F : Hp) (a b : Addr) (f g : Vbsyae.Field), vs = [.ref a, .ref b] ∧ FieldIn A.cField F H a f ∧ FieldAt A.cField H b g ∧ a ≠ b ∧ ∀ H', FieldIn A.cField F H' a g → Q .non H'
theorem ok_Field_become {f : Addr} {fd : FuncData} (F : Fun K "become" "Field.become" s_Field_become f fd) (T : Txt K mg A) : FnOk P w K mg base CX0 1 f fd ["self", "other"] (sp_Field_become A) := by
  refine F.ok sc_Field_become (fun vs H Q E h => ?_) (fun cdv B outer s H vs Q E hr h => ?_)
  · obtain ⟨Fr, a, b, f, g, rfl, _⟩ := h
    rfl
  · obtain ⟨Fr, a, b, f1, g, rfl, hF, hG, nab, q⟩ := h
    obtain ⟨s0, na, wf, dx, wl, dl, ds, nwl, ndl, wd, hA, hW, hD, hds⟩ := hF
    obtain ⟨-, -, wg, dx2, wl2, dl2, ds2, -, -, wd2, hB, hW2, hD2, hds2⟩ := hG
    refine ⟨_, (pss_cons (ps_fld (pv 0) (pe_fld (pv 1) rfl) rfl)
      (pss_cons (ps_fld (pv 0) (pe_fld (pv 1) rfl) rfl)
      (pss_cons (ps_fld (pv 0) (pe_callTy call_list_of (by rfl) T.list (by decide +kernel) (pa_cons (pe_fld (pv 1) rfl) pa_nil)) rfl)
      (pss_one (ps_fld (pv 0) (pe_callTy call_list_of (by rfl) T.list (by decide +kernel) (pa_cons (pe_fld (pv 1) rfl) pa_nil)) rfl))))), ?_⟩
    have nba := Ne.symm nab
    refine ⟨_, rfl, b, A.cField, dx2, _, _, rfl, hB, T.clField, T.nRows, fF_rows _ _ _, _, rfl, a, A.cField, dx, _, rfl, hA, T.clField, T.nRows, fF_len _ _ _, ?_⟩
    rw [put_rows]
    refine ⟨_, rfl, b, A.cField, dx2, _, _, rfl, Eq.trans (upd_ne nba) hB, T.clField, T.nColumns, fF_cols _ _ _, _, rfl, a, A.cField, dx, _, rfl, upd_same, T.clField, T.nColumns, fF_len _ _ _, ?_⟩
    rw [put_cols]
    have nwa : wl2 ≠ a := ne_of hW2 hA (by intro z; cases z)
    have nda : dl2 ≠ a := ne_of hD2 hA (by intro z; cases z)
    refine ⟨_, rfl, b, A.cField, dx2, _, _, rfl, Eq.trans (upd_ne nba) (Eq.trans (upd_ne nba) hB), T.clField, T.nWalls, fF_walls _ _ _, wl2, _, rfl, .inl (SqL.of (Eq.trans (upd_ne nwa) (Eq.trans (upd_ne nwa) hW2))), fun w nw => ?_⟩
    have naw : a ≠ w := fun z => by
      rw [← z, upd_same] at nw
      cases nw
    have nw0 : H w = none := by
      rw [upd_ne (Ne.symm naw), upd_ne (Ne.symm naw)] at nw
      exact nw
    refine ⟨_, rfl, a, A.cField, dx, _, rfl, Eq.trans (upd_ne naw) upd_same, T.clField, T.nWalls, fF_len _ _ _, ?_⟩
    rw [put_walls]
    have nbw : b ≠ w := ne_of_none hB nw0
    have ndw : dl2 ≠ w := ne_of_none hD2 nw0
    refine ⟨_, rfl, b, A.cField, dx2, _, _, rfl, Eq.trans (upd_ne nba) (Eq.trans (upd_ne nbw) (Eq.trans (upd_ne nba) (Eq.trans (upd_ne nba) hB))), T.clField, T.nDays, fF_days _ _ _, dl2, _, rfl, .inl (SqL.of (Eq.trans (upd_ne nda) (Eq.trans (upd_ne ndw) (Eq.trans (upd_ne nda) (Eq.trans (upd_ne nda) hD2))))), fun d nd => ?_⟩
    have nad : a ≠ d := fun z => by
      rw [← z, upd_same] at nd
      cases nd
    have nwd : w ≠ d := fun z => by
      rw [← z, upd_ne (Ne.symm naw), upd_same] at nd
      cases nd
    have nd0 : H d = none := by
      rw [upd_ne (Ne.symm nad), upd_ne (Ne.symm nwd), upd_ne (Ne.symm nad), upd_ne (Ne.symm nad)] at nd
      exact nd
    refine ⟨_, rfl, a, A.cField, dx, _, rfl, Eq.trans (upd_ne nad) upd_same, T.clField, T.nDays, fF_len _ _ _, ?_⟩
    rw [put_days]
    have keep : ∀ c o, H c = some o → c ≠ a → (upd (upd (upd (upd (upd (upd H a (.ins A.cField dx (fF { f1 with rows := g.rows } wl dl))) a (.ins A.cField dx (fF { f1 with rows := g.rows, cols := g.cols } wl dl))) w (.lst (g.walls.map wv))) a (.ins A.cField dx (fF { f1 with rows := g.rows, cols := g.cols } w dl))) d (.lst ds2)) a (.ins A.cField dx (fF { f1 with rows := g.rows, cols := g.cols } w d))) c = some o := fun c o e nc => by
      rw [upd_ne nc, upd_ne (ne_of_none e nd0), upd_ne nc, upd_ne (ne_of_none e nw0), upd_ne nc, upd_ne nc]
      exact e
    refine q _ ⟨fun c o e => keep c o (s0 c o e) (fun z => ?_), na, wg, dx, w, d, ds2, s0.free nw0, s0.free nd0, nwd, ?_, ?_, ?_, hds2.imp fun t xs e => keep t _ e (ne_of e hA (by intro z; cases z))⟩
    · rw [z, na] at e
      cases e
    · rw [upd_same]
      rfl
    · rw [upd_ne (Ne.symm naw), upd_ne nwd, upd_ne (Ne.symm naw), upd_same]
    · rw [upd_ne (Ne.symm nad), upd_same]
end
end HF
namespace HF
open PySem PySem.Spec PyProof.Rows L2
abbrev s_spelled : Stmt := top 36
theorem sc_spelled : FnScope ["text", "sign"] ["text"] (defScope s_spelled) := ⟨rfl, rfl, rfl, by decide +kernel, rfl, by decide +kernel, by decide +kernel⟩
abbrev s_words_with_places : Stmt := top 37
theorem sc_words_with_places : FnScope ["text", "words", "start", "place", "byte"] ["text"] (defScope s_words_with_places) := ⟨rfl, rfl, rfl, by decide +kernel, rfl, by decide +kernel, by decide +kernel⟩
section
variable {P : Program} {w : World} {K : PySem.W.Frag} {mg : Str → Option Value} {base : Heap} {A : Ad}
def codes (z : Str) : List Nat := z.cps.toList
def sp_spelled : Sp := fun vs H Q _ => ∃ z : Str, vs = [.str z] ∧ (codes z).length ≤ 100000 ∧ ∀ (H' : Hp) (p : Addr), Same H H' → H p = none → H' p = some (.lst (natsV (codes z))) → Q (.ref p) H'
theorem ok_spelled {f : Addr} {fd : FuncData} (F : Fun K "spelled" "spelled" s_spelled f fd) (T : Txt K mg A) : FnOk P w K mg base CX0 1 f fd ["text"] sp_spelled := by
  refine F.ok sc_spelled (fun vs H Q E h => ?_) (fun cdv B outer s H vs Q E hr h => ?_)
  · obtain ⟨z, rfl, _⟩ := h
    rfl
  · obtain ⟨z, rfl, hz, q⟩ := h
    refine ⟨_, (pss_one (ps_ret (pe_lc (own := [("sign", 1)]) (g := gName 1) (tt := tYes) rfl sc_spelled.nd (pi_str (pv 0)) (blkOk_by (own := [("sign", 1)]) (N := ["text", "sign"]) (sc := defScope s_spelled) (by decide +kernel))
      (fun _ _ _ _ _ => pg_name (i := 1) sc_spelled.nd rfl (Or.inl rfl)) (fun _ _ _ _ _ => pts_nil) (fun _ _ _ _ _ => pe_callB call_ord (by rfl) T.ord (by decide +kernel) (pa_cons (pv 1) pa_nil))))), ?_⟩
    have hsz : z.cps.size = (codes z).length := rfl
    refine ⟨_, rfl, z, rfl, fun D nD => ?_⟩
    refine lc_it walk_str (fun i H' => Same H H' ∧ H' D = some (.lst (natsV ((codes z).take i)))) ⟨same_new nD, upd_same⟩ (fun _ _ _ _ => trivial) (fun i x H1 H2 hi h5 hy => ?_) (fun H' h5 => ?_)
    · obtain ⟨rfl, c, hc, rfl⟩ := hy
      obtain ⟨s5, h5⟩ := h5
      have hc' : (codes z)[i]? = some c := by
        unfold codes
        rw [Array.getElem?_toList]
        exact hc
      refine ⟨rfl, ?_⟩
      refine ⟨_, rfl, _, rfl, rfl, _, h5, ?_, same_mut s5 nD, ?_⟩
      · unfold natsV
        rw [List.length_map, List.length_take]
        exact Nat.lt_of_le_of_lt (Nat.le_trans (Nat.min_le_right _ _) hz) (by decide)
      · rw [upd_same, take_get hc']
        unfold natsV
        rw [List.map_append]
        rfl
    · obtain ⟨s5, h5⟩ := h5
      rw [hsz, List.take_length] at h5
      exact q H' D s5 nD h5
/-! ### words with their places -/
/-- the words in the heap: each a tuple of its place and the list of its bytes -/
def WordsAt (H : Hp) : List V → List VbsyCore.Word → Prop
  | [], [] => True
  | v :: vs, x :: xs => (∃ t b, v = .ref t ∧ H t = some (.tup [.int x.1, .ref b]) ∧ H b = some (.lst (natsV x.2))) ∧ WordsAt H vs xs
  | _, _ => False
theorem WordsAt.len {H : Hp} : ∀ {vs : List V} {xs : List VbsyCore.Word}, WordsAt H vs xs → vs.length = xs.length
  | [], [], _ => rfl
  | v :: vs, x :: xs, h => congrArg (· + 1) (WordsAt.len h.2)
  | [], _ :: _, h => h.elim
  | _ :: _, [], h => h.elim
theorem WordsAt.imp {H H' : Hp} (k1 : ∀ t xs, H t = some (.tup xs) → H' t = some (.tup xs)) (k2 : ∀ t xs, H t = some (.lst xs) → H' t = some (.lst xs)) : ∀ {vs : List V} {xs : List VbsyCore.Word}, WordsAt H vs xs → WordsAt H' vs xs
  | [], [], _ => trivial
  | v :: vs, x :: xs, h => by
    obtain ⟨⟨t, b, e, h1, h2⟩, h3⟩ := h
    exact ⟨⟨t, b, e, k1 _ _ h1, k2 _ _ h2⟩, WordsAt.imp k1 k2 h3⟩
  | [], _ :: _, h => h.elim
  | _ :: _, [], h => h.elim
theorem WordsAt.on {H H' : Hp} {vs : List V} {xs : List VbsyCore.Word} (h : WordsAt H vs xs) (s : Same H H') : WordsAt H' vs xs := h.imp (fun t xs e => s _ _ e) (fun t xs e => s _ _ e)
theorem WordsAt.get {H : Hp} : ∀ {vs : List V} {xs : List VbsyCore.Word} {i : Nat} {x : VbsyCore.Word}, WordsAt H vs xs → xs[i]? = some x → ∃ t b, vs[i]? = some (.ref t) ∧ H t = some (.tup [.int x.1, .ref b]) ∧ H b = some (.lst (natsV x.2))
  | [], [], i, x, _, e => by simp at e
  | v :: vs, y :: xs, 0, x, h, e => by
    obtain ⟨⟨t, b, rfl, q⟩, _⟩ := h
    cases e
    exact ⟨t, b, rfl, q⟩
  | v :: vs, y :: xs, i + 1, x, h, e => WordsAt.get (i := i) h.2 (by simpa using e)
  | [], _ :: _, _, _, h, _ => h.elim
  | _ :: _, [], _, _, h, _ => h.elim
theorem WordsAt.snoc {H : Hp} {t b : Addr} {x : VbsyCore.Word} (ht : H t = some (.tup [.int x.1, .ref b])) (hb : H b = some (.lst (natsV x.2))) : ∀ {vs : List V} {xs : List VbsyCore.Word}, WordsAt H vs xs → WordsAt H (vs ++ [.ref t]) (xs ++ [x])
  | [], [], _ => ⟨⟨t, b, rfl, ht, hb⟩, trivial⟩
  | v :: vs, y :: xs, h => ⟨h.1, WordsAt.snoc ht hb h.2⟩
  | [], _ :: _, h => h.elim
  | _ :: _, [], h => h.elim
/-- kept but at r -/
def But (r : Addr) (H H' : Hp) : Prop := ∀ b o, H b = some o → b ≠ r → H' b = some o
theorem WordsAt.but {H H' : Hp} {r C dx : Addr} {fs : List (Str × V)} {vs : List V} {xs : List VbsyCore.Word} (h : WordsAt H vs xs) (hr : H r = some (.ins C dx fs)) (k : But r H H') : WordsAt H' vs xs :=
  h.imp (fun t xs e => k _ _ e (ne_of e hr (by intro z; cases z))) (fun t xs e => k _ _ e (ne_of e hr (by intro z; cases z)))
/-! ### the cutting, as the loop does it -/
/-- the first word begun at s, with u ahead -/
def addHead (s : Nat) (u : List Nat) : List VbsyCore.Word → List VbsyCore.Word
  | [] => []
  | (_, w) :: l => (s, u ++ w) :: l
theorem cut_head : ∀ (r : List Nat) (p : Nat), ∃ w l, VbsyCore.cut p r = (p, w) :: l
  | [], p => ⟨[], [], rfl⟩
  | c :: r, p => by
    obtain ⟨w, l, e⟩ := cut_head r (p + 1)
    by_cases c1 : c = 32
    · exact ⟨[], VbsyCore.cut (p + 1) r, by simp [VbsyCore.cut, c1]⟩
    · by_cases c2 : c = 10
      · exact ⟨[], (p, [10]) :: VbsyCore.cut (p + 1) r, by simp [VbsyCore.cut, c2]⟩
      · exact ⟨c :: w, l, by simp [VbsyCore.cut, c1, c2, e]⟩
theorem add_nil (p : Nat) (r : List Nat) : addHead p [] (VbsyCore.cut p r) = VbsyCore.cut p r := by
  obtain ⟨w, l, e⟩ := cut_head r p
  rw [e]
  rfl
theorem add_blank (s p : Nat) (u r : List Nat) : addHead s u (VbsyCore.cut p (32 :: r)) = (s, u) :: addHead (p + 1) [] (VbsyCore.cut (p + 1) r) := by
  rw [add_nil]
  simp [VbsyCore.cut, addHead]
theorem add_line (s p : Nat) (u r : List Nat) : addHead s u (VbsyCore.cut p (10 :: r)) = (s, u) :: (p, [10]) :: addHead (p + 1) [] (VbsyCore.cut (p + 1) r) := by
  rw [add_nil]
  simp [VbsyCore.cut, addHead]
theorem add_sign (s p c : Nat) (u r : List Nat) (c1 : c ≠ 32) (c2 : c ≠ 10) : addHead s u (VbsyCore.cut p (c :: r)) = addHead s (u ++ [c]) (VbsyCore.cut (p + 1) r) := by
  obtain ⟨w, l, e⟩ := cut_head r (p + 1)
  simp [VbsyCore.cut, c1, c2, e, addHead]
theorem cut_len : ∀ (r : List Nat) (p : Nat), (VbsyCore.cut p r).length ≤ 2 * r.length + 1
  | [], p => by simp [VbsyCore.cut]
  | c :: r, p => by
    have ih := cut_len r (p + 1)
    by_cases c1 : c = 32
    · simp [VbsyCore.cut, c1]
      omega
    · by_cases c2 : c = 10
      · simp [VbsyCore.cut, c2]
        omega
      · obtain ⟨w, l, e⟩ := cut_head r (p + 1)
        rw [e] at ih
        simp [VbsyCore.cut, c1, c2, e] at ih ⊢
        omega
theorem cutV_nats (l : List Nat) (s p : Nat) (hs : s ≤ p) (hp : p ≤ l.length) : cutV (natsV l) (some (s : Int)) (some (p : Int)) = natsV ((l.drop s).take (p - s)) := by
  unfold cutV natsV
  rw [List.length_map, HT.sIx_nat, HT.sIx_nat, List.map_take, List.map_drop]
  rw [Nat.min_eq_left hp, Nat.min_eq_left (Nat.le_trans hs hp)]
theorem cutV_rest (l : List Nat) (s : Nat) (hs : s ≤ l.length) : cutV (natsV l) (some (s : Int)) none = natsV (l.drop s) := by
  unfold cutV natsV
  rw [List.length_map, HT.sIx_nat, HT.sIx_none, List.map_drop, Nat.min_eq_left hs]
  rw [List.take_of_length_le]
  rw [List.length_drop, List.length_map]
  omega
/-- the list of words at p -/
def WordsL (H : Hp) (p : Addr) (ws : List VbsyCore.Word) : Prop := ∃ vs, H p = some (.lst vs) ∧ WordsAt H vs ws
/-- the words so far: G is the heap without the list itself -/
structure WSt (H : Hp) (r : Addr) (G Hc : Hp) (vs : List V) (ws : List VbsyCore.Word) : Prop where
  s1 : Same H G
  s2 : Same G Hc
  nr : G r = none
  at_ : Hc r = some (.lst vs)
  ws : WordsAt G vs ws
theorem WSt.on {H : Hp} {r : Addr} {G Hc Hd : Hp} {vs : List V} {ws : List VbsyCore.Word} (w : WSt H r G Hc vs ws) (s : Same Hc Hd) : WSt H r G Hd vs ws := ⟨w.s1, w.s2.trans s, w.nr, s _ _ w.at_, w.ws⟩
theorem WSt.push {H : Hp} {r : Addr} {G Hc : Hp} {vs : List V} {ws : List VbsyCore.Word} {b t : Addr} {s : Nat} {u : List Nat} (w : WSt H r G Hc vs ws) (nb : Hc b = none) (nt : (upd Hc b (.lst (natsV u))) t = none) :
    ∃ G', WSt H r G' (upd (upd (upd Hc b (.lst (natsV u))) t (.tup [.int s, .ref b])) r (.lst (vs ++ [.ref t]))) (vs ++ [.ref t]) (ws ++ [(s, u)]) := by
  have nbt : b ≠ t := fun z => by
    rw [← z, upd_same] at nt
    cases nt
  have nt0 : Hc t = none := by
    rw [upd_ne (Ne.symm nbt)] at nt
    exact nt
  have nrb : r ≠ b := ne_of_none w.at_ nb
  have nrt : r ≠ t := ne_of_none w.at_ nt0
  have gb : G b = none := w.s2.free nb
  have gt : G t = none := w.s2.free nt0
  have sg : Same G (upd (upd G b (.lst (natsV u))) t (.tup [.int s, .ref b])) := fun c o e => by
    rw [upd_ne (ne_of_none e gt), upd_ne (ne_of_none e gb)]
    exact e
  refine ⟨upd (upd G b (.lst (natsV u))) t (.tup [.int s, .ref b]), w.s1.trans sg, fun c o e => ?_, ?_, upd_same, (w.ws.on sg).snoc (t := t) (b := b) (x := (s, u)) upd_same ?_⟩
  · have nc : c ≠ r := fun z => by
      rw [z, upd_ne nrt, upd_ne nrb, w.nr] at e
      cases e
    rw [upd_ne nc]
    by_cases c1 : c = t
    · rw [c1, upd_same] at e ⊢
      exact e
    · rw [upd_ne c1] at e ⊢
      by_cases c2 : c = b
      · rw [c2, upd_same] at e ⊢
        exact e
      · rw [upd_ne c2] at e ⊢
        exact w.s2 _ _ e
  · rw [upd_ne nrt, upd_ne nrb]
    exact w.nr
  · rw [upd_ne nbt]
    exact upd_same
def sp_words (K : PySem.W.Frag) : Sp := fun vs H Q _ => ∃ (a : Addr) (l : List Nat), vs = [.ref a] ∧ SqL K H a (natsV l) ∧ l.length ≤ 2000 ∧ ∀ (H' : Hp) (p : Addr), Same H H' → H p = none → WordsL H' p (VbsyCore.cut 0 l) → Q (.ref p) H'
theorem ok_words {f : Addr} {fd : FuncData} (F : Fun K "words_with_places" "words_with_places" s_words_with_places f fd) (T : Txt K mg A) : FnOk P w K mg base CX0 1 f fd ["text"] (sp_words K) := by
  refine F.ok sc_words_with_places (fun vs H Q E h => ?_) (fun cdv B outer s H vs Q E hr h => ?_)
  · obtain ⟨a, l, rfl, _⟩ := h
    rfl
  · obtain ⟨a, l, rfl, ha, hl, q⟩ := h
    refine ⟨_, (pss_cons (ps_set (i := 1) sc_words_with_places.nd rfl (Or.inl rfl) (pe_lst pa_nil))
      (pss_cons (ps_set (i := 2) sc_words_with_places.nd rfl (Or.inl rfl) pe_int)
      (pss_cons (ps_for PassesOwn.never rfl (pi_enum (by rfl) T.enumerate (pa_cons (pv 0) pa_nil)) (pg_tup rfl (pgs_cons (pg_name (i := 3) sc_words_with_places.nd rfl (Or.inl rfl)) (pgs_cons (pg_name (i := 4) sc_words_with_places.nd rfl (Or.inl rfl)) pgs_nil)))
      (pss_cons (ps_if (PW.pt (pw_or (pt_cmpR op_eq (pv 4) (pe_gi T.BLANK (by rfl)) (nomark _)) (pw_or1 (pt_cmpR op_eq (pv 4) (pe_gi T.LINE_END (by rfl)) (nomark _))))) (pss_cons (ps_expr (pe_bm PySem.F.plainAttrs_list PySem.F.slot_list_append PySem.F.type_list_append mt_append (pv 1) (pa_cons (pe_tup (pa_cons (pv 2) (pa_cons (pe_slice sl_list (pv 0) (po_some (pv 2)) (po_some (pv 3))) pa_nil))) pa_nil)))
      (pss_one (ps_set (i := 2) sc_words_with_places.nd rfl (Or.inl rfl) (pe_op op_add (pv 3) pe_int)))) pss_nil)
      (pss_one (ps_if (pt_cmpR op_eq (pv 4) (pe_gi T.LINE_END (by rfl)) (nomark _)) (pss_one (ps_expr (pe_bm PySem.F.plainAttrs_list PySem.F.slot_list_append PySem.F.type_list_append mt_append (pv 1) (pa_cons (pe_tup (pa_cons (pv 3) (pa_cons (pe_lst (pa_cons (pe_gi T.LINE_END (by rfl)) pa_nil)) pa_nil))) pa_nil)))) pss_nil))))
      (pss_cons (ps_expr (pe_bm PySem.F.plainAttrs_list PySem.F.slot_list_append PySem.F.type_list_append mt_append (pv 1) (pa_cons (pe_tup (pa_cons (pv 2) (pa_cons (pe_slice sl_list (pv 0) (po_some (pv 2)) po_none) pa_nil))) pa_nil)))
      (pss_one (ps_ret (pv 1))))))), ?_⟩
    simp only [tSeq, tIfS, tB, tVar, tRet, tRetN, tDrop, tAsg, gName, tOp, tC, tUn, rU, rI, rI0, tNext, tIf, tTest, tAnd, tOr, tNot, tAndV, tOrV, tNotV, tCons, tNil, tCal, tCalM, tCalC, tBase, tFld, sFld, sFldAug, L2.rAdd, tIsN, tNotN, rEq, rNe, scal_ii, scal_bb, scal_ss, scal_sn, scal_ns, scal_in, scal_ni, cxK, cxK2, tAug, ipI, L2.start, List.map_cons, List.map_nil, List.cons_append, List.nil_append, List.length_cons, List.length_nil, Nat.reduceAdd, Nat.reduceSub, List.replicate_zero, List.replicate_succ, List.append_nil, List.set_cons_zero, List.set_cons_succ, List.getElem?_cons_zero, List.getElem?_cons_succ, Option.some.injEq, exists_eq_left', exists_eq_left, exists_eq_right, exists_eq', V.int.injEq, V.bl.injEq, V.ref.injEq, V.str.injEq, HO.ins.injEq, and_assoc, true_and, and_true, exists_and_left, List.cons.injEq, exists_const, ne_eq, reduceCtorEq, not_false_eq_true, decide_true, decide_false, if_true, if_false, false_and, false_or, Bool.not_true, Bool.not_false, Bool.false_eq_true, tLst]
    refine ⟨by decide, fun r nr => ?_⟩
    have s1 : Same H (upd H r (.lst [])) := same_new nr
    obtain ⟨Pv, hPv⟩ : ∃ Pv : Nat → L2.St → Hp → Prop, ∀ i σ H', Pv i σ H' ↔ ∃ (G : Hp) (vs : List V) (ws : List VbsyCore.Word) (st : Nat) (y3 y4 : Option V), σ = [some (.ref a), some (.ref r), some (.int st), y3, y4] ∧ WSt H r G H' vs ws ∧ st ≤ i ∧ i ≤ l.length ∧ ws.length ≤ 2 * i ∧
        VbsyCore.cut 0 l = ws ++ addHead st ((l.drop st).take (i - st)) (VbsyCore.cut i (l.drop i)) := ⟨_, fun _ _ _ => Iff.rfl⟩
    refine q_forE (a := a) (xs := natsV l) Pv (fun R h => ⟨_, rfl, h⟩) ((hPv _ _ _).mpr ⟨H, [], [], 0, none, none, rfl, ⟨Same.refl H, s1, nr, upd_same, trivial⟩, Nat.le_refl _, Nat.zero_le _, Nat.zero_le _, ?_⟩) (fun i σ H' _ h5 => ?_) (fun i x t σ H' hi nt h5 => ?_) (fun σ H' h5 => ?_)
    · simp [add_nil]
    · obtain ⟨G, _, _, _, _, _, _, w5, _⟩ := (hPv _ _ _).mp h5
      exact (w5.s1.trans w5.s2).seq ha
    · obtain ⟨G, vs, ws, st, y3, y4, rfl, w5, hst, hil, hwl, hcut⟩ := (hPv _ _ _).mp h5
      obtain ⟨c, hc, rfl⟩ := nats_get hi
      have hilt : i < l.length := (List.getElem?_eq_some_iff.mp hc).1
      have hd : l.drop i = c :: l.drop (i + 1) := by
        obtain ⟨h1, h2⟩ := List.getElem?_eq_some_iff.mp hc
        rw [List.drop_eq_getElem_cons h1, h2]
      rw [hd] at hcut
      have w7 := w5.on (same_new (o := .tup [.int i, .int c]) nt)
      have hT7 : (upd H' t (.tup [.int i, .int c])) t = some (.tup [.int i, .int c]) := upd_same
      generalize upd H' t (.tup [.int i, .int c]) = H7 at *
      have ha7 : SqL K H7 a (natsV l) := (w7.s1.trans w7.s2).seq ha
      have hvl : ∀ {vs : List V} {ws : List VbsyCore.Word} {G : Hp}, WordsAt G vs ws → ws.length ≤ 2 * i + 2 → vs.length < sizeLine := fun h1 h2 => by
        rw [h1.len]
        exact Nat.lt_of_le_of_lt (show _ ≤ 5000 by omega) (by decide)
      have ecut := cutV_nats l st i hst hil
      simp only [gTup]
      refine ⟨t, _, rfl, Or.inl (Or.inl hT7), rfl, ?_⟩
      simp only [gCons, gNil, tSeq, tIfS, tB, tVar, tRet, tRetN, tDrop, tAsg, gName, tOp, tC, tUn, rU, rI, rI0, tNext, tIf, tTest, tAnd, tOr, tNot, tAndV, tOrV, tNotV, tCons, tNil, tCal, tCalM, tCalC, tBase, tFld, sFld, sFldAug, L2.rAdd, tIsN, tNotN, rEq, rNe, scal_ii, scal_bb, scal_ss, scal_sn, scal_ns, scal_in, scal_ni, cxK, cxK2, tAug, ipI, L2.start, List.map_cons, List.map_nil, List.cons_append, List.nil_append, List.length_cons, List.length_nil, Nat.reduceAdd, Nat.reduceSub, List.replicate_zero, List.replicate_succ, List.append_nil, List.set_cons_zero, List.set_cons_succ, List.getElem?_cons_zero, List.getElem?_cons_succ, Option.some.injEq, exists_eq_left', exists_eq_left, exists_eq_right, exists_eq', V.int.injEq, V.bl.injEq, V.ref.injEq, V.str.injEq, HO.ins.injEq, and_assoc, true_and, and_true, exists_and_left, List.cons.injEq, exists_const, ne_eq, reduceCtorEq, not_false_eq_true, decide_true, decide_false, if_true, if_false, false_and, false_or, Bool.not_true, Bool.not_false, Bool.false_eq_true, tBM, tTup, tSl, tPart, rSlL]
      -- the word that ends here
      have word : ∀ (k : V → Hp → Prop), (∀ (H8 : Hp) (G' : Hp) (vs' : List V), WSt H r G' H8 vs' (ws ++ [(st, (l.drop st).take (i - st))]) → k .non H8) →
          tyV K "list" (V.ref r) H7 ∧ ∃ x, SqL K H7 a x ∧ ∀ p, H7 p = none → 2 ≤ sizeLine ∧ ∀ p_1, upd H7 p (HO.lst (cutV x (some ↑st) (some ↑i))) p_1 = none →
            rAppend (V.ref r) [V.ref p_1] (upd (upd H7 p (HO.lst (cutV x (some ↑st) (some ↑i)))) p_1 (HO.tup [V.int ↑st, V.ref p])) k := fun k hk => by
        refine ⟨.inl ⟨rfl, _, SqL.of w7.at_⟩, _, ha7, fun b nb => ⟨by decide, fun t2 nt2 => ?_⟩⟩
        rw [ecut] at nt2 ⊢
        obtain ⟨G', w8⟩ := w7.push (s := st) nb nt2
        have nb2 := ne_of_none w7.at_ nb
        have nt3 : r ≠ t2 := fun z => by
          rw [← z, upd_ne nb2, w7.at_] at nt2
          cases nt2
        refine ⟨r, vs, _, rfl, rfl, ?_, hvl w7.ws (by omega), hk _ G' _ w8⟩
        rw [upd_ne nt3, upd_ne nb2]
        exact w7.at_
      have st1 : ((i : Int) + 1) = ((i + 1 : Nat) : Int) := by omega
      by_cases c1 : c = 32
      · subst c1
        simp only [Int.cast_ofNat_Int, decide_true, if_true]
        refine word _ fun H8 G' vs' w8 => ?_
        have e10 : decide ((32 : Int) = 10) = false := by decide
        rw [e10, if_neg Bool.false_ne_true, st1]
        refine (hPv _ _ _).mpr ⟨G', vs', _, i + 1, _, _, rfl, w8, Nat.le_refl _, hilt, by simp; omega, ?_⟩
        rw [hcut, add_blank, Nat.sub_self, List.take_zero, List.append_assoc]
        rfl
      · have c1' : decide ((c : Int) = 32) = false := decide_eq_false (by omega)
        simp only [c1', if_false, Bool.false_eq_true]
        by_cases c2 : c = 10
        · subst c2
          simp only [Int.cast_ofNat_Int, decide_true, if_true]
          refine word _ fun H8 G' vs' w8 => ?_
          simp only [tLst, tSeq, tIfS, tB, tVar, tRet, tRetN, tDrop, tAsg, gName, tOp, tC, tUn, rU, rI, rI0, tNext, tIf, tTest, tAnd, tOr, tNot, tAndV, tOrV, tNotV, tCons, tNil, tCal, tCalM, tCalC, tBase, tFld, sFld, sFldAug, L2.rAdd, tIsN, tNotN, rEq, rNe, scal_ii, scal_bb, scal_ss, scal_sn, scal_ns, scal_in, scal_ni, cxK, cxK2, tAug, ipI, L2.start, List.map_cons, List.map_nil, List.cons_append, List.nil_append, List.length_cons, List.length_nil, Nat.reduceAdd, Nat.reduceSub, List.replicate_zero, List.replicate_succ, List.append_nil, List.set_cons_zero, List.set_cons_succ, List.getElem?_cons_zero, List.getElem?_cons_succ, Option.some.injEq, exists_eq_left', exists_eq_left, exists_eq_right, exists_eq', V.int.injEq, V.bl.injEq, V.ref.injEq, V.str.injEq, HO.ins.injEq, and_assoc, true_and, and_true, exists_and_left, List.cons.injEq, exists_const, ne_eq, reduceCtorEq, not_false_eq_true, decide_true, decide_false, if_true, if_false, false_and, false_or, Bool.not_true, Bool.not_false, Bool.false_eq_true]
          refine ⟨.inl ⟨rfl, _, SqL.of w8.at_⟩, by decide, fun b nb => ⟨by decide, fun t2 nt2 => ?_⟩⟩
          obtain ⟨G2, w9⟩ := w8.push (u := [10]) (s := i) nb nt2
          have nb2 := ne_of_none w8.at_ nb
          have nt3 : r ≠ t2 := fun z => by
            rw [← z, upd_ne nb2, w8.at_] at nt2
            cases nt2
          refine ⟨r, vs', _, rfl, rfl, ?_, hvl w8.ws (by simp; omega), ?_⟩
          · rw [upd_ne nt3, upd_ne nb2]
            exact w8.at_
          · rw [st1]
            refine (hPv _ _ _).mpr ⟨G2, _, _, i + 1, _, _, rfl, w9, Nat.le_refl _, hilt, by simp; omega, ?_⟩
            rw [hcut, add_line, Nat.sub_self, List.take_zero, List.append_assoc, List.append_assoc]
            rfl
        · have c2' : decide ((c : Int) = 10) = false := decide_eq_false (by omega)
          simp only [c2', if_false, Bool.false_eq_true]
          refine (hPv _ _ _).mpr ⟨G, vs, ws, st, _, _, rfl, w7, by omega, hilt, by omega, ?_⟩
          rw [hcut, add_sign st i c _ _ c1 c2]
          congr 2
          have e1 : i + 1 - st = (i - st) + 1 := by omega
          have e2 : (l.drop st)[i - st]? = some c := by
            rw [List.getElem?_drop, Nat.add_sub_cancel' hst]
            exact hc
          rw [e1, take_get e2]
    · obtain ⟨G, vs, ws, st, y3, y4, rfl, w5, hst, hil, hwl, hcut⟩ := (hPv _ _ _).mp h5
      have hlen : (natsV l).length = l.length := by
        unfold natsV
        rw [List.length_map]
      rw [hlen] at hst hil hwl hcut
      simp only [tSeq, tIfS, tB, tVar, tRet, tRetN, tDrop, tAsg, gName, tOp, tC, tUn, rU, rI, rI0, tNext, tIf, tTest, tAnd, tOr, tNot, tAndV, tOrV, tNotV, tCons, tNil, tCal, tCalM, tCalC, tBase, tFld, sFld, sFldAug, L2.rAdd, tIsN, tNotN, rEq, rNe, scal_ii, scal_bb, scal_ss, scal_sn, scal_ns, scal_in, scal_ni, cxK, cxK2, tAug, ipI, L2.start, List.map_cons, List.map_nil, List.cons_append, List.nil_append, List.length_cons, List.length_nil, Nat.reduceAdd, Nat.reduceSub, List.replicate_zero, List.replicate_succ, List.append_nil, List.set_cons_zero, List.set_cons_succ, List.getElem?_cons_zero, List.getElem?_cons_succ, Option.some.injEq, exists_eq_left', exists_eq_left, exists_eq_right, exists_eq', V.int.injEq, V.bl.injEq, V.ref.injEq, V.str.injEq, HO.ins.injEq, and_assoc, true_and, and_true, exists_and_left, List.cons.injEq, exists_const, ne_eq, reduceCtorEq, not_false_eq_true, decide_true, decide_false, if_true, if_false, false_and, false_or, Bool.not_true, Bool.not_false, Bool.false_eq_true, tBM, tTup, tSl, tPart, tNoPart, rSlL]
      refine ⟨.inl ⟨rfl, _, SqL.of w5.at_⟩, _, (w5.s1.trans w5.s2).seq ha, fun b nb => ⟨by decide, fun t2 nt2 => ?_⟩⟩
      rw [cutV_rest l st hst] at nt2 ⊢
      obtain ⟨G', w8⟩ := w5.push (s := st) nb nt2
      have nb2 := ne_of_none w5.at_ nb
      have nt3 : r ≠ t2 := fun z => by
        rw [← z, upd_ne nb2, w5.at_] at nt2
        cases nt2
      refine ⟨r, vs, _, rfl, rfl, ?_, ?_, ?_⟩
      · rw [upd_ne nt3, upd_ne nb2]
        exact w5.at_
      · rw [w5.ws.len]
        exact Nat.lt_of_le_of_lt (show _ ≤ 5000 by omega) (by decide)
      · refine q _ r (w8.s1.trans w8.s2) nr ⟨_, w8.at_, ?_⟩
        have e : VbsyCore.cut 0 l = ws ++ [(st, l.drop st)] := by
          rw [hcut, List.drop_length]
          have e2 : (l.drop st).take (l.length - st) = l.drop st := List.take_of_length_le (by rw [List.length_drop]; exact Nat.le_refl _)
          rw [e2]
          simp [VbsyCore.cut, addHead]
        rw [e]
        exact w8.ws.on w8.s2
end
end HF
namespace HF
open PySem PySem.Spec PyProof.Rows L2
abbrev s_Reader___init__ : Stmt := inClass (top 38) 0
theorem sc_Reader___init__ : FnScope ["self", "text"] ["self", "text"] (defScope s_Reader___init__) := ⟨rfl, rfl, rfl, by decide +kernel, rfl, by decide +kernel, by decide +kernel⟩
abbrev s_Reader_at_end : Stmt := inClass (top 38) 1
theorem sc_Reader_at_end : FnScope ["self"] ["self"] (defScope s_Reader_at_end) := ⟨rfl, rfl, rfl, by decide +kernel, rfl, by decide +kernel, by decide +kernel⟩
abbrev s_Reader_refuse : Stmt := inClass (top 38) 2
theorem sc_Reader_refuse : FnScope ["self"] ["self"] (defScope s_Reader_refuse) := ⟨rfl, rfl, rfl, by decide +kernel, rfl, by decide +kernel, by decide +kernel⟩
abbrev s_Reader_sees : Stmt := inClass (top 38) 3
theorem sc_Reader_sees : FnScope ["self", "word"] ["self", "word"] (defScope s_Reader_sees) := ⟨rfl, rfl, rfl, by decide +kernel, rfl, by decide +kernel, by decide +kernel⟩
abbrev s_Reader_pass_word : Stmt := inClass (top 38) 4
theorem sc_Reader_pass_word : FnScope ["self", "word"] ["self", "word"] (defScope s_Reader_pass_word) := ⟨rfl, rfl, rfl, by decide +kernel, rfl, by decide +kernel, by decide +kernel⟩
abbrev s_Reader_pass_number : Stmt := inClass (top 38) 5
theorem sc_Reader_pass_number : FnScope ["self", "least", "most", "number"] ["self", "least", "most"] (defScope s_Reader_pass_number) := ⟨rfl, rfl, rfl, by decide +kernel, rfl, by decide +kernel, by decide +kernel⟩
abbrev s_Reader_pass_end : Stmt := inClass (top 38) 6
theorem sc_Reader_pass_end : FnScope ["self"] ["self"] (defScope s_Reader_pass_end) := ⟨rfl, rfl, rfl, by decide +kernel, rfl, by decide +kernel, by decide +kernel⟩
section
variable {P : Program} {w : World} {K : PySem.W.Frag} {mg : Str → Option Value} {base : Heap} {A : Ad}
theorem ne_lw : ¬ (("length" : Str) = "words") := by decide +kernel
theorem ne_lr : ¬ (("length" : Str) = "reached") := by decide +kernel
theorem ne_wr : ¬ (("words" : Str) = "reached") := by decide +kernel
def rF (e : Nat) (p : Addr) (i : Nat) : List (Str × V) := [("length", .int e), ("words", .ref p), ("reached", .int i)]
theorem rF_length (e : Nat) (p : Addr) (i : Nat) : (rF e p i).lookup ("length" : Str) = some (.int e) := by
  unfold rF
  simp [List.lookup]
theorem rF_words (e : Nat) (p : Addr) (i : Nat) : (rF e p i).lookup ("words" : Str) = some (.ref p) := by
  have e1 : (("words" : Str) == "length") = false := by decide +kernel
  unfold rF
  simp [List.lookup, e1]
theorem rF_reached (e : Nat) (p : Addr) (i : Nat) : (rF e p i).lookup ("reached" : Str) = some (.int i) := by
  have e1 : (("reached" : Str) == "length") = false := by decide +kernel
  have e2 : (("reached" : Str) == "words") = false := by decide +kernel
  unfold rF
  simp [List.lookup, e1, e2]
theorem rF_no (e : Nat) (p : Addr) (i : Nat) {m : Str} (h1 : (m == ("length" : Str)) = false) (h2 : (m == ("words" : Str)) = false) (h3 : (m == ("reached" : Str)) = false) : (rF e p i).lookup m = none := by
  unfold rF
  simp [List.lookup, h1, h2, h3]
theorem put_reached (e : Nat) (p : Addr) (i j : Nat) : putF "reached" (.int j) (rF e p i) = rF e p j := by
  unfold rF
  simp [putF, ne_lr, ne_wr]
theorem put_newR (e : Nat) (p : Addr) : putF "reached" (.int 0) (putF "words" (.ref p) (putF "length" (.int e) [])) = rF e p 0 := by
  unfold rF
  simp [putF, ne_lr, ne_wr, ne_lw]
def sp_Reader_init (A : Ad) (K : PySem.W.Frag) : Sp := fun vs H Q _ => ∃ (x dx a : Addr) (l : List Nat), vs = [.ref x, .ref a] ∧ H x = some (.ins A.cReader dx []) ∧ SqL K H a (natsV l) ∧ l.length ≤ 2000 ∧
  ∀ (H' : Hp) (p : Addr), But x H H' → H p = none → H' x = some (.ins A.cReader dx (rF l.length p 0)) → WordsL H' p (VbsyCore.cut 0 l) → Q .non H'
theorem ok_Reader_init {f : Addr} {fd : FuncData} (F : Fun K "__init__" "Reader.__init__" s_Reader___init__ f fd) (T : Txt K mg A) (c_words_with_places : Cal P w K mg base CX0 1 "words_with_places" ["text"] (sp_words K)) : FnOk P w K mg base CX0 2 f fd ["self", "text"] (sp_Reader_init A K) := by
  refine F.ok sc_Reader___init__ (fun vs H Q E h => ?_) (fun cdv B outer s H vs Q E hr h => ?_)
  · obtain ⟨x, dx, a, l, rfl, _⟩ := h
    rfl
  · obtain ⟨x, dx, a, l, rfl, hx, ha, hl, q⟩ := h
    refine ⟨_, (pss_cons (ps_fld (pv 0) (pe_callB call_len_seq (by rfl) T.len PySem.boot_len (pa_cons (pv 1) pa_nil)) rfl)
      (pss_cons (ps_fld (pv 0) (pe_cal c_words_with_places hr (by rfl) pass0 (pa_cons (pv 1) pa_nil)) rfl)
      (pss_one (ps_fld (pv 0) pe_int rfl)))), ?_⟩
    have hlen : (natsV l).length = l.length := by
      unfold natsV
      rw [List.length_map]
    refine ⟨_, rfl, a, _, rfl, .inl ha, _, rfl, x, A.cReader, dx, [], rfl, hx, T.clReader, T.nLength, by decide, ?_⟩
    rw [hlen]
    have ha2 : SqL K (upd H x (.ins A.cReader dx (putF "length" (.int l.length) []))) a (natsV l) := by
      rcases ha with (ha | ⟨o, ha⟩) | ha
      · exact .inl (.inl ((upd_ne (ne_of ha hx (by intro z; cases z))).trans ha))
      · exact .inl (.inr ⟨o, (upd_ne (ne_of ha hx (by intro z; cases z))).trans ha⟩)
      · exact .inr ha
    refine ⟨_, rfl, a, l, rfl, ha2, hl, fun H1 p s1 np hp => ?_⟩
    have npx : x ≠ p := fun z => by
      rw [← z, upd_same] at np
      cases np
    refine ⟨_, rfl, x, A.cReader, dx, _, rfl, s1 _ _ upd_same, T.clReader, T.nWords, by simp [putF], ?_⟩
    refine ⟨_, rfl, x, A.cReader, dx, _, rfl, upd_same, T.clReader, T.nReached, by simp [putF, ne_lw], ?_⟩
    rw [put_newR]
    have k1 : But x H1 (upd (upd H1 x (.ins A.cReader dx (putF "words" (.ref p) (putF "length" (.int l.length) [])))) x (.ins A.cReader dx (rF l.length p 0))) := fun b o e nb => by
      rw [upd_ne nb, upd_ne nb]
      exact e
    refine q _ p (fun b o e nb => k1 _ _ (s1 _ _ (by rw [upd_ne nb]; exact e)) nb) ?_ upd_same ?_
    · rw [upd_ne (Ne.symm npx)] at np
      exact np
    · obtain ⟨vs, h1, h2⟩ := hp
      exact ⟨vs, k1 _ _ h1 (Ne.symm npx), h2.but (s1 _ _ upd_same) k1⟩
/-- a reader at r -/
structure RdAt (C : Addr) (H : Hp) (r dx p : Addr) (e : Nat) (ws : List VbsyCore.Word) (i : Nat) : Prop where
  at_ : H r = some (.ins C dx (rF e p i))
  wl : WordsL H p ws
  le : i ≤ ws.length
theorem RdAt.on {C : Addr} {H H' : Hp} {r dx p : Addr} {e : Nat} {ws : List VbsyCore.Word} {i : Nat} (h : RdAt C H r dx p e ws i) (s : Same H H') : RdAt C H' r dx p e ws i := by
  obtain ⟨h1, ⟨vs, h2, h3⟩, h4⟩ := h
  exact ⟨s _ _ h1, ⟨vs, s _ _ h2, h3.on s⟩, h4⟩
def sp_at_end (A : Ad) : Sp := fun vs H Q _ => ∃ (r dx p : Addr) (e : Nat) (ws : List VbsyCore.Word) (i : Nat), vs = [.ref r] ∧ RdAt A.cReader H r dx p e ws i ∧ Q (.bl (ws.drop i).isEmpty) H
theorem isEmpty_drop (ws : List VbsyCore.Word) (i : Nat) (h : i ≤ ws.length) : (ws.drop i).isEmpty = decide ((i : Int) = (ws.length : Int)) := by
  by_cases c : i = ws.length
  · subst c
    simp
  · have : ¬ ((i : Int) = (ws.length : Int)) := by omega
    rw [decide_eq_false this]
    cases e : ws.drop i with
    | nil =>
      have h2 := congrArg List.length e
      rw [List.length_drop, List.length_nil] at h2
      omega
    | cons _ _ => rfl
theorem ok_at_end {f : Addr} {fd : FuncData} (F : Fun K "at_end" "Reader.at_end" s_Reader_at_end f fd) (T : Txt K mg A) : FnOk P w K mg base CX0 1 f fd ["self"] (sp_at_end A) := by
  refine F.ok sc_Reader_at_end (fun vs H Q E h => ?_) (fun cdv B outer s H vs Q E hr h => ?_)
  · obtain ⟨r, dx, p, e, ws, i, rfl, _⟩ := h
    rfl
  · obtain ⟨r, dx, p, e, ws, i, rfl, ⟨h1, ⟨vs, h2, h3⟩, h4⟩, q⟩ := h
    refine ⟨_, (pss_one (ps_ret (pe_cmpR op_eq (pe_fld (pv 0) rfl) (pe_callB call_len_seq (by rfl) T.len PySem.boot_len (pa_cons (pe_fld (pv 0) rfl) pa_nil)) (nomark _)))), ?_⟩
    refine ⟨_, rfl, r, A.cReader, dx, _, _, rfl, h1, T.clReader, T.nReached, rF_reached _ _ _, _, rfl, r, A.cReader, dx, _, _, rfl, h1, T.clReader, T.nWords, rF_words _ _ _, p, vs, rfl, .inl (SqL.of h2), rfl, ?_⟩
    rw [isEmpty_drop ws i h4] at q
    rw [h3.len]
    simpa using q
theorem ErrT.mono {C : Addr} {n : Int} {H H1 : Hp} {E : XK} (e : ErrT C n H E) (s : Same H H1) : ErrT C n H1 E := fun H' dd fs nd s2 h1 h2 h3 => e H' dd fs (s.free nd) (s.trans s2) h1 h2 h3
theorem ErrC.mono {C : Addr} {n : Int} {H H1 : Hp} {E : XK} (e : ErrC C n H E) (s : Same H H1) : ErrC C n H1 E := fun H' dd fs nd s2 h1 h2 => e H' dd fs (s.free nd) (s.trans s2) h1 h2
def sp_refuse (A : Ad) : Sp := fun vs H _ E => ∃ (r dx p : Addr) (e : Nat) (ws : List VbsyCore.Word) (i : Nat), vs = [.ref r] ∧ RdAt A.cReader H r dx p e ws i ∧ ErrT A.cTextFault (VbsyCore.placeOf e (ws.drop i)) H E
theorem ok_refuse {f : Addr} {fd : FuncData} (F : Fun K "refuse" "Reader.refuse" s_Reader_refuse f fd) (T : Txt K mg A) (m_Reader_at_end : CalM P w K mg base CX0 1 A.cReader "at_end" ["self"] (sp_at_end A)) (x_TextFault : CalX P w K mg base CX0 2 "TextFault" A.cTextFault ["self", "place"] (sp_x1 K A.cTextFault)) : FnOk P w K mg base (L2.CX P w) 4 f fd ["self"] (sp_refuse A) := by
  refine F.okX sc_Reader_refuse (fun vs H Q E h => ?_) (fun cdv B outer s H vs Q E hr h => ?_)
  · obtain ⟨r, dx, p, e, ws, i, rfl, _⟩ := h
    rfl
  · obtain ⟨r, dx, p, e, ws, i, rfl, hR, er⟩ := h
    refine ⟨_, (pss_cons (ps_if (pt_val (pe_calM0 T.clReader m_Reader_at_end (hr.mono (by decide)) pass0 (pv 0))) (pss_one (ps_raise rfl (takes_of rfl rfl rfl rfl) (pmk_calX x_TextFault hr (by rfl) pass0 (pa_cons (pe_fld (pv 0) rfl) pa_nil)))) pss_nil)
      (pss_one (ps_raise rfl (takes_of rfl rfl rfl rfl) (pmk_calX x_TextFault hr (by rfl) pass0 (pa_cons (pe_ix ix_tup (pe_ix ix_list (pe_fld (pv 0) rfl) (pe_fld (pv 0) rfl) (fun _ _ => rfl)) pe_int (fun _ _ => rfl)) pa_nil))))), ?_⟩
    obtain ⟨x, -, hno, hno2, -⟩ := T.errs A.cTextFault (by simp)
    have hme : (rF e p i).lookup ("at_end" : Str) = none := rF_no _ _ _ (by decide +kernel) (by decide +kernel) (by decide +kernel)
    refine ⟨_, rfl, r, dx, _, rfl, hR.at_, hme, r, dx, p, e, ws, i, rfl, hR, _, rfl, ?_⟩
    obtain ⟨h1, ⟨vs, h2, h3⟩, h4⟩ := hR
    cases hd : ws.drop i with
    | nil =>
      rw [hd] at er
      refine iteT (mk1_ok x hno hno2 (fun R h => ?_) er)
      exact ⟨_, rfl, r, A.cReader, dx, _, _, rfl, h1, T.clReader, T.nLength, rF_length _ _ _, h⟩
    | cons y ys =>
      rw [hd] at er
      have hi : ws[i]? = some y := by
        have h := congrArg List.head? hd
        rw [List.head?_drop] at h
        exact h
      obtain ⟨t, b, e1, e2, e3⟩ := h3.get hi
      refine iteF ?_
      simp only [tNext]
      refine mk1_ok x hno hno2 (n := y.1) (fun R h => ?_) er
      refine ⟨_, rfl, r, A.cReader, dx, _, _, rfl, h1, T.clReader, T.nWords, rF_words _ _ _, _, rfl, r, A.cReader, dx, _, _, rfl, h1, T.clReader, T.nReached, rF_reached _ _ _, ?_⟩
      exact ⟨p, vs, i, _, rfl, rfl, SqL.of h2, atI_nat e1, t, _, 0, _, rfl, rfl, Or.inl (Or.inl e2), rfl, h⟩
theorem dp_nats {H : Hp} {a : Addr} {l : List Nat} (h : H a = some (.lst (natsV l))) : Dp K H (.ref a) (.list ((l.map fun (n : Nat) => (n : Int)).map PyData.int)) := by
  refine .lst (SqL.of h) ?_
  have key : ∀ l : List Nat, DpAll K H (natsV l) ((l.map fun (n : Nat) => (n : Int)).map PyData.int) := fun l => by
    induction l with
    | nil => exact .nil
    | cons x l ih => exact .cons (.int _) ih
  exact key l
theorem lay_ints : ∀ ns : List Int, PyData.canLayAll0 (ns.map PyData.int) = true
  | [] => rfl
  | _ :: r => by simp [PyData.canLayAll0, PyData.canLay0, lay_ints r]
theorem deep_ints : ∀ ns : List Int, PyData.depthAll (ns.map PyData.int) = 0
  | [] => rfl
  | _ :: r => by simp [PyData.depthAll, PyData.depth, deep_ints r]
theorem shaped_nats (ns : List Int) : SeqAt.shaped (.list (ns.map PyData.int)) = true := by
  simp [SeqAt.shaped, PyData.canLay0, PyData.depth, lay_ints, deep_ints]
theorem eqv_nats : ∀ l m : List Nat, PyData.eqvAll ((l.map fun (n : Nat) => (n : Int)).map PyData.int) ((m.map fun (n : Nat) => (n : Int)).map PyData.int) = (l == m)
  | [], [] => by simp [PyData.eqvAll]
  | [], _ :: _ => by simp [PyData.eqvAll]
  | _ :: _, [] => by simp [PyData.eqvAll]
  | x :: l, y :: m => by
    have ih := eqv_nats l m
    simp only [List.map_cons, PyData.eqvAll, PyData.eqv, ih, List.cons_beq_cons]
    congr 1
    by_cases c : x = y
    · subst c
      simp
    · have c' : ¬ (x : Int) = (y : Int) := by omega
      rw [beq_eq_false_iff_ne.mpr c', beq_eq_false_iff_ne.mpr c]
def sp_sees (A : Ad) : Sp := fun vs H Q _ => ∃ (r dx p : Addr) (e : Nat) (ws : List VbsyCore.Word) (i : Nat) (z : Str), vs = [.ref r, .str z] ∧ RdAt A.cReader H r dx p e ws i ∧ (codes z).length ≤ 100 ∧ ∀ H', Same H H' → Q (.bl (VbsyCore.ahead (codes z) (ws.drop i))) H'
theorem ok_sees {f : Addr} {fd : FuncData} (F : Fun K "sees" "Reader.sees" s_Reader_sees f fd) (T : Txt K mg A) (m_Reader_at_end : CalM P w K mg base CX0 1 A.cReader "at_end" ["self"] (sp_at_end A)) (c_spelled : Cal P w K mg base CX0 1 "spelled" ["text"] sp_spelled) : FnOk P w K mg base CX0 2 f fd ["self", "word"] (sp_sees A) := by
  refine F.ok sc_Reader_sees (fun vs H Q E h => ?_) (fun cdv B outer s H vs Q E hr h => ?_)
  · obtain ⟨r, dx, p, e, ws, i, z, rfl, _⟩ := h
    rfl
  · obtain ⟨r, dx, p, e, ws, i, z, rfl, hR, hz, q⟩ := h
    refine ⟨_, (pss_one (ps_ret (pe_and (pe_not (pe_calM0 T.clReader m_Reader_at_end hr pass0 (pv 0))) (pe_one (pe_cmpR (op_eqD hr.units) (pe_ix ix_tup (pe_ix ix_list (pe_fld (pv 0) rfl) (pe_fld (pv 0) rfl) (fun _ _ => rfl)) pe_int (fun _ _ => rfl)) (pe_cal c_spelled hr (by rfl) pass0 (pa_cons (pv 1) pa_nil)) (nomark _)))))), ?_⟩
    have hme : (rF e p i).lookup ("at_end" : Str) = none := rF_no _ _ _ (by decide +kernel) (by decide +kernel) (by decide +kernel)
    refine ⟨_, rfl, r, dx, _, rfl, hR.at_, hme, r, dx, p, e, ws, i, rfl, hR, _, rfl, _, rfl, ?_⟩
    obtain ⟨h1, ⟨vs, h2, h3⟩, h4⟩ := hR
    cases hd : ws.drop i with
    | nil =>
      rw [hd] at q
      exact iteF (q H (Same.refl H))
    | cons y ys =>
      rw [hd] at q
      have hi : ws[i]? = some y := by
        have h := congrArg List.head? hd
        rw [List.head?_drop] at h
        exact h
      obtain ⟨t, b, e1, e2, e3⟩ := h3.get hi
      refine iteT ?_
      refine ⟨_, rfl, r, A.cReader, dx, _, _, rfl, h1, T.clReader, T.nWords, rF_words _ _ _, _, rfl, r, A.cReader, dx, _, _, rfl, h1, T.clReader, T.nReached, rF_reached _ _ _, ?_⟩
      refine ⟨p, vs, i, _, rfl, rfl, SqL.of h2, atI_nat e1, t, _, 1, _, rfl, rfl, Or.inl (Or.inl e2), rfl, ?_⟩
      refine ⟨_, rfl, z, rfl, by omega, fun H' u s1 nu hu => ?_⟩
      refine ⟨_, _, dp_nats (s1 _ _ e3), dp_nats hu, shaped_nats _, shaped_nats _, ?_⟩
      have ev : PyData.eqv (.list ((y.2.map fun (n : Nat) => (n : Int)).map PyData.int)) (.list (((codes z).map fun (n : Nat) => (n : Int)).map PyData.int)) = (y.2 == codes z) := by
        show PyData.eqvAll _ _ = _
        exact eqv_nats _ _
      rw [ev]
      exact q H' s1
theorem RdAt.step {C : Addr} {H H' : Hp} {r dx p : Addr} {e : Nat} {ws : List VbsyCore.Word} {i j : Nat} (h : RdAt C H r dx p e ws i) (k : But r H H') (hr : H' r = some (.ins C dx (rF e p j))) (hj : j ≤ ws.length) : RdAt C H' r dx p e ws j := by
  obtain ⟨h1, ⟨vs, h2, h3⟩, h4⟩ := h
  exact ⟨hr, ⟨vs, k _ _ h2 (ne_of h2 h1 (by intro z; cases z)), h3.but h1 k⟩, hj⟩
theorem But.of {r : Addr} {H H' : Hp} {o : HO} (s : Same H H') : But r H (upd H' r o) := fun b x e nb => by
  rw [upd_ne nb]
  exact s _ _ e
theorem RdAt.len {C : Addr} {H : Hp} {r dx p : Addr} {e : Nat} {ws : List VbsyCore.Word} {i : Nat} (_ : RdAt C H r dx p e ws i) : (rF e p i).length < 1000 := by
  show 3 < 1000
  decide
def sp_pass_word (A : Ad) : Sp := fun vs H Q E => ∃ (r dx p : Addr) (e : Nat) (ws : List VbsyCore.Word) (i : Nat) (z : Str), vs = [.ref r, .str z] ∧ RdAt A.cReader H r dx p e ws i ∧ (codes z).length ≤ 100 ∧
  (∀ rest, VbsyCore.must e (codes z) (ws.drop i) = .ok rest → ∀ H', But r H H' → H' r = some (.ins A.cReader dx (rF e p (i + 1))) → rest = ws.drop (i + 1) → i + 1 ≤ ws.length → Q .non H') ∧
  (∀ n, VbsyCore.must e (codes z) (ws.drop i) = .error n → ErrT A.cTextFault n H E)
theorem must_ahead (e : Nat) (b : VbsyCore.Bytes) (ws : List VbsyCore.Word) (i : Nat) : (VbsyCore.ahead b (ws.drop i) = true ∧ VbsyCore.must e b (ws.drop i) = .ok (ws.drop (i + 1)) ∧ i + 1 ≤ ws.length) ∨ (VbsyCore.ahead b (ws.drop i) = false ∧ VbsyCore.must e b (ws.drop i) = .error (VbsyCore.placeOf e (ws.drop i))) := by
  cases hd : ws.drop i with
  | nil => exact .inr ⟨rfl, rfl⟩
  | cons y ys =>
    have e1 : ws.drop (i + 1) = ys := by
      rw [← List.drop_drop, hd]
      rfl
    have e2 : i + 1 ≤ ws.length := by
      have h := congrArg List.length hd
      rw [List.length_drop, List.length_cons] at h
      omega
    rw [e1]
    by_cases c : y.2 = b
    · exact .inl ⟨by simp [VbsyCore.ahead, c], by simp [VbsyCore.must, c], e2⟩
    · exact .inr ⟨by simp [VbsyCore.ahead, c], by simp [VbsyCore.must, c, VbsyCore.placeOf]⟩
theorem ok_pass_word {f : Addr} {fd : FuncData} (F : Fun K "pass_word" "Reader.pass_word" s_Reader_pass_word f fd) (T : Txt K mg A) (m_Reader_sees : CalM P w K mg base CX0 2 A.cReader "sees" ["self", "word"] (sp_sees A)) (m_Reader_refuse : CalM P w K mg base (L2.CX P w) 4 A.cReader "refuse" ["self"] (sp_refuse A)) : FnOk P w K mg base (L2.CX P w) 5 f fd ["self", "word"] (sp_pass_word A) := by
  refine F.okX sc_Reader_pass_word (fun vs H Q E h => ?_) (fun cdv B outer s H vs Q E hr h => ?_)
  · obtain ⟨r, dx, p, e, ws, i, z, rfl, _⟩ := h
    rfl
  · obtain ⟨r, dx, p, e, ws, i, z, rfl, hR, hz, q, er⟩ := h
    refine ⟨_, (pss_cons (ps_if (pt_not (pt_val (pe_calM T.clReader m_Reader_sees (hr.mono (by decide)) pass0 (pv 0) (pa_cons (pv 1) pa_nil)))) (pss_one (ps_expr (pe_calM0 T.clReader m_Reader_refuse hr (passes_call (takes_of rfl rfl rfl rfl) fun _ _ _ _ h => h) (pv 0)))) pss_nil)
      (pss_one (ps_fldaug (pv 0) pe_int in_add))), ?_⟩
    have hme : (rF e p i).lookup ("sees" : Str) = none := rF_no _ _ _ (by decide +kernel) (by decide +kernel) (by decide +kernel)
    have hme2 : (rF e p i).lookup ("refuse" : Str) = none := rF_no _ _ _ (by decide +kernel) (by decide +kernel) (by decide +kernel)
    refine ⟨_, rfl, r, dx, _, rfl, hR.at_, hme, _, rfl, r, dx, p, e, ws, i, z, rfl, hR, hz, fun H1 s1 => ⟨_, rfl, ?_⟩⟩
    have hR1 := hR.on s1
    rcases must_ahead e (codes z) ws i with ⟨a1, a2, a3⟩ | ⟨a1, a2⟩
    · rw [a1]
      refine iteF ?_
      refine ⟨_, rfl, r, A.cReader, dx, _, _, rfl, hR1.at_, T.clReader, T.nReached, rF_reached _ _ _, _, _, rfl, rfl, dx, _, hR1.at_, hR1.len, ?_⟩
      have e1 : ((i : Int) + 1) = ((i + 1 : Nat) : Int) := by omega
      rw [e1, put_reached]
      exact q _ a2 _ (But.of s1) upd_same rfl a3
    · rw [a1]
      refine iteT ?_
      exact ⟨_, rfl, r, dx, _, rfl, hR1.at_, hme2, r, dx, p, e, ws, i, rfl, hR1, (er _ a2).mono s1⟩
def sp_pass_end (A : Ad) : Sp := fun vs H Q E => ∃ (r dx p : Addr) (e : Nat) (ws : List VbsyCore.Word) (i : Nat), vs = [.ref r] ∧ RdAt A.cReader H r dx p e ws i ∧ (ws.drop i = [] → Q .non H) ∧ (ws.drop i ≠ [] → ErrT A.cTextFault (VbsyCore.placeOf e (ws.drop i)) H E)
theorem ok_pass_end {f : Addr} {fd : FuncData} (F : Fun K "pass_end" "Reader.pass_end" s_Reader_pass_end f fd) (T : Txt K mg A) (m_Reader_at_end : CalM P w K mg base CX0 1 A.cReader "at_end" ["self"] (sp_at_end A)) (m_Reader_refuse : CalM P w K mg base (L2.CX P w) 4 A.cReader "refuse" ["self"] (sp_refuse A)) : FnOk P w K mg base (L2.CX P w) 5 f fd ["self"] (sp_pass_end A) := by
  refine F.okX sc_Reader_pass_end (fun vs H Q E h => ?_) (fun cdv B outer s H vs Q E hr h => ?_)
  · obtain ⟨r, dx, p, e, ws, i, rfl, _⟩ := h
    rfl
  · obtain ⟨r, dx, p, e, ws, i, rfl, hR, q, er⟩ := h
    refine ⟨_, (pss_one (ps_if (pt_not (pt_val (pe_calM0 T.clReader m_Reader_at_end (hr.mono (by decide)) pass0 (pv 0)))) (pss_one (ps_expr (pe_calM0 T.clReader m_Reader_refuse hr (passes_call (takes_of rfl rfl rfl rfl) fun _ _ _ _ h => h) (pv 0)))) pss_nil)), ?_⟩
    have hme : (rF e p i).lookup ("at_end" : Str) = none := rF_no _ _ _ (by decide +kernel) (by decide +kernel) (by decide +kernel)
    have hme2 : (rF e p i).lookup ("refuse" : Str) = none := rF_no _ _ _ (by decide +kernel) (by decide +kernel) (by decide +kernel)
    refine ⟨_, rfl, r, dx, _, rfl, hR.at_, hme, r, dx, p, e, ws, i, rfl, hR, _, rfl, ?_⟩
    cases hd : ws.drop i with
    | nil => exact iteF (q hd)
    | cons y ys =>
      refine iteT ?_
      refine ⟨_, rfl, r, dx, _, rfl, hR.at_, hme2, r, dx, p, e, ws, i, rfl, hR, er ?_⟩
      rw [hd]
      exact List.cons_ne_nil _ _
end
end HF
namespace HF
open PySem PySem.Spec PyProof.Rows L2
section
variable {P : Program} {w : World} {K : PySem.W.Frag} {mg : Str → Option Value} {base : Heap} {A : Ad}
/-! ### numbers of one sign -/
theorem fold_ge : ∀ (l : List Nat) (v : Nat), v ≤ l.foldl (fun v d => v * 10 + d) v
  | [], v => Nat.le_refl _
  | d :: l, v => Nat.le_trans (show v ≤ v * 10 + d by omega) (fold_ge l (v * 10 + d))
theorem natOf_two {w : List Nat} {n : Nat} (h2 : 2 ≤ w.length) (h : VbsyCore.natOf w = some n) : 10 ≤ n := by
  unfold VbsyCore.natOf at h
  split at h
  · cases h
  · rename_i hc
    have hn := Option.some.inj h
    match w, h2 with
    | c :: d :: r, _ =>
      have hz : VbsyCore.isZeroLed (c :: d :: r) = false := by
        cases z : VbsyCore.isZeroLed (c :: d :: r) with
        | false => rfl
        | true => exact absurd (Or.inr (Or.inr (Or.inr z))) hc
      have ha : (c :: d :: r).all VbsyCore.isDigit = true := by
        cases z : (c :: d :: r).all VbsyCore.isDigit with
        | true => rfl
        | false => exact absurd (Or.inr (Or.inr (Or.inl z))) hc
      have hc48 : c ≠ 48 := fun z => by
        subst z
        simp [VbsyCore.isZeroLed] at hz
      have hd : VbsyCore.isDigit c = true := by
        rw [List.all_cons, Bool.and_eq_true] at ha
        exact ha.1
      unfold VbsyCore.isDigit at hd
      simp at hd
      unfold VbsyCore.valueOf at hn
      simp only [List.map_cons, List.foldl_cons] at hn
      have h3 := fold_ge (r.map fun c => c - 48) ((0 * 10 + (c - 48)) * 10 + (d - 48))
      rw [hn] at h3
      omega
theorem natOf_one (c : Nat) : VbsyCore.natOf [c] = if 48 ≤ c ∧ c ≤ 57 then some (c - 48) else none := by
  unfold VbsyCore.natOf
  by_cases h : 48 ≤ c ∧ c ≤ 57
  · have hd : VbsyCore.isDigit c = true := by
      unfold VbsyCore.isDigit
      simp [h.1, h.2]
    rw [if_pos h, if_neg]
    · simp [VbsyCore.valueOf]
    · simp [hd, VbsyCore.isZeroLed, VbsyCore.MOSTDIGITS]
  · have hd : VbsyCore.isDigit c = false := by
      unfold VbsyCore.isDigit
      simp
      omega
    rw [if_neg h, if_pos]
    simp [hd]
theorem natOf_nil : VbsyCore.natOf [] = none := by
  simp [VbsyCore.natOf]
/-- what is read: the number and the words left, or the fault's place -/
theorem num_more (e lo hi : Nat) (h8 : hi ≤ 8) (y : VbsyCore.Word) (ys : List VbsyCore.Word) (h : y.2.length ≠ 1) : Vbsyae.numIn e lo hi (y :: ys) = .error y.1 := by
  unfold Vbsyae.numIn
  dsimp only
  cases hn : VbsyCore.natOf y.2 with
  | none => rfl
  | some n =>
    dsimp only
    have h2 : 2 ≤ y.2.length := by
      match z : y.2 with
      | [] => rw [z, natOf_nil] at hn; cases hn
      | [_] => rw [z] at h; exact absurd rfl h
      | _ :: _ :: _ => simp
    have h10 := natOf_two h2 hn
    rw [if_neg (by omega)]
theorem num_one (e lo hi c pl : Nat) (h8 : hi ≤ 8) (ys : List VbsyCore.Word) : Vbsyae.numIn e lo hi ((pl, [c]) :: ys) = if (lo : Int) ≤ (c : Int) - 48 ∧ (c : Int) - 48 ≤ hi then .ok (((c : Int) - 48).toNat, ys) else .error pl := by
  unfold Vbsyae.numIn
  dsimp only
  rw [natOf_one]
  by_cases h : 48 ≤ c ∧ c ≤ 57
  · rw [if_pos h]
    dsimp only
    by_cases h2 : lo ≤ c - 48 ∧ c - 48 ≤ hi
    · rw [if_pos h2, if_pos (by omega)]
      congr 2
      omega
    · rw [if_neg h2, if_neg (by omega)]
  · rw [if_neg h]
    dsimp only
    rw [if_neg (by omega)]
def sp_pass_number (A : Ad) : Sp := fun vs H Q E => ∃ (r dx p : Addr) (e : Nat) (ws : List VbsyCore.Word) (i lo hi : Nat), vs = [.ref r, .int lo, .int hi] ∧ RdAt A.cReader H r dx p e ws i ∧ hi ≤ 8 ∧
  (∀ n rest, Vbsyae.numIn e lo hi (ws.drop i) = .ok (n, rest) → ∀ H', But r H H' → H' r = some (.ins A.cReader dx (rF e p (i + 1))) → rest = ws.drop (i + 1) → i + 1 ≤ ws.length → lo ≤ n → n ≤ hi → Q (.int n) H') ∧
  (∀ n, Vbsyae.numIn e lo hi (ws.drop i) = .error n → ErrT A.cTextFault n H E)
theorem ok_pass_number {f : Addr} {fd : FuncData} (F : Fun K "pass_number" "Reader.pass_number" s_Reader_pass_number f fd) (T : Txt K mg A) (m_Reader_at_end : CalM P w K mg base CX0 1 A.cReader "at_end" ["self"] (sp_at_end A)) (m_Reader_refuse : CalM P w K mg base (L2.CX P w) 4 A.cReader "refuse" ["self"] (sp_refuse A)) : FnOk P w K mg base (L2.CX P w) 5 f fd ["self", "least", "most"] (sp_pass_number A) := by
  refine F.okX sc_Reader_pass_number (fun vs H Q E h => ?_) (fun cdv B outer s H vs Q E hr h => ?_)
  · obtain ⟨r, dx, p, e, ws, i, lo, hi, rfl, _⟩ := h
    rfl
  · obtain ⟨r, dx, p, e, ws, i, lo, hi, rfl, hR, h8, q, er⟩ := h
    refine ⟨_, (pss_cons (ps_if (PW.pt (pw_or (pt_val (pe_calM0 T.clReader m_Reader_at_end (hr.mono (by decide)) pass0 (pv 0))) (pw_or1 (pt_cmpR op_ne (pe_callB call_len_seq (by rfl) T.len PySem.boot_len (pa_cons (pe_ix ix_tup (pe_ix ix_list (pe_fld (pv 0) rfl) (pe_fld (pv 0) rfl) (fun _ _ => rfl)) pe_int (fun _ _ => rfl)) pa_nil)) pe_int (nomark _))))) (pss_one (ps_expr (pe_calM0 T.clReader m_Reader_refuse hr (passes_call (takes_of rfl rfl rfl rfl) fun _ _ _ _ h => h) (pv 0)))) pss_nil)
      (pss_cons (ps_set (i := 3) sc_Reader_pass_number.nd rfl (Or.inl rfl) (pe_op op_sub (pe_ix ix_list (pe_ix ix_tup (pe_ix ix_list (pe_fld (pv 0) rfl) (pe_fld (pv 0) rfl) (fun _ _ => rfl)) pe_int (fun _ _ => rfl)) pe_int (fun _ _ => rfl)) (pe_gi T.DIGIT_ZERO (by rfl))))
      (pss_cons (ps_if (PW.pt (pw_or (pt_cmpR op_lt (pv 3) (pv 1) (nomark _)) (pw_or1 (pt_cmpR op_gt (pv 3) (pv 2) (nomark _))))) (pss_one (ps_expr (pe_calM0 T.clReader m_Reader_refuse hr (passes_call (takes_of rfl rfl rfl rfl) fun _ _ _ _ h => h) (pv 0)))) pss_nil)
      (pss_cons (ps_fldaug (pv 0) pe_int in_add)
      (pss_one (ps_ret (pv 3))))))), ?_⟩
    have hme : (rF e p i).lookup ("at_end" : Str) = none := rF_no _ _ _ (by decide +kernel) (by decide +kernel) (by decide +kernel)
    have hme2 : (rF e p i).lookup ("refuse" : Str) = none := rF_no _ _ _ (by decide +kernel) (by decide +kernel) (by decide +kernel)
    refine ⟨_, rfl, r, dx, _, rfl, hR.at_, hme, r, dx, p, e, ws, i, rfl, hR, _, rfl, ?_⟩
    have refuse : ∀ {n : Nat} {k : VK}, Vbsyae.numIn e lo hi (ws.drop i) = .error n → n = VbsyCore.placeOf e (ws.drop i) → sp_refuse A [.ref r] H k E := fun {n k} h1 h2 => by
      subst h2
      exact ⟨r, dx, p, e, ws, i, rfl, hR, er _ h1⟩
    have hR' := hR
    obtain ⟨h1, ⟨vs, h2, h3⟩, h4⟩ := hR'
    cases hd : ws.drop i with
    | nil =>
      refine iteT (iteT ?_)
      exact ⟨_, rfl, r, dx, _, rfl, hR.at_, hme2, refuse (k := fun _ _ => True) (n := e) (by rw [hd]; rfl) (by rw [hd]; rfl)⟩
    | cons y ys =>
      have hi' : ws[i]? = some y := by
        have h := congrArg List.head? hd
        rw [List.head?_drop] at h
        exact h
      have e1 : ws.drop (i + 1) = ys := by
        rw [← List.drop_drop, hd]
        rfl
      have e2 : i + 1 ≤ ws.length := by
        have h := congrArg List.length hd
        rw [List.length_drop, List.length_cons] at h
        omega
      obtain ⟨t, b, g1, g2, g3⟩ := h3.get hi'
      refine iteF ?_
      refine ⟨_, rfl, r, A.cReader, dx, _, _, rfl, h1, T.clReader, T.nWords, rF_words _ _ _, _, rfl, r, A.cReader, dx, _, _, rfl, h1, T.clReader, T.nReached, rF_reached _ _ _, ?_⟩
      refine ⟨p, vs, i, _, rfl, rfl, SqL.of h2, atI_nat g1, t, _, 1, _, rfl, rfl, Or.inl (Or.inl g2), rfl, b, _, rfl, .inl (SqL.of g3), rfl, _, rfl, ?_⟩
      have hlen : (natsV y.2).length = y.2.length := by
        unfold natsV
        rw [List.length_map]
      rw [hlen]
      by_cases c1 : y.2.length = 1
      · have cd : (!decide (V.int ((y.2.length : Nat) : Int) = V.int 1)) = false := by
          rw [c1]
          rfl
        rw [cd]
        refine iteF ?_
        match hy : y.2, c1 with
        | [c], _ =>
          rw [hy] at g3
          refine ⟨_, rfl, r, A.cReader, dx, _, _, rfl, h1, T.clReader, T.nWords, rF_words _ _ _, _, rfl, r, A.cReader, dx, _, _, rfl, h1, T.clReader, T.nReached, rF_reached _ _ _, ?_⟩
          refine ⟨p, vs, i, _, rfl, rfl, SqL.of h2, atI_nat g1, t, _, 1, _, rfl, rfl, Or.inl (Or.inl g2), rfl, b, _, 0, _, rfl, rfl, SqL.of g3, rfl, _, _, rfl, rfl, ?_⟩
          have hnum := num_one e lo hi c y.1 h8 ys
          have hyy : (y.1, [c]) = y := by rw [← hy]
          rw [hyy, ← hd] at hnum
          simp only [tSeq, tIfS, tB, tVar, tRet, tRetN, tDrop, tAsg, gName, tOp, tC, tUn, rU, rI, rI0, tNext, tIf, tTest, tAnd, tOr, tNot, tAndV, tOrV, tNotV, tCons, tNil, tCal, tCalM, tCalC, tBase, tFld, sFld, sFldAug, L2.rAdd, tIsN, tNotN, rEq, rNe, scal_ii, scal_bb, scal_ss, scal_sn, scal_ns, scal_in, scal_ni, cxK, cxK2, tAug, ipI, L2.start, List.map_cons, List.map_nil, List.cons_append, List.nil_append, List.length_cons, List.length_nil, Nat.reduceAdd, Nat.reduceSub, List.replicate_zero, List.replicate_succ, List.append_nil, List.set_cons_zero, List.set_cons_succ, List.getElem?_cons_zero, List.getElem?_cons_succ, Option.some.injEq, exists_eq_left', exists_eq_left, exists_eq_right, exists_eq', V.int.injEq, V.bl.injEq, V.ref.injEq, V.str.injEq, HO.ins.injEq, and_assoc, true_and, and_true, exists_and_left, List.cons.injEq, exists_const, ne_eq, reduceCtorEq, not_false_eq_true, decide_true, decide_false, if_true, if_false, false_and, false_or, Bool.not_true, Bool.not_false, Bool.false_eq_true]
          have bad : ¬ ((lo : Int) ≤ (c : Int) - 48 ∧ (c : Int) - 48 ≤ hi) → ∀ k : VK, sp_refuse A [.ref r] H k E := fun hb k => by
            rw [if_neg hb] at hnum
            exact refuse hnum (by rw [hd]; rfl)
          by_cases c2 : (c : Int) - 48 < lo
          · rw [decide_eq_true c2]
            exact iteT ⟨dx, _, hR.at_, hme2, bad (by omega) _⟩
          · rw [decide_eq_false c2]
            refine iteF ?_
            by_cases c3 : (hi : Int) < (c : Int) - 48
            · rw [decide_eq_true c3]
              exact iteT ⟨dx, _, hR.at_, hme2, bad (by omega) _⟩
            · rw [decide_eq_false c3]
              refine iteF ?_
              refine ⟨A.cReader, dx, _, hR.at_, T.clReader, T.nReached, _, rF_reached _ _ _, _, rfl, dx, _, hR.at_, hR.len, ?_⟩
              have e3 : ((i : Int) + 1) = ((i + 1 : Nat) : Int) := by omega
              have e4 : (c : Int) - 48 = ((((c : Int) - 48).toNat : Nat) : Int) := by omega
              rw [e3, put_reached, e4]
              rw [if_pos (by omega)] at hnum
              exact q _ _ hnum _ (But.of (Same.refl H)) upd_same e1.symm e2 (by omega) (by omega)
      · have cd : (!decide (V.int ((y.2.length : Nat) : Int) = V.int 1)) = true := by
          rw [Bool.not_eq_true']
          exact decide_eq_false fun z => c1 (by have := V.int.inj z; omega)
        rw [cd]
        refine iteT ?_
        exact ⟨_, rfl, r, dx, _, rfl, hR.at_, hme2, refuse (k := fun _ _ => True) (n := y.1) (by rw [hd]; exact num_more e lo hi h8 y ys c1) (by rw [hd]; rfl)⟩
end
end HF
namespace HF
open PySem PySem.Spec PyProof.Rows L2
abbrev s_pass_day : Stmt := top 39
theorem sc_pass_day : FnScope ["reader", "field", "row", "column", "high", "wide"] ["reader", "field"] (defScope s_pass_day) := ⟨rfl, rfl, rfl, by decide +kernel, rfl, by decide +kernel, by decide +kernel⟩
abbrev s_read_day : Stmt := top 40
theorem sc_read_day : FnScope ["text", "field", "reader", "day"] ["text", "field"] (defScope s_read_day) := ⟨rfl, rfl, rfl, by decide +kernel, rfl, by decide +kernel, by decide +kernel⟩
section
variable {P : Program} {w : World} {K : PySem.W.Frag} {mg : Str → Option Value} {base : Heap} {A : Ad}
theorem rF_fF {e : Nat} {p : Addr} {i : Nat} {f : Vbsyae.Field} {w d : Addr} : rF e p i ≠ fF f w d := fun z => by
  have h := congrArg List.length z
  have h2 : (3 : Nat) = 4 := h
  omega
theorem FieldIn.but {C R : Addr} {F H H' : Hp} {a r dx p : Addr} {f : Vbsyae.Field} {e i : Nat} (h : FieldIn C F H a f) (hr : H r = some (.ins R dx (rF e p i))) (k : But r H H') : FieldAt C H' a f := by
  obtain ⟨s0, na, wf, dx2, w, d, ds, fw, fd, wd, e1, e2, e3, e4⟩ := h
  have nar : a ≠ r := fun z => by
    rw [z, hr] at e1
    have h2 := (HO.ins.inj (Option.some.inj e1)).2.2
    exact rF_fF h2
  refine ⟨(fun _ _ e => by cases e), rfl, wf, dx2, w, d, ds, rfl, rfl, wd, k _ _ e1 nar, k _ _ e2 (ne_of e2 hr (by intro z; cases z)), k _ _ e3 (ne_of e3 hr (by intro z; cases z)), e4.imp fun t xs q => k _ _ q (ne_of q hr (by intro z; cases z))⟩
theorem But.trans {r : Addr} {H H1 H2 : Hp} (a : But r H H1) (b : But r H1 H2) : But r H H2 := fun c o e n => b _ _ (a _ _ e n) n
theorem But.refl (r : Addr) (H : Hp) : But r H H := fun _ _ e _ => e
/-- an error that may leave the reader at r further on -/
def ErrR (r C : Addr) (n : Int) (H : Hp) (E : XK) : Prop := ∀ (H' : Hp) (dd : Addr) (fs : List (Str × V)), H dd = none → But r H H' → H' dd = some (.xd fs) → fs.lookup ("answer" : Str) = some (.int (-1000 - n)) → fs.lookup ("place" : Str) = some (.int n) → E (.ref C) (some dd) H'
theorem But.free {r : Addr} {H H' : Hp} {o : HO} {b : Addr} (k : But r H H') (hr : H' r = some o) (h : H' b = none) : H b = none := by
  cases z : H b with
  | none => rfl
  | some u =>
    have nb : b ≠ r := fun q => by
      rw [q, hr] at h
      cases h
    rw [k _ _ z nb] at h
    cases h
theorem ErrR.toT {r C : Addr} {n : Int} {H Hc : Hp} {E : XK} {o : HO} (e : ErrR r C n H E) (k : But r H Hc) (hr : Hc r = some o) : ErrT C n Hc E := fun H' dd fs nd s h1 h2 h3 => e H' dd fs (k.free hr nd) (fun b x q nb => s _ _ (k _ _ q nb)) h1 h2 h3
theorem ErrT.toR {r C : Addr} {n : Int} {H : Hp} {E : XK} (e : ErrT C n H E) (nr : H r = none) : ErrR r C n H E := fun H' dd fs nd k h1 h2 h3 => e H' dd fs nd (fun b x q => k _ _ q (ne_of_none q nr)) h1 h2 h3
theorem ErrR.on {r C : Addr} {n : Int} {H Hc : Hp} {E : XK} {o : HO} (e : ErrR r C n H E) (k : But r H Hc) (hr : Hc r = some o) : ErrR r C n Hc E := fun H' dd fs nd s h1 h2 h3 => e H' dd fs (k.free hr nd) (k.trans s) h1 h2 h3
/-- DAY, step by step -/
def dayIn (f : Vbsyae.Field) (e : Nat) (ws : List VbsyCore.Word) : Except Nat (Vbsyae.Fold × List VbsyCore.Word) :=
  if 20 ≤ f.days.length then .error (VbsyCore.placeOf e ws) else
  match VbsyCore.must e (Vbsyae.W "fold") ws with
  | .error n => .error n
  | .ok ws => match Vbsyae.numIn e 0 (f.rows - 1) ws with
    | .error n => .error n
    | .ok (r, ws) => match Vbsyae.numIn e 0 (f.cols - 1) ws with
      | .error n => .error n
      | .ok (c, ws) => match VbsyCore.must e (Vbsyae.W "high") ws with
        | .error n => .error n
        | .ok ws => match Vbsyae.numIn e 1 (f.rows - r) ws with
          | .error n => .error n
          | .ok (a, ws) => match VbsyCore.must e (Vbsyae.W "wide") ws with
            | .error n => .error n
            | .ok ws => match Vbsyae.numIn e 1 (f.cols - c) ws with
              | .error n => .error n
              | .ok (b, ws) => .ok ({ row := r, col := c, high := a, wide := b }, ws)
theorem dayIn_eq (f : Vbsyae.Field) (e : Nat) (ws : List VbsyCore.Word) : Vbsyae.foldIn f e ws = dayIn f e ws := by
  unfold Vbsyae.foldIn dayIn Vbsyae.DAYS
  split
  · rfl
  dsimp only [bind, Except.bind, pure, Except.pure]
  cases VbsyCore.must e (Vbsyae.W "fold") ws with
  | error n => rfl
  | ok ws1 =>
    dsimp only
    cases Vbsyae.numIn e 0 (f.rows - 1) ws1 with
    | error n => rfl
    | ok z1 =>
      obtain ⟨r, ws2⟩ := z1
      dsimp only
      cases Vbsyae.numIn e 0 (f.cols - 1) ws2 with
      | error n => rfl
      | ok z2 =>
        obtain ⟨c, ws3⟩ := z2
        dsimp only
        cases VbsyCore.must e (Vbsyae.W "high") ws3 with
        | error n => rfl
        | ok ws4 =>
          dsimp only
          cases Vbsyae.numIn e 1 (f.rows - r) ws4 with
          | error n => rfl
          | ok z3 =>
            obtain ⟨a, ws5⟩ := z3
            dsimp only
            cases VbsyCore.must e (Vbsyae.W "wide") ws5 with
            | error n => rfl
            | ok ws6 =>
              dsimp only
              cases Vbsyae.numIn e 1 (f.cols - c) ws6 with
              | error n => rfl
              | ok z4 =>
                obtain ⟨b, ws7⟩ := z4
                rfl
/-- a day that lies in the field -/
def DayOk (f : Vbsyae.Field) (x : Vbsyae.Fold) : Prop := x.row + x.high ≤ f.rows ∧ x.col + x.wide ≤ f.cols ∧ 1 ≤ x.high ∧ 1 ≤ x.wide
theorem W_fold : Vbsyae.W "fold" = codes "fold" := by decide +kernel
theorem W_high : Vbsyae.W "high" = codes "high" := by decide +kernel
theorem W_wide : Vbsyae.W "wide" = codes "wide" := by decide +kernel
theorem W_field : Vbsyae.W "field" = codes "field" := by decide +kernel
theorem W_walls : Vbsyae.W "walls" = codes "walls" := by decide +kernel
def sp_pass_day (A : Ad) : Sp := fun vs H Q E => ∃ (r dx p : Addr) (e : Nat) (ws : List VbsyCore.Word) (i : Nat) (a : Addr) (f : Vbsyae.Field), vs = [.ref r, .ref a] ∧ RdAt A.cReader H r dx p e ws i ∧ FieldAt A.cField H a f ∧
  (∀ x rest, Vbsyae.foldIn f e (ws.drop i) = .ok (x, rest) → ∀ (H' : Hp) (t : Addr) (j : Nat), But r H H' → H' r = some (.ins A.cReader dx (rF e p j)) → rest = ws.drop j → j ≤ ws.length → i < j → H t = none → H' t = some (.tup (dayV x)) → DayOk f x → Q (.ref t) H') ∧
  (∀ n, Vbsyae.foldIn f e (ws.drop i) = .error n → ErrR r A.cTextFault n H E)
theorem ok_pass_day {f : Addr} {fd : FuncData} (F : Fun K "pass_day" "pass_day" s_pass_day f fd) (T : Txt K mg A) (m_Reader_refuse : CalM P w K mg base (L2.CX P w) 4 A.cReader "refuse" ["self"] (sp_refuse A)) (m_Reader_pass_word : CalM P w K mg base (L2.CX P w) 5 A.cReader "pass_word" ["self", "word"] (sp_pass_word A)) (m_Reader_pass_number : CalM P w K mg base (L2.CX P w) 5 A.cReader "pass_number" ["self", "least", "most"] (sp_pass_number A)) : FnOk P w K mg base (L2.CX P w) 6 f fd ["reader", "field"] (sp_pass_day A) := by
  refine F.okX sc_pass_day (fun vs H Q E h => ?_) (fun cdv B outer s H vs Q E hr h => ?_)
  · obtain ⟨r, dx, p, e, ws, i, a, f, rfl, _⟩ := h
    rfl
  · obtain ⟨r, dx, p, e, ws, i, a, fl, rfl, hR, hF, q, er⟩ := h
    refine ⟨_, (pss_cons (ps_if (pt_cmpR op_eq (pe_callB call_len_seq (by rfl) T.len PySem.boot_len (pa_cons (pe_fld (pv 1) rfl) pa_nil)) (pe_gi T.MOST_DAYS (by rfl)) (nomark _)) (pss_one (ps_expr (pe_calM0 T.clReader m_Reader_refuse (hr.mono (by decide)) (passes_call (takes_of rfl rfl rfl rfl) fun _ _ _ _ h => h) (pv 0)))) pss_nil)
      (pss_cons (ps_expr (pe_calM T.clReader m_Reader_pass_word hr (passes_call (takes_of rfl rfl rfl rfl) fun _ _ _ _ h => h) (pv 0) (pa_cons pe_str pa_nil)))
      (pss_cons (ps_set (i := 2) sc_pass_day.nd rfl (Or.inl rfl) (pe_calM T.clReader m_Reader_pass_number hr (passes_call (takes_of rfl rfl rfl rfl) fun _ _ _ _ h => h) (pv 0) (pa_cons pe_int (pa_cons (pe_op op_sub (pe_fld (pv 1) rfl) pe_int) pa_nil))))
      (pss_cons (ps_set (i := 3) sc_pass_day.nd rfl (Or.inl rfl) (pe_calM T.clReader m_Reader_pass_number hr (passes_call (takes_of rfl rfl rfl rfl) fun _ _ _ _ h => h) (pv 0) (pa_cons pe_int (pa_cons (pe_op op_sub (pe_fld (pv 1) rfl) pe_int) pa_nil))))
      (pss_cons (ps_expr (pe_calM T.clReader m_Reader_pass_word hr (passes_call (takes_of rfl rfl rfl rfl) fun _ _ _ _ h => h) (pv 0) (pa_cons pe_str pa_nil)))
      (pss_cons (ps_set (i := 4) sc_pass_day.nd rfl (Or.inl rfl) (pe_calM T.clReader m_Reader_pass_number hr (passes_call (takes_of rfl rfl rfl rfl) fun _ _ _ _ h => h) (pv 0) (pa_cons pe_int (pa_cons (pe_op op_sub (pe_fld (pv 1) rfl) (pv 2)) pa_nil))))
      (pss_cons (ps_expr (pe_calM T.clReader m_Reader_pass_word hr (passes_call (takes_of rfl rfl rfl rfl) fun _ _ _ _ h => h) (pv 0) (pa_cons pe_str pa_nil)))
      (pss_cons (ps_set (i := 5) sc_pass_day.nd rfl (Or.inl rfl) (pe_calM T.clReader m_Reader_pass_number hr (passes_call (takes_of rfl rfl rfl rfl) fun _ _ _ _ h => h) (pv 0) (pa_cons pe_int (pa_cons (pe_op op_sub (pe_fld (pv 1) rfl) (pv 3)) pa_nil))))
      (pss_one (ps_ret (pe_tup (pa_cons (pv 2) (pa_cons (pv 3) (pa_cons (pv 4) (pa_cons (pv 5) pa_nil))))))))))))))), ?_⟩
    simp only [dayIn_eq] at q er
    unfold dayIn at q er
    have m1 : ∀ i, (rF e p i).lookup ("refuse" : Str) = none := fun i => rF_no _ _ _ (by decide +kernel) (by decide +kernel) (by decide +kernel)
    have m2 : ∀ i, (rF e p i).lookup ("pass_word" : Str) = none := fun i => rF_no _ _ _ (by decide +kernel) (by decide +kernel) (by decide +kernel)
    have m3 : ∀ i, (rF e p i).lookup ("pass_number" : Str) = none := fun i => rF_no _ _ _ (by decide +kernel) (by decide +kernel) (by decide +kernel)
    have wf := hF.wf
    have h20 := wf.d20
    have hr1 := wf.r1
    have hr8 := wf.r8
    have hc1 := wf.c1
    have hc8 := wf.c8
    have fa : ∀ {Hc : Hp}, FieldAt A.cField Hc a fl → ∃ dx w d : Addr, Hc a = some (.ins A.cField dx (fF fl w d)) := fun h => by
      obtain ⟨-, -, -, dx2, w2, d2, ds2, -, -, -, hA, -⟩ := h
      exact ⟨dx2, w2, d2, hA⟩
    obtain ⟨-, -, -, dx2, w2, d2, ds2, -, -, -, hA, -, hD, hds⟩ := id hF
    refine ⟨_, rfl, a, A.cField, dx2, _, _, rfl, hA, T.clField, T.nDays, fF_days _ _ _, d2, ds2, rfl, .inl (SqL.of hD), rfl, _, rfl, ?_⟩
    rw [hds.len]
    by_cases c20 : 20 ≤ fl.days.length
    · have c : decide (V.int ((fl.days.length : Nat) : Int) = V.int 20) = true := decide_eq_true (by congr 1; omega)
      rw [c]
      rw [if_pos c20] at er
      refine iteT ?_
      exact ⟨_, rfl, r, dx, _, rfl, hR.at_, m1 _, r, dx, p, e, ws, i, rfl, hR, (er _ rfl).toT (But.refl r H) hR.at_⟩
    have c : decide (V.int ((fl.days.length : Nat) : Int) = V.int 20) = false := decide_eq_false fun z => c20 (by have := V.int.inj z; omega)
    rw [c]
    rw [if_neg c20] at q er
    refine iteF ?_
    -- fold
    refine ⟨_, rfl, r, dx, _, rfl, hR.at_, m2 _, r, dx, p, e, ws, i, "fold", rfl, hR, by decide +kernel, fun rest hm H1 k1 g1 er1 le1 => ?_, fun n hm => ?_⟩
    rotate_left
    · rw [← W_fold] at hm
      simp only [hm] at er
      exact (er _ rfl).toT (But.refl r H) hR.at_
    rw [← W_fold] at hm
    simp only [hm] at q er
    subst er1
    have R1 := hR.step k1 g1 le1
    have F1 := hF.but hR.at_ k1
    -- row
    refine ⟨_, rfl, r, dx, _, rfl, g1, m3 _, _, rfl, ?_⟩
    obtain ⟨u1, u2, u3, huF1⟩ := fa F1
    refine ⟨a, A.cField, u1, _, _, rfl, huF1, T.clField, T.nRows, fF_rows _ _ _, _, _, rfl, rfl, r, dx, p, e, ws, i + 1, 0, fl.rows - 1, ?_, R1, by omega, fun rw rest hm H2 k2 g2 er2 le2 lo2 hi2 => ?_, fun n hm => ?_⟩
    · have : ((fl.rows : Int) - 1) = ((fl.rows - 1 : Nat) : Int) := by omega
      dsimp only
      rw [this]
      rfl
    rotate_left
    · simp only [hm] at er
      exact (er _ rfl).toT k1 g1
    simp only [hm] at q er
    subst er2
    have K2 := k1.trans k2
    have R2 := R1.step k2 g2 le2
    have F2 := F1.but g1 k2
    -- column
    refine ⟨_, rfl, r, dx, _, rfl, g2, m3 _, _, rfl, ?_⟩
    obtain ⟨u1, u2, u3, huF2⟩ := fa F2
    refine ⟨a, A.cField, u1, _, _, rfl, huF2, T.clField, T.nColumns, fF_cols _ _ _, _, _, rfl, rfl, r, dx, p, e, ws, i + 1 + 1, 0, fl.cols - 1, ?_, R2, by omega, fun cl rest hm H3 k3 g3 er3 le3 lo3 hi3 => ?_, fun n hm => ?_⟩
    · have : ((fl.cols : Int) - 1) = ((fl.cols - 1 : Nat) : Int) := by omega
      dsimp only
      rw [this]
      rfl
    rotate_left
    · simp only [hm] at er
      exact (er _ rfl).toT K2 g2
    simp only [hm] at q er
    subst er3
    have K3 := K2.trans k3
    have R3 := R2.step k3 g3 le3
    have F3 := F2.but g2 k3
    -- high
    refine ⟨_, rfl, r, dx, _, rfl, g3, m2 _, r, dx, p, e, ws, i + 1 + 1 + 1, "high", rfl, R3, by decide +kernel, fun rest hm H4 k4 g4 er4 le4 => ?_, fun n hm => ?_⟩
    rotate_left
    · rw [← W_high] at hm
      simp only [hm] at er
      exact (er _ rfl).toT K3 g3
    rw [← W_high] at hm
    simp only [hm] at q er
    subst er4
    have K4 := K3.trans k4
    have R4 := R3.step k4 g4 le4
    have F4 := F3.but g3 k4
    refine ⟨_, rfl, r, dx, _, rfl, g4, m3 _, _, rfl, ?_⟩
    obtain ⟨u1, u2, u3, huF4⟩ := fa F4
    refine ⟨a, A.cField, u1, _, _, rfl, huF4, T.clField, T.nRows, fF_rows _ _ _, _, rfl, _, _, rfl, rfl, r, dx, p, e, ws, i + 1 + 1 + 1 + 1, 1, fl.rows - rw, ?_, R4, by omega, fun hg rest hm H5 k5 g5 er5 le5 lo5 hi5 => ?_, fun n hm => ?_⟩
    · have : ((fl.rows : Int) - (rw : Int)) = ((fl.rows - rw : Nat) : Int) := by omega
      dsimp only
      rw [this]
      rfl
    rotate_left
    · simp only [hm] at er
      exact (er _ rfl).toT K4 g4
    simp only [hm] at q er
    subst er5
    have K5 := K4.trans k5
    have R5 := R4.step k5 g5 le5
    have F5 := F4.but g4 k5
    -- wide
    refine ⟨_, rfl, r, dx, _, rfl, g5, m2 _, r, dx, p, e, ws, i + 1 + 1 + 1 + 1 + 1, "wide", rfl, R5, by decide +kernel, fun rest hm H6 k6 g6 er6 le6 => ?_, fun n hm => ?_⟩
    rotate_left
    · rw [← W_wide] at hm
      simp only [hm] at er
      exact (er _ rfl).toT K5 g5
    rw [← W_wide] at hm
    simp only [hm] at q er
    subst er6
    have K6 := K5.trans k6
    have R6 := R5.step k6 g6 le6
    have F6 := F5.but g5 k6
    refine ⟨_, rfl, r, dx, _, rfl, g6, m3 _, _, rfl, ?_⟩
    obtain ⟨u1, u2, u3, huF6⟩ := fa F6
    refine ⟨a, A.cField, u1, _, _, rfl, huF6, T.clField, T.nColumns, fF_cols _ _ _, _, rfl, _, _, rfl, rfl, r, dx, p, e, ws, i + 1 + 1 + 1 + 1 + 1 + 1, 1, fl.cols - cl, ?_, R6, by omega, fun wd rest hm H7 k7 g7 er7 le7 lo7 hi7 => ?_, fun n hm => ?_⟩
    · have : ((fl.cols : Int) - (cl : Int)) = ((fl.cols - cl : Nat) : Int) := by omega
      dsimp only
      rw [this]
      rfl
    rotate_left
    · simp only [hm] at er
      exact (er _ rfl).toT K6 g6
    simp only [hm] at q er
    subst er7
    have K7 := K6.trans k7
    -- the tuple
    refine ⟨_, rfl, _, rfl, _, rfl, _, rfl, (by show 4 ≤ sizeLine; decide), fun t nt => ?_⟩
    have ntr : r ≠ t := ne_of_none g7 nt
    refine q _ _ rfl _ t _ (fun b o z nb => ?_) ?_ rfl le7 (by omega) (K7.free g7 nt) upd_same ⟨?_, ?_, lo5, lo7⟩
    · have z7 := K7 _ _ z nb
      rw [upd_ne (ne_of_none z7 nt)]
      exact z7
    · rw [upd_ne ntr]
      exact g7
    · show rw + hg ≤ fl.rows
      omega
    · show cl + wd ≤ fl.cols
      omega
theorem But.same {r : Addr} {H H' : Hp} (k : But r H H') (n : H r = none) : Same H H' := fun b o e => k _ _ e (ne_of_none e n)
def sp_read_day (A : Ad) (K : PySem.W.Frag) : Sp := fun vs H Q E => ∃ (u a : Addr) (l : List Nat) (f : Vbsyae.Field), vs = [.ref u, .ref a] ∧ SqL K H u (natsV l) ∧ l.length ≤ 2000 ∧ FieldAt A.cField H a f ∧
  (∀ x, Vbsyae.readFold f l = .ok x → ∀ (H' : Hp) (t : Addr), Same H H' → H t = none → H' t = some (.tup (dayV x)) → DayOk f x → f.days.length < 20 → Q (.ref t) H') ∧
  (∀ n, Vbsyae.readFold f l = .error n → ErrT A.cTextFault n H E)
theorem readFold_eq (f : Vbsyae.Field) (l : List Nat) : Vbsyae.readFold f l = match Vbsyae.foldIn f l.length (VbsyCore.cut 0 l) with
    | .error n => .error n
    | .ok (x, ws) => match ws with
      | [] => .ok x
      | w :: _ => .error w.1 := by
  unfold Vbsyae.readFold
  dsimp only [bind, Except.bind, pure, Except.pure]
  cases Vbsyae.foldIn f l.length (VbsyCore.cut 0 l) with
  | error n => rfl
  | ok z =>
    obtain ⟨x, ws⟩ := z
    dsimp only
    cases ws <;> rfl
theorem foldIn_few {f : Vbsyae.Field} {e : Nat} {ws : List VbsyCore.Word} {z : Vbsyae.Fold × List VbsyCore.Word} (h : Vbsyae.foldIn f e ws = .ok z) : f.days.length < 20 := by
  rw [dayIn_eq] at h
  unfold dayIn at h
  by_cases c : 20 ≤ f.days.length
  · rw [if_pos c] at h
    cases h
  · omega
theorem ok_read_day {f : Addr} {fd : FuncData} (F : Fun K "read_day" "read_day" s_read_day f fd) (T : Txt K mg A) (k_Reader : CalC P w K mg base CX0 2 "Reader" A.cReader ["self", "text"] (sp_Reader_init A K)) (c_pass_day : Cal P w K mg base (L2.CX P w) 6 "pass_day" ["reader", "field"] (sp_pass_day A)) (m_Reader_pass_end : CalM P w K mg base (L2.CX P w) 5 A.cReader "pass_end" ["self"] (sp_pass_end A)) : FnOk P w K mg base (L2.CX P w) 7 f fd ["text", "field"] (sp_read_day A K) := by
  refine F.okX sc_read_day (fun vs H Q E h => ?_) (fun cdv B outer s H vs Q E hr h => ?_)
  · obtain ⟨u, a, l, f, rfl, _⟩ := h
    rfl
  · obtain ⟨u, a, l, fl, rfl, hu, hl, hF, q, er⟩ := h
    refine ⟨_, (pss_cons (ps_set (i := 2) sc_read_day.nd rfl (Or.inl rfl) (pe_calC k_Reader (hr.mono (by decide)) (by rfl) pass0 (pa_cons (pv 0) pa_nil)))
      (pss_cons (ps_set (i := 3) sc_read_day.nd rfl (Or.inl rfl) (pe_cal c_pass_day hr (by rfl) (passes_call (takes_of rfl rfl rfl rfl) fun _ _ _ _ h => h) (pa_cons (pv 2) (pa_cons (pv 1) pa_nil))))
      (pss_cons (ps_expr (pe_calM0 T.clReader m_Reader_pass_end (hr.mono (by decide)) (passes_call (takes_of rfl rfl rfl rfl) fun _ _ _ _ h => h) (pv 2)))
      (pss_one (ps_ret (pv 3)))))), ?_⟩
    rw [readFold_eq] at q er
    refine ⟨_, rfl, fun r dx nr ndx ne => ?_⟩
    have s1 : Same H (upd (upd H dx (.own r)) r (.ins A.cReader dx [])) := fun b o e => by
      rw [upd_ne (ne_of_none e nr), upd_ne (ne_of_none e ndx)]
      exact e
    refine ⟨r, dx, u, l, rfl, upd_same, s1.seq hu, hl, fun H1 p k1 np g1 hw => ⟨rfl, ?_⟩⟩
    have S1 : Same H H1 := fun b o e => k1 _ _ (s1 _ _ e) (ne_of_none e nr)
    have R1 : RdAt A.cReader H1 r dx p l.length (VbsyCore.cut 0 l) 0 := ⟨g1, hw, Nat.zero_le _⟩
    have F1 := hF.on S1
    have e0 : (VbsyCore.cut 0 l).drop 0 = VbsyCore.cut 0 l := rfl
    have B1 : But r H H1 := fun b o e _ => S1 _ _ e
    refine ⟨_, rfl, _, rfl, r, dx, p, l.length, VbsyCore.cut 0 l, 0, a, fl, rfl, R1, F1, fun x rest hm H2 t j k2 g2 er2 le2 lt2 nt ht ok => ?_, fun n hm => ?_⟩
    rotate_left
    · rw [e0] at hm
      rw [hm] at er
      exact ((er n rfl).toR nr).on B1 g1
    rw [e0] at hm
    have few := foldIn_few hm
    rw [hm] at q er
    subst er2
    have R2 := R1.step k2 g2 le2
    have m3 : (rF l.length p j).lookup ("pass_end" : Str) = none := rF_no _ _ _ (by decide +kernel) (by decide +kernel) (by decide +kernel)
    refine ⟨_, rfl, r, dx, _, rfl, g2, m3, r, dx, p, l.length, VbsyCore.cut 0 l, j, rfl, R2, fun z => ?_, fun z => ?_⟩
    · rw [z] at q
      refine ⟨_, rfl, q x rfl H2 t (fun b o e => k2 _ _ (S1 _ _ e) (ne_of_none e nr)) (S1.free nt) ht ok few⟩
    · cases hd : (VbsyCore.cut 0 l).drop j with
      | nil => exact absurd hd z
      | cons y ys =>
        rw [hd] at er
        exact (((er y.1 rfl).toR nr).on B1 g1).toT k2 g2
end
end HF
namespace HF
open PySem PySem.Spec PyProof.Rows L2
abbrev s_read_field : Stmt := top 41
theorem sc_read_field : FnScope ["text", "reader", "field", "side", "word"] ["text"] (defScope s_read_field) := ⟨rfl, rfl, rfl, by decide +kernel, rfl, by decide +kernel, by decide +kernel⟩
section
variable {P : Program} {w : World} {K : PySem.W.Frag} {mg : Str → Option Value} {base : Heap} {A : Ad}
/-! ### the mathematics of a field's text -/
/-- the sides from lo on, as the loop takes them -/
def takeWalls : Nat → Nat → List Bool → List VbsyCore.Word → List Bool × List VbsyCore.Word
  | 0, _, l, ws => (l, ws)
  | k + 1, s, l, ws => if VbsyCore.ahead (Vbsyae.SIDES.getD s []) ws = true then takeWalls k (s + 1) (l.set s true) ws.tail else takeWalls k (s + 1) l ws
theorem sides_at {s : Nat} (h : s < 4) : Vbsyae.SIDES.findIdx? (fun x => x == Vbsyae.SIDES.getD s []) = some s ∧ Vbsyae.SIDES.getD s [] ≠ [10] := by
  have h4 : s = 0 ∨ s = 1 ∨ s = 2 ∨ s = 3 := by omega
  rcases h4 with rfl | rfl | rfl | rfl <;> decide +kernel
theorem sides_find {b : List Nat} {s : Nat} (h : Vbsyae.SIDES.findIdx? (fun x => x == b) = some s) : s < 4 ∧ b = Vbsyae.SIDES.getD s [] := by
  obtain ⟨h1, h2, _⟩ := List.findIdx?_eq_some_iff_getElem.mp h
  have hl : Vbsyae.SIDES.length = 4 := by decide +kernel
  refine ⟨by omega, ?_⟩
  have e := (beq_iff_eq.mp h2).symm
  rw [e]
  simp [List.getD, h1]
theorem lines_bad {e g : Nat} {f : Vbsyae.Field} {w : VbsyCore.Word} {r : List VbsyCore.Word} (h : w.2 ≠ [10]) : Vbsyae.linesIn e (g + 1) f (w :: r) = .error w.1 := by
  unfold Vbsyae.linesIn
  simp [VbsyCore.must, h, bind, Except.bind]
theorem walls_lines (e r c : Nat) : ∀ (k lo g : Nat) (l : List Bool) (ws : List VbsyCore.Word), lo + k = 4 → k ≤ g →
    (match Vbsyae.wallsIn e g lo l ws with
      | .error n => Except.error n
      | .ok (l, ws) => Vbsyae.linesIn e (ws.length + 1) { rows := r, cols := c, walls := l, days := [] } ws) =
    Vbsyae.linesIn e ((takeWalls k lo l ws).2.length + 1) { rows := r, cols := c, walls := (takeWalls k lo l ws).1, days := [] } (takeWalls k lo l ws).2 := by
  intro k
  induction k with
  | zero =>
    intro lo g l ws h4 hg
    show _ = Vbsyae.linesIn e (ws.length + 1) { rows := r, cols := c, walls := l, days := [] } ws
    cases g with
    | zero => rfl
    | succ g =>
      unfold Vbsyae.wallsIn
      by_cases h : ws.isEmpty = true ∨ VbsyCore.ahead [10] ws = true
      · rw [if_pos h]
      · rw [if_neg h]
        match ws, h with
        | [], h => exact absurd (Or.inl rfl) h
        | w :: rs, h =>
          have hw : w.2 ≠ [10] := fun z => h (Or.inr (by simp [VbsyCore.ahead, z]))
          rw [lines_bad hw]
          dsimp only
          cases hf : Vbsyae.SIDES.findIdx? (fun x => x == w.2) with
          | none => rfl
          | some s =>
            have hs := (sides_find hf).1
            dsimp only
            rw [if_pos (by omega)]
  | succ k ih =>
    intro lo g l ws h4 hg
    obtain ⟨g, rfl⟩ : ∃ g', g = g' + 1 := ⟨g - 1, by omega⟩
    have hlo : lo < 4 := by omega
    unfold takeWalls
    by_cases ha : VbsyCore.ahead (Vbsyae.SIDES.getD lo []) ws = true
    · rw [if_pos ha]
      match ws, ha with
      | w :: rs, ha =>
        have hw : w.2 = Vbsyae.SIDES.getD lo [] := by simpa [VbsyCore.ahead] using ha
        have ih' := ih (lo + 1) g (l.set lo true) rs (by omega) (by omega)
        rw [List.tail_cons, ← ih']
        have hst : Vbsyae.wallsIn e (g + 1) lo l (w :: rs) = Vbsyae.wallsIn e g (lo + 1) (l.set lo true) rs := by
          rw [Vbsyae.wallsIn]
          rw [if_neg]
          · rw [hw, (sides_at hlo).1]
            dsimp only
            rw [if_neg (by omega)]
          · intro h
            rcases h with h | h
            · cases h
            · have : w.2 = [10] := by simpa [VbsyCore.ahead] using h
              exact (sides_at hlo).2 (hw.symm.trans this)
        rw [hst]
    · rw [if_neg ha]
      rw [← ih (lo + 1) (g + 1) l ws (by omega) (by omega)]
      have hst : Vbsyae.wallsIn e (g + 1) lo l ws = Vbsyae.wallsIn e (g + 1) (lo + 1) l ws := by
        rw [Vbsyae.wallsIn.eq_def e (g + 1) lo l ws, Vbsyae.wallsIn.eq_def e (g + 1) (lo + 1) l ws]
        dsimp only
        by_cases h : ws.isEmpty = true ∨ VbsyCore.ahead [10] ws = true
        · rw [if_pos h, if_pos h]
        · rw [if_neg h, if_neg h]
          match ws, h, ha with
          | [], h, _ => exact absurd (Or.inl rfl) h
          | w :: rs, h, ha =>
            dsimp only
            cases hf : Vbsyae.SIDES.findIdx? (fun x => x == w.2) with
            | none => rfl
            | some s =>
              obtain ⟨hs, hb⟩ := sides_find hf
              dsimp only
              have hne : s ≠ lo := fun z => by
                subst z
                exact ha (by simp [VbsyCore.ahead, hb])
              by_cases c1 : s < lo
              · rw [if_pos c1, if_pos (by omega)]
              · rw [if_neg c1, if_neg (by omega)]
      rw [hst]
/-- a field's text, step by step -/
def fieldIn (t : List Nat) : Except Nat Vbsyae.Field :=
  match VbsyCore.must t.length (Vbsyae.W "field") (VbsyCore.cut 0 t) with
  | .error n => .error n
  | .ok ws => match Vbsyae.numIn t.length 1 8 ws with
    | .error n => .error n
    | .ok (r, ws) => match Vbsyae.numIn t.length 1 8 ws with
      | .error n => .error n
      | .ok (c, ws) => match VbsyCore.must t.length (Vbsyae.W "walls") ws with
        | .error n => .error n
        | .ok ws => Vbsyae.linesIn t.length ((takeWalls 4 0 [false, false, false, false] ws).2.length + 1) { rows := r, cols := c, walls := (takeWalls 4 0 [false, false, false, false] ws).1, days := [] } (takeWalls 4 0 [false, false, false, false] ws).2
theorem fieldIn_eq (t : List Nat) : Vbsyae.readField t = fieldIn t := by
  unfold Vbsyae.readField fieldIn Vbsyae.SIDE
  dsimp only [bind, Except.bind, pure, Except.pure]
  cases VbsyCore.must t.length (Vbsyae.W "field") (VbsyCore.cut 0 t) with
  | error n => rfl
  | ok ws1 =>
    dsimp only
    cases Vbsyae.numIn t.length 1 8 ws1 with
    | error n => rfl
    | ok z1 =>
      obtain ⟨r, ws2⟩ := z1
      dsimp only
      cases Vbsyae.numIn t.length 1 8 ws2 with
      | error n => rfl
      | ok z2 =>
        obtain ⟨c, ws3⟩ := z2
        dsimp only
        cases VbsyCore.must t.length (Vbsyae.W "walls") ws3 with
        | error n => rfl
        | ok ws4 =>
          dsimp only
          rw [← walls_lines t.length r c 4 0 4 [false, false, false, false] ws4 rfl (Nat.le_refl _)]
          cases Vbsyae.wallsIn t.length 4 0 [false, false, false, false] ws4 with
          | error n => rfl
          | ok z => rfl
theorem lines_nil {e g : Nat} {f : Vbsyae.Field} : Vbsyae.linesIn e (g + 1) f [] = .ok f := by
  unfold Vbsyae.linesIn
  rfl
theorem lines_cons {e g : Nat} {f : Vbsyae.Field} {ws : List VbsyCore.Word} (h : ws ≠ []) : Vbsyae.linesIn e (g + 1) f ws = match VbsyCore.must e [10] ws with
    | .error n => .error n
    | .ok ws => match Vbsyae.foldIn f e ws with
      | .error n => .error n
      | .ok (x, ws) => Vbsyae.linesIn e g (Vbsyae.putDay f x) ws := by
  rw [Vbsyae.linesIn]
  rw [if_neg (by cases ws with
    | nil => exact absurd rfl h
    | cons _ _ => simp)]
  dsimp only [bind, Except.bind]
  cases VbsyCore.must e [10] ws with
  | error n => rfl
  | ok ws1 =>
    dsimp only
    cases Vbsyae.foldIn f e ws1 with
    | error n => rfl
    | ok z => rfl
end
end HF
namespace HF
open PySem PySem.Spec PyProof.Rows L2
section
variable {P : Program} {w : World} {K : PySem.W.Frag} {mg : Str → Option Value} {base : Heap} {A : Ad}
/-- the field at b with all its places told -/
structure FX (C : Addr) (F H : Hp) (b : Addr) (f : Vbsyae.Field) (dx w d : Addr) (ds : List V) : Prop where
  same : Same F H
  nb : F b = none
  nw : F w = none
  nd : F d = none
  wd : w ≠ d
  wf : Wf f
  at_ : H b = some (.ins C dx (fF f w d))
  hw : H w = some (.lst (f.walls.map wv))
  hd : H d = some (.lst ds)
  hds : DaysAt H ds f.days
theorem FX.toIn {C : Addr} {F H : Hp} {b : Addr} {f : Vbsyae.Field} {dx w d : Addr} {ds : List V} (h : FX C F H b f dx w d ds) : FieldIn C F H b f := ⟨h.same, h.nb, h.wf, dx, w, d, ds, h.nw, h.nd, h.wd, h.at_, h.hw, h.hd, h.hds⟩
theorem FX.of {C : Addr} {F H : Hp} {b : Addr} {f : Vbsyae.Field} (h : FieldIn C F H b f) : ∃ dx w d ds, FX C F H b f dx w d ds := by
  obtain ⟨s, nb, wf, dx, w, d, ds, nw, nd, wd, e1, e2, e3, e4⟩ := h
  exact ⟨dx, w, d, ds, s, nb, nw, nd, wd, wf, e1, e2, e3, e4⟩
theorem FX.on {C : Addr} {F H H' : Hp} {b : Addr} {f : Vbsyae.Field} {dx w d : Addr} {ds : List V} (h : FX C F H b f dx w d ds) (s : Same H H') : FX C F H' b f dx w d ds :=
  ⟨h.same.trans s, h.nb, h.nw, h.nd, h.wd, h.wf, s _ _ h.at_, s _ _ h.hw, s _ _ h.hd, h.hds.imp fun t xs e => s _ _ e⟩
theorem FX.keep {C : Addr} {F H : Hp} {b : Addr} {f : Vbsyae.Field} {dx w d : Addr} {ds : List V} (h : FX C F H b f dx w d ds) {q : Addr} (hq : q = b ∨ q = w ∨ q = d) (o : HO) : Same F (upd H q o) := fun c x e => by
  have nc : c ≠ q := fun z => by
    rcases hq with rfl | rfl | rfl
    · rw [z, h.nb] at e; cases e
    · rw [z, h.nw] at e; cases e
    · rw [z, h.nd] at e; cases e
  rw [upd_ne nc]
  exact h.same _ _ e
theorem FX.nbw {C : Addr} {F H : Hp} {b : Addr} {f : Vbsyae.Field} {dx w d : Addr} {ds : List V} (h : FX C F H b f dx w d ds) : w ≠ b := ne_of h.hw h.at_ (by intro z; cases z)
theorem FX.nbd {C : Addr} {F H : Hp} {b : Addr} {f : Vbsyae.Field} {dx w d : Addr} {ds : List V} (h : FX C F H b f dx w d ds) : d ≠ b := ne_of h.hd h.at_ (by intro z; cases z)
theorem FX.rows {C : Addr} {F H : Hp} {b : Addr} {f : Vbsyae.Field} {dx w d : Addr} {ds : List V} (h : FX C F H b f dx w d ds) {n : Nat} (h1 : 1 ≤ n) (h8 : n ≤ 8) (h0 : f.days = []) :
    FX C F (upd H b (.ins C dx (fF { f with rows := n } w d))) b { f with rows := n } dx w d ds :=
  ⟨h.keep (.inl rfl) _, h.nb, h.nw, h.nd, h.wd, ⟨h1, h8, h.wf.c1, h.wf.c8, h.wf.w4, h.wf.d20, by rw [show ({ f with rows := n } : Vbsyae.Field).days = [] from h0]; simp⟩, upd_same, (upd_ne h.nbw).trans h.hw, (upd_ne h.nbd).trans h.hd,
    h.hds.imp fun t xs e => (upd_ne (ne_of e h.at_ (by intro z; cases z))).trans e⟩
theorem FX.cols {C : Addr} {F H : Hp} {b : Addr} {f : Vbsyae.Field} {dx w d : Addr} {ds : List V} (h : FX C F H b f dx w d ds) {n : Nat} (h1 : 1 ≤ n) (h8 : n ≤ 8) (h0 : f.days = []) :
    FX C F (upd H b (.ins C dx (fF { f with cols := n } w d))) b { f with cols := n } dx w d ds :=
  ⟨h.keep (.inl rfl) _, h.nb, h.nw, h.nd, h.wd, ⟨h.wf.r1, h.wf.r8, h1, h8, h.wf.w4, h.wf.d20, by rw [show ({ f with cols := n } : Vbsyae.Field).days = [] from h0]; simp⟩, upd_same, (upd_ne h.nbw).trans h.hw, (upd_ne h.nbd).trans h.hd,
    h.hds.imp fun t xs e => (upd_ne (ne_of e h.at_ (by intro z; cases z))).trans e⟩
theorem FX.wall {C : Addr} {F H : Hp} {b : Addr} {f : Vbsyae.Field} {dx w d : Addr} {ds : List V} (h : FX C F H b f dx w d ds) (s : Nat) :
    FX C F (upd H w (.lst ((f.walls.map wv).set s (.int 1)))) b { f with walls := f.walls.set s true } dx w d ds := by
  refine ⟨h.keep (.inr (.inl rfl)) _, h.nb, h.nw, h.nd, h.wd, ⟨h.wf.r1, h.wf.r8, h.wf.c1, h.wf.c8, by simpa using h.wf.w4, h.wf.d20, h.wf.inn⟩, (upd_ne (Ne.symm h.nbw)).trans h.at_, ?_, (upd_ne (Ne.symm h.wd)).trans h.hd,
    h.hds.imp fun t xs e => (upd_ne (ne_of e h.hw (by intro z; cases z))).trans e⟩
  rw [upd_same]
  show some (HO.lst ((f.walls.map wv).set s (wv true))) = some (HO.lst ((f.walls.set s true).map wv))
  rw [List.map_set]
theorem FX.day {C : Addr} {F H : Hp} {b : Addr} {f : Vbsyae.Field} {dx w d : Addr} {ds : List V} {t : Addr} {x : Vbsyae.Fold} (h : FX C F H b f dx w d ds) (ht : H t = some (.tup (dayV x))) (ok : DayOk f x) (few : f.days.length < 20) :
    FX C F (upd H d (.lst (ds ++ [.ref t]))) b (Vbsyae.putDay f x) dx w d (ds ++ [.ref t]) := by
  refine ⟨h.keep (.inr (.inr rfl)) _, h.nb, h.nw, h.nd, h.wd, ⟨h.wf.r1, h.wf.r8, h.wf.c1, h.wf.c8, h.wf.w4, ?_, ?_⟩, (upd_ne (Ne.symm h.nbd)).trans h.at_, (upd_ne h.wd).trans h.hw, upd_same, ?_⟩
  · show (f.days ++ [x]).length ≤ 20
    rw [List.length_append, List.length_singleton]
    omega
  · intro y hy
    have hy' : y ∈ f.days ++ [x] := hy
    rcases List.mem_append.mp hy' with z | z
    · exact h.wf.inn y z
    · rw [List.mem_singleton.mp z]
      exact ok
  · have k : ∀ t xs, H t = some (.tup xs) → (upd H d (.lst (ds ++ [.ref t]))) t = some (.tup xs) := fun t xs e => (upd_ne (ne_of e h.hd (by intro z; cases z))).trans e
    have k2 : ∀ c xs, H c = some (.tup xs) → (upd H d (.lst (ds ++ [.ref t]))) c = some (.tup xs) := fun c xs e => (upd_ne (ne_of e h.hd (by intro z; cases z))).trans e
    exact (h.hds.imp k2).snoc (k2 _ _ ht)
/-- the reader and the field that is read into: nothing of either was known to H -/
structure RS (A : Ad) (H Hc : Hp) (r rx p : Addr) (e : Nat) (ws : List VbsyCore.Word) (i : Nat) (b : Addr) (f : Vbsyae.Field) (dx w d : Addr) (ds : List V) : Prop where
  ex : ∃ F, Same H F ∧ RdAt A.cReader F r rx p e ws i ∧ FX A.cField F Hc b f dx w d ds
theorem RS.rd {A : Ad} {H Hc : Hp} {r rx p : Addr} {e : Nat} {ws : List VbsyCore.Word} {i : Nat} {b : Addr} {f : Vbsyae.Field} {dx w d : Addr} {ds : List V} (h : RS A H Hc r rx p e ws i b f dx w d ds) : RdAt A.cReader Hc r rx p e ws i := by
  obtain ⟨F, s, R, X⟩ := h.ex
  exact R.on X.same
theorem RS.fld {A : Ad} {H Hc : Hp} {r rx p : Addr} {e : Nat} {ws : List VbsyCore.Word} {i : Nat} {b : Addr} {f : Vbsyae.Field} {dx w d : Addr} {ds : List V} (h : RS A H Hc r rx p e ws i b f dx w d ds) : FX A.cField Emp Hc b f dx w d ds := by
  obtain ⟨F, s, R, X⟩ := h.ex
  exact ⟨(fun _ _ z => by cases z), rfl, rfl, rfl, X.wd, X.wf, X.at_, X.hw, X.hd, X.hds⟩
theorem RS.same {A : Ad} {H Hc : Hp} {r rx p : Addr} {e : Nat} {ws : List VbsyCore.Word} {i : Nat} {b : Addr} {f : Vbsyae.Field} {dx w d : Addr} {ds : List V} (h : RS A H Hc r rx p e ws i b f dx w d ds) : Same H Hc := by
  obtain ⟨F, s, R, X⟩ := h.ex
  exact s.trans X.same
theorem RS.on {A : Ad} {H Hc Hd : Hp} {r rx p : Addr} {e : Nat} {ws : List VbsyCore.Word} {i : Nat} {b : Addr} {f : Vbsyae.Field} {dx w d : Addr} {ds : List V} (h : RS A H Hc r rx p e ws i b f dx w d ds) (s : Same Hc Hd) : RS A H Hd r rx p e ws i b f dx w d ds := by
  obtain ⟨F, s0, R, X⟩ := h.ex
  exact ⟨F, s0, R, X.on s⟩
theorem RS.step {A : Ad} {H Hc Hd : Hp} {r rx p : Addr} {e : Nat} {ws : List VbsyCore.Word} {i j : Nat} {b : Addr} {f : Vbsyae.Field} {dx w d : Addr} {ds : List V} (h : RS A H Hc r rx p e ws i b f dx w d ds) (nr : H r = none) (k : But r Hc Hd) (hr : Hd r = some (.ins A.cReader rx (rF e p j))) (hj : j ≤ ws.length) :
    RS A H Hd r rx p e ws j b f dx w d ds := by
  obtain ⟨F, s0, R, X⟩ := h.ex
  have hc := X.same _ _ R.at_
  have nx : ∀ {q : Addr}, F q = none → q ≠ r := fun {q} n z => by
    rw [z, R.at_] at n
    cases n
  refine ⟨upd F r (.ins A.cReader rx (rF e p j)), same_mut s0 nr, R.step (fun c o z nc => ?_) upd_same hj, fun c o z => ?_, ?_, ?_, ?_, X.wd, X.wf, k _ _ X.at_ (nx X.nb), k _ _ X.hw (nx X.nw), k _ _ X.hd (nx X.nd), X.hds.imp fun t xs z => k _ _ z (ne_of z hc (by intro q; cases q))⟩
  · rw [upd_ne nc]
    exact z
  · by_cases c1 : c = r
    · rw [c1, upd_same] at z
      rw [c1, hr]
      exact z
    · rw [upd_ne c1] at z
      exact k _ _ (X.same _ _ z) c1
  · rw [upd_ne (nx X.nb)]; exact X.nb
  · rw [upd_ne (nx X.nw)]; exact X.nw
  · rw [upd_ne (nx X.nd)]; exact X.nd
end
end HF
namespace HF
open PySem PySem.Spec PyProof.Rows L2
section
variable {P : Program} {w : World} {K : PySem.W.Frag} {mg : Str → Option Value} {base : Heap} {A : Ad}
section
variable {H Hc : Hp} {r rx p : Addr} {e : Nat} {ws : List VbsyCore.Word} {i : Nat} {b : Addr} {f : Vbsyae.Field} {dx w d : Addr} {ds : List V}
theorem RS.rows (h : RS A H Hc r rx p e ws i b f dx w d ds) {n : Nat} (h1 : 1 ≤ n) (h8 : n ≤ 8) (h0 : f.days = []) : RS A H (upd Hc b (.ins A.cField dx (fF { f with rows := n } w d))) r rx p e ws i b { f with rows := n } dx w d ds := by
  obtain ⟨F, s0, R, X⟩ := h.ex
  exact ⟨F, s0, R, X.rows h1 h8 h0⟩
theorem RS.cols (h : RS A H Hc r rx p e ws i b f dx w d ds) {n : Nat} (h1 : 1 ≤ n) (h8 : n ≤ 8) (h0 : f.days = []) : RS A H (upd Hc b (.ins A.cField dx (fF { f with cols := n } w d))) r rx p e ws i b { f with cols := n } dx w d ds := by
  obtain ⟨F, s0, R, X⟩ := h.ex
  exact ⟨F, s0, R, X.cols h1 h8 h0⟩
theorem RS.wall (h : RS A H Hc r rx p e ws i b f dx w d ds) (s : Nat) : RS A H (upd Hc w (.lst ((f.walls.map wv).set s (.int 1)))) r rx p e ws i b { f with walls := f.walls.set s true } dx w d ds := by
  obtain ⟨F, s0, R, X⟩ := h.ex
  exact ⟨F, s0, R, X.wall s⟩
theorem RS.day {t : Addr} {x : Vbsyae.Fold} (h : RS A H Hc r rx p e ws i b f dx w d ds) (ht : Hc t = some (.tup (dayV x))) (ok : DayOk f x) (few : f.days.length < 20) : RS A H (upd Hc d (.lst (ds ++ [.ref t]))) r rx p e ws i b (Vbsyae.putDay f x) dx w d (ds ++ [.ref t]) := by
  obtain ⟨F, s0, R, X⟩ := h.ex
  exact ⟨F, s0, R, X.day ht ok few⟩
end
def sideV : List V := [.str "above", .str "right", .str "below", .str "left"]
theorem side_word {i : Nat} {x : V} (h : sideV[i]? = some x) : i < 4 ∧ ∃ z : Str, x = .str z ∧ codes z = Vbsyae.SIDES.getD i [] ∧ (codes z).length ≤ 100 := by
  unfold sideV at h
  match i, h with
  | 0, h => cases h; exact ⟨by omega, _, rfl, by decide +kernel, by decide +kernel⟩
  | 1, h => cases h; exact ⟨by omega, _, rfl, by decide +kernel, by decide +kernel⟩
  | 2, h => cases h; exact ⟨by omega, _, rfl, by decide +kernel, by decide +kernel⟩
  | 3, h => cases h; exact ⟨by omega, _, rfl, by decide +kernel, by decide +kernel⟩
  | i + 4, h => simp at h
def sp_read_field (A : Ad) (K : PySem.W.Frag) : Sp := fun vs H Q E => ∃ (u : Addr) (l : List Nat), vs = [.ref u] ∧ SqL K H u (natsV l) ∧ l.length ≤ 2000 ∧
  (∀ g, Vbsyae.readField l = .ok g → ∀ (H' : Hp) (b : Addr), Same H H' → H b = none → FieldAt A.cField H' b g → Q (.ref b) H') ∧
  (∀ n, Vbsyae.readField l = .error n → ErrT A.cTextFault n H E)
theorem ok_read_field {f : Addr} {fd : FuncData} (F : Fun K "read_field" "read_field" s_read_field f fd) (T : Txt K mg A) (k_Reader : CalC P w K mg base CX0 2 "Reader" A.cReader ["self", "text"] (sp_Reader_init A K)) (k_Field : CalC P w K mg base CX0 1 "Field" A.cField ["self"] (sp_Field_init A.cField)) (c_pass_day : Cal P w K mg base (L2.CX P w) 6 "pass_day" ["reader", "field"] (sp_pass_day A)) (m_Reader_pass_word : CalM P w K mg base (L2.CX P w) 5 A.cReader "pass_word" ["self", "word"] (sp_pass_word A))
    (m_Reader_pass_number : CalM P w K mg base (L2.CX P w) 5 A.cReader "pass_number" ["self", "least", "most"] (sp_pass_number A)) (m_Reader_sees : CalM P w K mg base CX0 2 A.cReader "sees" ["self", "word"] (sp_sees A)) (m_Reader_at_end : CalM P w K mg base CX0 1 A.cReader "at_end" ["self"] (sp_at_end A)) : FnOk P w K mg base (L2.CX P w) 7 f fd ["text"] (sp_read_field A K) := by
  refine F.okX sc_read_field (fun vs H Q E h => ?_) (fun cdv B outer s H vs Q E hr h => ?_)
  · obtain ⟨u, l, rfl, _⟩ := h
    rfl
  · obtain ⟨u, l, rfl, hu, hl, q, er⟩ := h
    refine ⟨_, (pss_cons (ps_set (i := 1) sc_read_field.nd rfl (Or.inl rfl) (pe_calC k_Reader (hr.mono (by decide)) (by rfl) pass0 (pa_cons (pv 0) pa_nil)))
      (pss_cons (ps_set (i := 2) sc_read_field.nd rfl (Or.inl rfl) (pe_calC0 k_Field (hr.mono (by decide)) (by rfl) pass0))
      (pss_cons (ps_expr (pe_calM T.clReader m_Reader_pass_word (hr.mono (by decide)) (passes_call (takes_of rfl rfl rfl rfl) fun _ _ _ _ h => h) (pv 1) (pa_cons pe_str pa_nil)))
      (pss_cons (ps_fld (pv 2) (pe_calM T.clReader m_Reader_pass_number (hr.mono (by decide)) (passes_call (takes_of rfl rfl rfl rfl) fun _ _ _ _ h => h) (pv 1) (pa_cons pe_int (pa_cons (pe_gi T.MOST_LINES (by rfl)) pa_nil))) rfl)
      (pss_cons (ps_fld (pv 2) (pe_calM T.clReader m_Reader_pass_number (hr.mono (by decide)) (passes_call (takes_of rfl rfl rfl rfl) fun _ _ _ _ h => h) (pv 1) (pa_cons pe_int (pa_cons (pe_gi T.MOST_LINES (by rfl)) pa_nil))) rfl)
      (pss_cons (ps_expr (pe_calM T.clReader m_Reader_pass_word (hr.mono (by decide)) (passes_call (takes_of rfl rfl rfl rfl) fun _ _ _ _ h => h) (pv 1) (pa_cons pe_str pa_nil)))
      (pss_cons (ps_for (passes_of rfl) rfl (pi_enumT (by rfl) T.enumerate (pa_cons (pe_gr T.SIDE_WORDS (by rfl)) pa_nil)) (pg_tup rfl (pgs_cons (pg_name (i := 3) sc_read_field.nd rfl (Or.inl rfl)) (pgs_cons (pg_name (i := 4) sc_read_field.nd rfl (Or.inl rfl)) pgs_nil)))
      (pss_one (ps_if (pt_val (pe_calM T.clReader m_Reader_sees (hr.mono (by decide)) pass0 (pv 1) (pa_cons (pv 4) pa_nil))) (pss_cons (ps_expr (pe_calM T.clReader m_Reader_pass_word (hr.mono (by decide)) (passes_call (takes_of rfl rfl rfl rfl) fun _ _ _ _ h => h) (pv 1) (pa_cons (pv 4) pa_nil)))
      (pss_one (ps_asg pe_int (pg_sub (pe_fld (pv 2) rfl) (pv 3) set_list)))) pss_nil)))
      (pss_cons (ps_while (passes_of rfl) (pt_not (pt_val (pe_calM0 T.clReader m_Reader_at_end (hr.mono (by decide)) pass0 (pv 1))))
      (pss_cons (ps_expr (pe_calM T.clReader m_Reader_pass_word (hr.mono (by decide)) (passes_call (takes_of rfl rfl rfl rfl) fun _ _ _ _ h => h) (pv 1) (pa_cons pe_str pa_nil)))
      (pss_one (ps_expr (pe_bm PySem.F.plainAttrs_list PySem.F.slot_list_append PySem.F.type_list_append mt_append (pe_fld (pv 2) rfl) (pa_cons (pe_cal c_pass_day hr (by rfl) (passes_call (takes_of rfl rfl rfl rfl) fun _ _ _ _ h => h) (pa_cons (pv 1) (pa_cons (pv 2) pa_nil))) pa_nil))))))
      (pss_one (ps_ret (pv 2))))))))))), ?_⟩
    rw [fieldIn_eq] at q er
    unfold fieldIn at q er
    refine ⟨_, rfl, fun r rx nr nrx ne => ?_⟩
    have s1 : Same H (upd (upd H rx (.own r)) r (.ins A.cReader rx [])) := fun b o e => by
      rw [upd_ne (ne_of_none e nr), upd_ne (ne_of_none e nrx)]
      exact e
    refine ⟨r, rx, u, l, rfl, upd_same, s1.seq hu, hl, fun H1 p k1 np g1 hw => ⟨rfl, ?_⟩⟩
    have S1 : Same H H1 := fun b o e => k1 _ _ (s1 _ _ e) (ne_of_none e nr)
    have R1 : RdAt A.cReader H1 r rx p l.length (VbsyCore.cut 0 l) 0 := ⟨g1, hw, Nat.zero_le _⟩
    -- field = Field()
    intro b bx nb nbx neb
    refine ⟨b, bx, rfl, upd_same, fun H2 w0 d0 k2 nw0 nd0 wd0 h2 h2w h2d => ⟨rfl, ?_⟩⟩
    obtain ⟨dx, w, d, ds, X2⟩ := FX.of (field_new (Same.refl H1) nb nbx neb k2 nw0 nd0 wd0 h2 h2w h2d).1
    have Z2 : RS A H H2 r rx p l.length (VbsyCore.cut 0 l) 0 b Vbsyae.start dx w d ds := ⟨H1, S1, R1, X2⟩
    have nbH : H b = none := S1.free nb
    have m2 : ∀ i, (rF l.length p i).lookup ("pass_word" : Str) = none := fun i => rF_no _ _ _ (by decide +kernel) (by decide +kernel) (by decide +kernel)
    have m3 : ∀ i, (rF l.length p i).lookup ("pass_number" : Str) = none := fun i => rF_no _ _ _ (by decide +kernel) (by decide +kernel) (by decide +kernel)
    have m4 : ∀ i, (rF l.length p i).lookup ("sees" : Str) = none := fun i => rF_no _ _ _ (by decide +kernel) (by decide +kernel) (by decide +kernel)
    have m5 : ∀ i, (rF l.length p i).lookup ("at_end" : Str) = none := fun i => rF_no _ _ _ (by decide +kernel) (by decide +kernel) (by decide +kernel)
    have e0 : (VbsyCore.cut 0 l).drop 0 = VbsyCore.cut 0 l := rfl
    generalize hws : VbsyCore.cut 0 l = ws at *
    generalize hle : l.length = e at *
    -- 'field'
    refine ⟨_, rfl, r, rx, _, rfl, Z2.rd.at_, m2 _, r, rx, p, e, ws, 0, "field", rfl, Z2.rd, by decide +kernel, fun rest hm H3 k3 g3 er3 le3 => ?_, fun n hm => ?_⟩
    rotate_left
    · rw [← W_field, e0] at hm
      simp only [hm] at er
      exact (er _ rfl).mono Z2.same
    rw [← W_field, e0] at hm
    simp only [hm] at q er
    subst er3
    have Z3 := Z2.step nr k3 g3 le3
    -- rows
    refine ⟨_, rfl, r, rx, _, rfl, g3, m3 _, r, rx, p, e, ws, 0 + 1, 1, 8, rfl, Z3.rd, Nat.le_refl _, fun rw rest hm H4 k4 g4 er4 le4 lo4 hi4 => ?_, fun n hm => ?_⟩
    rotate_left
    · simp only [hm] at er
      exact (er _ rfl).mono Z3.same
    simp only [hm] at q er
    subst er4
    have Z4 := Z3.step nr k4 g4 le4
    refine ⟨_, rfl, b, A.cField, dx, _, rfl, Z4.fld.at_, T.clField, T.nRows, fF_len _ _ _, ?_⟩
    rw [put_rows]
    have Z5 := Z4.rows (n := rw) lo4 hi4 rfl
    generalize upd H4 b _ = H5 at *
    -- columns
    refine ⟨_, rfl, r, rx, _, rfl, Z5.rd.at_, m3 _, r, rx, p, e, ws, 0 + 1 + 1, 1, 8, rfl, Z5.rd, Nat.le_refl _, fun cl rest hm H6 k6 g6 er6 le6 lo6 hi6 => ?_, fun n hm => ?_⟩
    rotate_left
    · simp only [hm] at er
      exact (er _ rfl).mono Z5.same
    simp only [hm] at q er
    subst er6
    have Z6 := Z5.step nr k6 g6 le6
    refine ⟨_, rfl, b, A.cField, dx, _, rfl, Z6.fld.at_, T.clField, T.nColumns, fF_len _ _ _, ?_⟩
    rw [put_cols]
    have Z7 := Z6.cols (n := cl) lo6 hi6 rfl
    generalize upd H6 b _ = H7 at *
    -- 'walls'
    refine ⟨_, rfl, r, rx, _, rfl, Z7.rd.at_, m2 _, r, rx, p, e, ws, 0 + 1 + 1 + 1, "walls", rfl, Z7.rd, by decide +kernel, fun rest hm H8 k8 g8 er8 le8 => ?_, fun n hm => ?_⟩
    rotate_left
    · rw [← W_walls] at hm
      simp only [hm] at er
      exact (er _ rfl).mono Z7.same
    rw [← W_walls] at hm
    simp only [hm] at q er
    subst er8
    have Z8 := Z7.step nr k8 g8 le8
    generalize htw : takeWalls 4 0 [false, false, false, false] (ws.drop (0 + 1 + 1 + 1 + 1)) = tw at *
    obtain ⟨fin, hfin⟩ : ∃ fin, fin = Vbsyae.linesIn e (tw.2.length + 1) { rows := rw, cols := cl, walls := tw.1, days := [] } tw.2 := ⟨_, rfl⟩
    rw [← hfin] at q er
    -- the sides
    obtain ⟨Pv, hPv⟩ : ∃ Pv : Nat → L2.St → Hp → Prop, ∀ i σ H', Pv i σ H' ↔ ∃ (j : Nat) (wl : List Bool) (y3 y4 : Option V), σ = [some (.ref u), some (.ref r), some (.ref b), y3, y4] ∧ i ≤ 4 ∧
        RS A H H' r rx p e ws j b { rows := rw, cols := cl, walls := wl, days := [] } dx w d ds ∧ tw = takeWalls (4 - i) i wl (ws.drop j) := ⟨_, fun _ _ _ => Iff.rfl⟩
    dsimp only [tSeq]
    refine q_forET (a := A.aSides) (xs := sideV) Pv (fun R h => by exact h) ((hPv _ _ _).mpr ⟨_, _, none, none, rfl, Nat.zero_le _, Z8, htw.symm⟩) (fun i σ H' _ _ => T.sides H') (fun i x t σ H' hi nt h5 => ?_) (fun σ H' h5 => ?_)
    · obtain ⟨j, wl, y3, y4, rfl, hi4', Z9, htk⟩ := (hPv _ _ _).mp h5
      obtain ⟨hi4, z, rfl, hz, hzl⟩ := side_word hi
      have Z10 := Z9.on (same_new (o := .tup [.int i, .str z]) nt)
      have hT : (upd H' t (.tup [.int i, .str z])) t = some (.tup [.int i, .str z]) := upd_same
      generalize upd H' t (.tup [.int i, .str z]) = H10 at *
      refine ⟨t, _, rfl, Or.inl (Or.inl hT), rfl, _, _, rfl, _, _, rfl, rfl, ?_⟩
      have hk : 4 - i = (4 - (i + 1)) + 1 := by omega
      rw [hk] at htk
      -- sees
      refine ⟨_, rfl, r, rx, _, rfl, Z10.rd.at_, m4 _, _, rfl, r, rx, p, e, ws, j, z, rfl, Z10.rd, hzl, fun H11 s11 => ⟨_, rfl, ?_⟩⟩
      have Z11 := Z10.on s11
      unfold takeWalls at htk
      rw [hz]
      rcases must_ahead e (codes z) ws j with ⟨a1, a2, a3⟩ | ⟨a1, a2⟩
      · rw [hz] at a1
        rw [a1]
        rw [if_pos a1] at htk
        refine iteT ?_
        refine ⟨_, rfl, r, rx, _, rfl, Z11.rd.at_, m2 _, _, rfl, r, rx, p, e, ws, j, z, rfl, Z11.rd, hzl, fun rest hm H12 k12 g12 er12 le12 => ?_, fun n hm => ?_⟩
        rotate_left
        · rw [a2] at hm
          cases hm
        have Z12 := Z11.step nr k12 g12 le12
        have hw12 := Z12.fld
        have hwl : wl.length = 4 := hw12.wf.w4
        refine ⟨_, rfl, b, A.cField, dx, _, _, rfl, hw12.at_, T.clField, T.nWalls, fF_walls _ _ _, _, rfl, w, _, i, i, rfl, rfl, hw12.hw, ?_, ?_⟩
        · unfold ixN
          rw [if_pos (by omega), if_pos (by rw [List.length_map, hwl]; omega), Int.toNat_natCast]
        · refine (hPv _ _ _).mpr ⟨j + 1, wl.set i true, _, _, rfl, hi4, Z12.wall i, ?_⟩
          rw [htk]
          congr 1
          rw [List.tail_drop]
      · rw [hz] at a1
        rw [a1]
        rw [if_neg (by rw [a1]; exact Bool.false_ne_true)] at htk
        refine iteF ?_
        exact (hPv _ _ _).mpr ⟨j, wl, _, _, rfl, hi4, Z11, htk⟩
    · obtain ⟨j, wl, y3, y4, rfl, hi4', Z9, htk⟩ := (hPv _ _ _).mp h5
      have e4 : sideV.length = 4 := rfl
      rw [e4] at htk
      have htk' : tw = (wl, ws.drop j) := htk
      rw [htk'] at hfin
      dsimp only at hfin
      -- the days
      obtain ⟨Pw, hPw⟩ : ∃ Pw : Nat → L2.St → Hp → Prop, ∀ m σ Hc, Pw m σ Hc ↔ ∃ (j g : Nat) (fl : Vbsyae.Field) (ds : List V) (y3 y4 : Option V), σ = [some (.ref u), some (.ref r), some (.ref b), y3, y4] ∧ m = ws.length - j ∧
          RS A H Hc r rx p e ws j b fl dx w d ds ∧ (ws.drop j).length ≤ g ∧ fin = Vbsyae.linesIn e (g + 1) fl (ws.drop j) := ⟨_, fun _ _ _ => Iff.rfl⟩
      refine ⟨Pw, ⟨_, (hPw _ _ _).mpr ⟨j, _, _, _, _, _, rfl, rfl, Z9, Nat.le_refl _, hfin⟩⟩, fun m σ Hc hW => ?_⟩
      obtain ⟨j, g, fl, ds, y3, y4, rfl, rfl, Z, hg, hfin⟩ := (hPw _ _ _).mp hW
      refine ⟨_, rfl, r, rx, _, rfl, Z.rd.at_, m5 _, r, rx, p, e, ws, j, rfl, Z.rd, _, rfl, ?_⟩
      cases hd : ws.drop j with
      | nil =>
        refine iteF ?_
        rw [hd, lines_nil] at hfin
        exact ⟨_, rfl, q fl hfin Hc b Z.same nbH Z.fld.toIn⟩
      | cons y ys =>
        refine iteT ⟨fun σ' H' => ∃ m', m' < ws.length - j ∧ Pw m' σ' H', fun _ _ z => z, ?_⟩
        have hjl : j < ws.length := by
          have h := congrArg List.length hd
          rw [List.length_drop, List.length_cons] at h
          omega
        have hg1 : 1 ≤ g := by
          rw [List.length_drop] at hg
          omega
        rw [lines_cons (by rw [hd]; exact List.cons_ne_nil _ _)] at hfin
        have c10 : codes "\n" = [10] := by decide +kernel
        refine ⟨_, rfl, r, rx, _, rfl, Z.rd.at_, m2 _, r, rx, p, e, ws, j, "\n", rfl, Z.rd, by decide +kernel, fun rest hm H12 k12 g12 er12 le12 => ?_, fun n hm => ?_⟩
        rotate_left
        · rw [c10] at hm
          rw [hm] at hfin
          exact (er _ hfin).mono Z.same
        rw [c10] at hm
        rw [hm] at hfin
        subst er12
        have Z12 := Z.step nr k12 g12 le12
        have X12 := Z12.fld
        -- field.days.append(pass_day(reader, field))
        refine ⟨_, rfl, b, A.cField, dx, _, _, rfl, X12.at_, T.clField, T.nDays, fF_days _ _ _, .inl ⟨rfl, _, SqL.of X12.hd⟩, ?_⟩
        have B12 : But r H H12 := fun c o z _ => Z12.same _ _ z
        refine ⟨_, rfl, _, rfl, r, rx, p, e, ws, j + 1, b, fl, rfl, Z12.rd, X12.toIn, fun x rest hm2 H13 t j2 k13 g13 er13 le13 lt13 nt ht ok => ?_, fun n hm2 => ?_⟩
        rotate_left
        · dsimp only at hfin
          rw [hm2] at hfin
          exact ((er _ hfin).toR nr).on B12 g12
        have few := foldIn_few hm2
        dsimp only at hfin
        rw [hm2] at hfin
        subst er13
        have Z13 := Z12.step nr k13 g13 le13
        have X13 := Z13.fld
        refine ⟨d, ds, _, rfl, rfl, X13.hd, ?_, ?_⟩
        · rw [X13.hds.len]
          exact Nat.lt_of_le_of_lt X13.wf.d20 (by decide)
        · refine ⟨ws.length - j2, by omega, (hPw _ _ _).mpr ⟨j2, g - 1, _, _, _, _, rfl, rfl, Z13.day ht ok few, ?_, ?_⟩⟩
          · rw [List.length_drop] at hg ⊢
            omega
          · have : g - 1 + 1 = g := by omega
            rw [this]
            exact hfin
end
end HF
namespace HF
open PySem PySem.Spec PyProof.Rows L2
abbrev s_answer_clear : Stmt := top 67
theorem sc_answer_clear : FnScope ["field", "given"] ["field", "given"] (defScope s_answer_clear) := ⟨rfl, rfl, rfl, by decide +kernel, rfl, by decide +kernel, by decide +kernel⟩
abbrev s_answer_field : Stmt := top 68
theorem sc_answer_field : FnScope ["field", "given"] ["field", "given"] (defScope s_answer_field) := ⟨rfl, rfl, rfl, by decide +kernel, rfl, by decide +kernel, by decide +kernel⟩
abbrev s_answer_day : Stmt := top 71
theorem sc_answer_day : FnScope ["field", "given"] ["field", "given"] (defScope s_answer_day) := ⟨rfl, rfl, rfl, by decide +kernel, rfl, by decide +kernel, by decide +kernel⟩
abbrev s_answer_undo : Stmt := top 72
theorem sc_answer_undo : FnScope ["field", "given", "kept"] ["field", "given"] (defScope s_answer_undo) := ⟨rfl, rfl, rfl, by decide +kernel, rfl, by decide +kernel, by decide +kernel⟩
abbrev s_answer_told : Stmt := top 73
theorem sc_answer_told : FnScope ["field", "given"] ["field", "given"] (defScope s_answer_told) := ⟨rfl, rfl, rfl, by decide +kernel, rfl, by decide +kernel, by decide +kernel⟩
abbrev s_answer_rect : Stmt := top 76
theorem sc_answer_rect : FnScope ["field", "given", "high", "wide"] ["field", "given"] (defScope s_answer_rect) := ⟨rfl, rfl, rfl, by decide +kernel, rfl, by decide +kernel, by decide +kernel⟩
section
variable {P : Program} {w : World} {K : PySem.W.Frag} {mg : Str → Option Value} {base : Heap} {A : Ad}
def errs (A : Ad) : List Addr := [A.cNotBytes, A.cOutOfRange, A.cWrongList, A.cNotThere, A.cTooManyDays, A.cTextFault]
/-- the promise of a call's def: c tells the call from what is given; what F knows stays -/
def sp_ans (A : Ad) (K : PySem.W.Frag) (c : List Int → Option Vbsyae.Call) : Sp := fun vs H Q E => ∃ (F : Hp) (a g : Addr) (f : Vbsyae.Field) (l : List Int) (call : Vbsyae.Call), vs = [.ref a, .ref g] ∧ FieldIn A.cField F H a f ∧ SqL K H g (intsV l) ∧ l.length ≤ 2000 ∧ c l = some call ∧
  (∀ f' ans, Vbsyae.run f call = .ok (f', ans) → ∀ (H' : Hp) (p : Addr), FieldIn A.cField F H' a f' → F p = none → H' p = some (.lst (intsV ans)) → Q (.ref p) H') ∧
  (∀ n, Vbsyae.run f call = .error n → ∀ C ∈ errs A, ErrC C n H E)
theorem FieldIn.new {C : Addr} {F H : Hp} {a p : Addr} {f : Vbsyae.Field} {o : HO} (h : FieldIn C F H a f) (np : H p = none) : FieldIn C F (upd H p o) a f ∧ F p = none := ⟨h.on (same_new np), h.same.free np⟩
def cClear : List Int → Option Vbsyae.Call := fun _ => some .clear
theorem ok_answer_clear {f : Addr} {fd : FuncData} (F : Fun K "answer_clear" "answer_clear" s_answer_clear f fd) (T : Txt K mg A) (k_Field : CalC P w K mg base CX0 1 "Field" A.cField ["self"] (sp_Field_init A.cField)) (m_Field_become : CalM P w K mg base CX0 1 A.cField "become" ["self", "other"] (sp_Field_become A)) : FnOk P w K mg base CX0 3 f fd ["field", "given"] (sp_ans A K cClear) := by
  refine F.ok sc_answer_clear (fun vs H Q E h => ?_) (fun cdv B outer s H vs Q E hr h => ?_)
  · obtain ⟨F, a, g, f, l, c, rfl, _⟩ := h
    rfl
  · obtain ⟨Fr, a, g, fl, l, c, rfl, hF, hg, hl, hc, q, er⟩ := h
    cases hc
    refine ⟨_, (pss_cons (ps_expr (pe_calM T.clField m_Field_become (hr.mono (by decide)) pass0 (pv 0) (pa_cons (pe_calC0 k_Field hr (by rfl) pass0) pa_nil)))
      (pss_one (ps_ret (pe_lst (pa_cons pe_int pa_nil))))), ?_⟩
    obtain ⟨dx, w, d, ds, X⟩ := FX.of hF
    refine ⟨_, rfl, a, dx, _, rfl, X.at_, fF_become _ _ _, fun b bx nb nbx neb => ?_⟩
    refine ⟨b, bx, rfl, upd_same, fun H2 w0 d0 k2 nw0 nd0 wd0 h2 h2w h2d => ⟨rfl, ?_⟩⟩
    obtain ⟨G2, s2⟩ := field_new (Same.refl H) nb nbx neb k2 nw0 nd0 wd0 h2 h2w h2d
    refine ⟨Fr, a, b, fl, Vbsyae.start, rfl, hF.on s2, G2.at, ne_of_none X.at_ nb, fun H3 hF3 => ?_⟩
    refine ⟨by decide, fun p np => ?_⟩
    obtain ⟨h4, h5⟩ := hF3.new (o := .lst [.int 0]) np
    exact q _ [0] rfl _ p h4 h5 upd_same
theorem ints_bytes {l : List Int} (h : l.all byteB = true) : intsV l = natsV (l.map Int.toNat) := by
  unfold intsV natsV
  rw [List.map_map]
  refine List.map_congr_left fun x hx => ?_
  have := List.all_eq_true.mp h x hx
  unfold byteB VbsyCore.isBetween at this
  simp at this
  show V.int x = V.int (x.toNat : Int)
  congr 1
  omega
theorem textIn_ok {l : List Int} (h : l.all byteB = true) (hl : l.length ≤ 2000) : Vbsyae.textIn l = .ok (l.map Int.toNat) := by
  unfold Vbsyae.textIn VbsyCore.bytesIn
  rw [if_pos ⟨h, hl⟩]
theorem textIn_bad {l : List Int} (h : l.all byteB = false) : Vbsyae.textIn l = .error (-1) := by
  unfold Vbsyae.textIn VbsyCore.bytesIn
  rw [if_neg]
  intro z
  have z1 : l.all byteB = true := z.1
  rw [h] at z1
  cases z1
theorem ErrT.toC {C : Addr} {n : Int} {H : Hp} {E : XK} (h : ErrC C (-1000 - n) H E) : ErrT C n H E := fun H' dd fs nd s h1 h2 _ => h H' dd fs nd s h1 h2
def cField : List Int → Option Vbsyae.Call := fun l => some (.field l)
theorem ok_answer_field {f : Addr} {fd : FuncData} (F : Fun K "answer_field" "answer_field" s_answer_field f fd) (T : Txt K mg A) (c_check_bytes : Cal P w K mg base (L2.CX P w) 4 "check_bytes" ["text"] (sp_check_bytes A K)) (c_read_field : Cal P w K mg base (L2.CX P w) 7 "read_field" ["text"] (sp_read_field A K)) (m_Field_become : CalM P w K mg base CX0 1 A.cField "become" ["self", "other"] (sp_Field_become A)) : FnOk P w K mg base (L2.CX P w) 8 f fd ["field", "given"] (sp_ans A K cField) := by
  refine F.okX sc_answer_field (fun vs H Q E h => ?_) (fun cdv B outer s H vs Q E hr h => ?_)
  · obtain ⟨F, a, g, f, l, c, rfl, _⟩ := h
    rfl
  · obtain ⟨Fr, a, g, fl, l, c, rfl, hF, hg, hl, hc, q, er⟩ := h
    cases hc
    refine ⟨_, (pss_cons (ps_expr (pe_cal c_check_bytes (hr.mono (by decide)) (by rfl) (passes_call (takes_of rfl rfl rfl rfl) fun _ _ _ _ h => h) (pa_cons (pv 1) pa_nil)))
      (pss_cons (ps_expr (pe_calM T.clField m_Field_become (hr.mono (by decide)) pass0 (pv 0) (pa_cons (pe_cal c_read_field hr (by rfl) (passes_call (takes_of rfl rfl rfl rfl) fun _ _ _ _ h => h) (pa_cons (pv 1) pa_nil)) pa_nil)))
      (pss_one (ps_ret (pe_lst (pa_cons (pe_fld (pv 0) rfl) (pa_cons (pe_fld (pv 0) rfl) (pa_cons (pe_callB call_len_seq (by rfl) T.len PySem.boot_len (pa_cons (pe_fld (pv 0) rfl) pa_nil)) pa_nil)))))))), ?_⟩
    refine ⟨_, rfl, g, l, rfl, hg, fun hb => ?_, fun hb => ?_⟩
    rotate_left
    · refine er (-1) ?_ A.cNotBytes (by simp [errs])
      show (do let b ← Vbsyae.textIn l; _) = _
      rw [textIn_bad hb]
      rfl
    rw [ints_bytes hb] at hg
    have hrun : Vbsyae.run fl (.field l) = match Vbsyae.readField (l.map Int.toNat) with
        | .error p => .error (-1000 - (p : Int))
        | .ok g => .ok (g, VbsyCore.ints [g.rows, g.cols, g.days.length]) := by
      show (do let b ← Vbsyae.textIn l; _) = _
      rw [textIn_ok hb hl]
      rfl
    rw [hrun] at q er
    obtain ⟨dx, w, d, ds, X⟩ := FX.of hF
    refine ⟨_, rfl, a, dx, _, rfl, X.at_, fF_become _ _ _, ?_⟩
    refine ⟨_, rfl, g, l.map Int.toNat, rfl, hg, by simpa using hl, fun gf hm H2 b s2 nb hG => ?_, fun n hm => ?_⟩
    rotate_left
    · rw [hm] at er
      exact ErrT.toC (er _ rfl A.cTextFault (by simp [errs]))
    rw [hm] at q er
    refine ⟨Fr, a, b, fl, gf, rfl, hF.on s2, hG, ne_of_none X.at_ nb, fun H3 hF3 => ?_⟩
    obtain ⟨dx3, w3, d3, ds3, X3⟩ := FX.of hF3
    refine ⟨_, rfl, a, A.cField, dx3, _, _, rfl, X3.at_, T.clField, T.nRows, fF_rows _ _ _, _, rfl, a, A.cField, dx3, _, _, rfl, X3.at_, T.clField, T.nColumns, fF_cols _ _ _, _, rfl, a, A.cField, dx3, _, _, rfl, X3.at_, T.clField, T.nDays, fF_days _ _ _, d3, ds3, rfl, .inl (SqL.of X3.hd), (by show 3 ≤ sizeLine; decide), fun p np => ?_⟩
    rw [X3.hds.len]
    obtain ⟨h4, h5⟩ := hF3.new (o := .lst [.int gf.rows, .int gf.cols, .int gf.days.length]) np
    exact q _ _ rfl _ p h4 h5 upd_same
def cDay : List Int → Option Vbsyae.Call := fun l => some (.day l)
theorem ok_answer_day {f : Addr} {fd : FuncData} (F : Fun K "answer_day" "answer_day" s_answer_day f fd) (T : Txt K mg A) (c_check_bytes : Cal P w K mg base (L2.CX P w) 4 "check_bytes" ["text"] (sp_check_bytes A K)) (c_read_day : Cal P w K mg base (L2.CX P w) 7 "read_day" ["text", "field"] (sp_read_day A K)) : FnOk P w K mg base (L2.CX P w) 8 f fd ["field", "given"] (sp_ans A K cDay) := by
  refine F.okX sc_answer_day (fun vs H Q E h => ?_) (fun cdv B outer s H vs Q E hr h => ?_)
  · obtain ⟨F, a, g, f, l, c, rfl, _⟩ := h
    rfl
  · obtain ⟨Fr, a, g, fl, l, c, rfl, hF, hg, hl, hc, q, er⟩ := h
    cases hc
    refine ⟨_, (pss_cons (ps_expr (pe_cal c_check_bytes (hr.mono (by decide)) (by rfl) (passes_call (takes_of rfl rfl rfl rfl) fun _ _ _ _ h => h) (pa_cons (pv 1) pa_nil)))
      (pss_cons (ps_expr (pe_bm PySem.F.plainAttrs_list PySem.F.slot_list_append PySem.F.type_list_append mt_append (pe_fld (pv 0) rfl) (pa_cons (pe_cal c_read_day hr (by rfl) (passes_call (takes_of rfl rfl rfl rfl) fun _ _ _ _ h => h) (pa_cons (pv 1) (pa_cons (pv 0) pa_nil))) pa_nil)))
      (pss_one (ps_ret (pe_lst (pa_cons (pe_callB call_len_seq (by rfl) T.len PySem.boot_len (pa_cons (pe_fld (pv 0) rfl) pa_nil)) pa_nil)))))), ?_⟩
    refine ⟨_, rfl, g, l, rfl, hg, fun hb => ?_, fun hb => ?_⟩
    rotate_left
    · refine er (-1) ?_ A.cNotBytes (by simp [errs])
      show (do let b ← Vbsyae.textIn l; _) = _
      rw [textIn_bad hb]
      rfl
    rw [ints_bytes hb] at hg
    have hrun : Vbsyae.run fl (.day l) = match Vbsyae.readFold fl (l.map Int.toNat) with
        | .error p => .error (-1000 - (p : Int))
        | .ok x => .ok (Vbsyae.putDay fl x, [((fl.days.length + 1 : Nat) : Int)]) := by
      show (do let b ← Vbsyae.textIn l; _) = _
      rw [textIn_ok hb hl]
      rfl
    rw [hrun] at q er
    obtain ⟨dx, w, d, ds, X⟩ := FX.of hF
    refine ⟨_, rfl, a, A.cField, dx, _, _, rfl, X.at_, T.clField, T.nDays, fF_days _ _ _, .inl ⟨rfl, _, SqL.of X.hd⟩, ?_⟩
    refine ⟨_, rfl, _, rfl, g, a, l.map Int.toNat, fl, rfl, hg, by simpa using hl, hF.at, fun x hm H2 t s2 nt ht ok few => ?_, fun n hm => ?_⟩
    rotate_left
    · rw [hm] at er
      exact ErrT.toC (er _ rfl A.cTextFault (by simp [errs]))
    rw [hm] at q er
    have X2 := X.on s2
    refine ⟨d, ds, _, rfl, rfl, X2.hd, ?_, ?_⟩
    · rw [X2.hds.len]
      exact Nat.lt_trans few (by decide)
    have X3 := X2.day ht ok few
    generalize upd H2 d (.lst (ds ++ [.ref t])) = H3 at *
    refine ⟨_, rfl, a, A.cField, dx, _, _, rfl, X3.at_, T.clField, T.nDays, fF_days _ _ _, d, _, rfl, .inl (SqL.of X3.hd), (by show 1 ≤ sizeLine; decide), fun p np => ?_⟩
    have hlen : (ds ++ [V.ref t]).length = fl.days.length + 1 := by
      rw [List.length_append, X2.hds.len]
      rfl
    rw [hlen]
    obtain ⟨h4, h5⟩ := X3.toIn.new (o := .lst [.int ((fl.days.length + 1 : Nat) : Int)]) np
    exact q _ _ rfl _ p h4 h5 upd_same
theorem FX.undo {C : Addr} {F H : Hp} {b : Addr} {f : Vbsyae.Field} {dx w d d' : Addr} {ds : List V} (h : FX C F H b f dx w d ds) (n : Nat) (nd : H d' = none) :
    FX C F (upd (upd H d' (.lst (ds.take n))) b (.ins C dx (fF { f with days := f.days.take n } w d'))) b { f with days := f.days.take n } dx w d' (ds.take n) := by
  have nbd : d' ≠ b := Ne.symm (ne_of_none h.at_ nd)
  have nwd : w ≠ d' := ne_of_none h.hw nd
  refine ⟨fun c o e => ?_, h.nb, h.nw, h.same.free nd, nwd, ⟨h.wf.r1, h.wf.r8, h.wf.c1, h.wf.c8, h.wf.w4, ?_, fun x hx => h.wf.inn x (List.mem_of_mem_take hx)⟩, upd_same, ?_, ?_, ?_⟩
  · have nc : c ≠ b := fun z => by
      rw [z, h.nb] at e
      cases e
    rw [upd_ne nc, upd_ne (ne_of_none (h.same _ _ e) nd)]
    exact h.same _ _ e
  · show (f.days.take n).length ≤ 20
    rw [List.length_take]
    exact Nat.le_trans (Nat.min_le_right _ _) h.wf.d20
  · rw [upd_ne h.nbw, upd_ne nwd]
    exact h.hw
  · rw [upd_ne nbd, upd_same]
  · refine (h.hds.imp fun t xs e => ?_).take n
    rw [upd_ne (ne_of e h.at_ (by intro z; cases z)), upd_ne (ne_of_none e nd)]
    exact e
theorem ranged_ok {n lo hi : Int} (h : lo ≤ n ∧ n ≤ hi) : Vbsyae.ranged n lo hi = .ok n.toNat := by
  unfold Vbsyae.ranged VbsyCore.isBetween
  simp [h.1, h.2]
theorem ranged_bad {n lo hi : Int} (h : ¬ (lo ≤ n ∧ n ≤ hi)) : Vbsyae.ranged n lo hi = .error (-3) := by
  unfold Vbsyae.ranged VbsyCore.isBetween
  rw [if_neg]
  simpa using h
theorem cutV_first (l : List V) (n : Nat) (h : n ≤ l.length) : cutV l none (some (n : Int)) = l.take n := by
  unfold cutV
  rw [HT.sIx_nat, HT.sIx_none, Nat.min_eq_left h]
  rfl
def cUndo : List Int → Option Vbsyae.Call
  | [n] => some (.undo n)
  | _ => none
theorem ok_answer_undo {f : Addr} {fd : FuncData} (F : Fun K "answer_undo" "answer_undo" s_answer_undo f fd) (T : Txt K mg A) (c_check_range : Cal P w K mg base (L2.CX P w) 4 "check_range" ["number", "least", "most"] (sp_check_range A)) (x_NotThere : CalX P w K mg base CX0 2 "NotThere" A.cNotThere ["self"] (sp_x0 K A.cNotThere (-5))) : FnOk P w K mg base (L2.CX P w) 5 f fd ["field", "given"] (sp_ans A K cUndo) := by
  refine F.okX sc_answer_undo (fun vs H Q E h => ?_) (fun cdv B outer s H vs Q E hr h => ?_)
  · obtain ⟨F, a, g, f, l, c, rfl, _⟩ := h
    rfl
  · obtain ⟨Fr, a, g, fl, l, c, rfl, hF, hg, hl, hc, q, er⟩ := h
    match l, hc with
    | [n], hc =>
    cases hc
    refine ⟨_, (pss_cons (ps_set (i := 2) sc_answer_undo.nd rfl (Or.inl rfl) (pe_ix ix_list (pv 1) pe_int (fun _ _ => rfl)))
      (pss_cons (ps_expr (pe_cal c_check_range hr (by rfl) (passes_call (takes_of rfl rfl rfl rfl) fun _ _ _ _ h => h) (pa_cons (pv 2) (pa_cons pe_int (pa_cons (pe_gi T.MOST_DAYS (by rfl)) pa_nil)))))
      (pss_cons (ps_if (pt_cmpR op_gt (pv 2) (pe_callB call_len_seq (by rfl) T.len PySem.boot_len (pa_cons (pe_fld (pv 0) rfl) pa_nil)) (nomark _)) (pss_one (ps_raise rfl (takes_of rfl rfl rfl rfl) (pmk_calX0 x_NotThere (hr.mono (by decide)) (by rfl) pass0))) pss_nil)
      (pss_cons (ps_fld (pv 0) (pe_slice sl_list (pe_fld (pv 0) rfl) po_none (po_some (pv 2))) rfl)
      (pss_one (ps_ret (pe_lst (pa_cons (pv 2) pa_nil)))))))), ?_⟩
    obtain ⟨x5, -, hno5, -⟩ := T.errs A.cNotThere (by simp)
    refine ⟨_, rfl, g, _, 0, _, rfl, rfl, hg, rfl, ?_⟩
    refine ⟨_, rfl, n, 0, 20, rfl, fun hr20 => ?_, fun hb => ?_⟩
    rotate_left
    · refine er (-3) ?_ A.cOutOfRange (by simp [errs])
      show (do let n ← Vbsyae.ranged n 0 20; _) = _
      rw [ranged_bad hb]
      rfl
    have hrun : Vbsyae.run fl (.undo n) = if fl.days.length < n.toNat then .error (-5) else .ok ({ fl with days := fl.days.take n.toNat }, [((n.toNat : Nat) : Int)]) := by
      show (do let n ← Vbsyae.ranged n 0 20; _) = _
      rw [ranged_ok hr20]
      rfl
    rw [hrun] at q er
    obtain ⟨dx, w, d, ds, X⟩ := FX.of hF
    obtain ⟨k, rfl⟩ : ∃ k : Nat, n = (k : Int) := ⟨n.toNat, by omega⟩
    rw [Int.toNat_natCast] at q er
    refine ⟨_, rfl, _, rfl, a, A.cField, dx, _, _, rfl, X.at_, T.clField, T.nDays, fF_days _ _ _, d, ds, rfl, .inl (SqL.of X.hd), _, _, rfl, rfl, _, rfl, ?_⟩
    rw [X.hds.len]
    by_cases c5 : fl.days.length < k
    · rw [decide_eq_true (show ((fl.days.length : Nat) : Int) < (k : Int) by omega)]
      rw [if_pos c5] at er
      refine iteT ?_
      exact mk0_ok x5 hno5 (er _ rfl A.cNotThere (by simp [errs]))
    · rw [decide_eq_false (show ¬ ((fl.days.length : Nat) : Int) < (k : Int) by omega)]
      rw [if_neg c5] at q
      refine iteF ?_
      refine ⟨_, rfl, a, A.cField, dx, _, _, rfl, X.at_, T.clField, T.nDays, fF_days _ _ _, _, rfl, k, rfl, d, ds, rfl, SqL.of X.hd, fun d2 nd2 => ?_⟩
      rw [cutV_first ds k (by rw [X.hds.len]; omega)]
      refine ⟨_, rfl, a, A.cField, dx, _, rfl, (upd_ne (ne_of_none X.at_ nd2)).trans X.at_, T.clField, T.nDays, fF_len _ _ _, ?_⟩
      rw [put_days]
      have X3 := X.undo k nd2
      have e1 : fF fl w d2 = fF { fl with days := fl.days.take k } w d2 := rfl
      rw [e1]
      generalize upd (upd H d2 (.lst (ds.take k))) a _ = H3 at *
      refine ⟨_, rfl, (by show 1 ≤ sizeLine; decide), fun p np => ?_⟩
      obtain ⟨h4, h5⟩ := X3.toIn.new (o := .lst [.int (k : Int)]) np
      exact q _ _ rfl _ p h4 h5 upd_same
def cTold : List Int → Option Vbsyae.Call := fun _ => some .told
theorem ok_answer_told {f : Addr} {fd : FuncData} (F : Fun K "answer_told" "answer_told" s_answer_told f fd) (T : Txt K mg A) : FnOk P w K mg base CX0 1 f fd ["field", "given"] (sp_ans A K cTold) := by
  refine F.ok sc_answer_told (fun vs H Q E h => ?_) (fun cdv B outer s H vs Q E hr h => ?_)
  · obtain ⟨F, a, g, f, l, c, rfl, _⟩ := h
    rfl
  · obtain ⟨Fr, a, g, fl, l, c, rfl, hF, hg, hl, hc, q, er⟩ := h
    cases hc
    refine ⟨_, (pss_one (ps_ret (pe_op op_cat (pe_op op_cat (pe_lst (pa_cons (pe_fld (pv 0) rfl) (pa_cons (pe_fld (pv 0) rfl) pa_nil))) (pe_fld (pv 0) rfl)) (pe_lst (pa_cons (pe_callB call_len_seq (by rfl) T.len PySem.boot_len (pa_cons (pe_fld (pv 0) rfl) pa_nil)) pa_nil))))), ?_⟩
    obtain ⟨dx, w, d, ds, X⟩ := FX.of hF
    refine ⟨_, rfl, a, A.cField, dx, _, _, rfl, X.at_, T.clField, T.nRows, fF_rows _ _ _, _, rfl, a, A.cField, dx, _, _, rfl, X.at_, T.clField, T.nColumns, fF_cols _ _ _, (by show 2 ≤ sizeLine; decide), fun p1 n1 => ?_⟩
    have X1 := X.on (same_new (o := .lst [.int fl.rows, .int fl.cols]) n1)
    have hp1 : (upd H p1 (.lst [.int fl.rows, .int fl.cols])) p1 = some (.lst [.int fl.rows, .int fl.cols]) := upd_same
    generalize upd H p1 (.lst [.int fl.rows, .int fl.cols]) = H1 at *
    have hw4 : (fl.walls.map wv).length = 4 := by rw [List.length_map]; exact X.wf.w4
    refine ⟨_, rfl, a, A.cField, dx, _, _, rfl, X1.at_, T.clField, T.nWalls, fF_walls _ _ _, p1, w, _, _, rfl, rfl, hp1, X1.hw, (by rw [hw4]; show 6 ≤ sizeLine; decide), fun p2 n2 => ?_⟩
    have X2 := X1.on (same_new (o := .lst ([.int fl.rows, .int fl.cols] ++ fl.walls.map wv)) n2)
    have hp2 : (upd H1 p2 (.lst ([.int fl.rows, .int fl.cols] ++ fl.walls.map wv))) p2 = some (.lst ([.int fl.rows, .int fl.cols] ++ fl.walls.map wv)) := upd_same
    generalize upd H1 p2 (.lst ([.int fl.rows, .int fl.cols] ++ fl.walls.map wv)) = H2 at *
    refine ⟨_, rfl, a, A.cField, dx, _, _, rfl, X2.at_, T.clField, T.nDays, fF_days _ _ _, d, ds, rfl, .inl (SqL.of X2.hd), (by show 1 ≤ sizeLine; decide), fun p3 n3 => ?_⟩
    have X3 := X2.on (same_new (o := .lst [.int ds.length]) n3)
    have hp3 : (upd H2 p3 (.lst [.int ds.length])) p3 = some (.lst [.int ds.length]) := upd_same
    have hp2' : (upd H2 p3 (.lst [.int ds.length])) p2 = some (.lst ([.int fl.rows, .int fl.cols] ++ fl.walls.map wv)) := (upd_ne (ne_of_none hp2 n3)).trans hp2
    generalize upd H2 p3 (.lst [.int ds.length]) = H3 at *
    refine ⟨p2, p3, _, _, rfl, rfl, hp2', hp3, (by rw [List.length_append, hw4]; show 7 ≤ sizeLine; decide), fun p4 n4 => ?_⟩
    obtain ⟨h4, h5⟩ := X3.toIn.new (o := .lst (([.int fl.rows, .int fl.cols] ++ fl.walls.map wv) ++ [.int ds.length])) n4
    refine q _ _ rfl _ p4 h4 h5 (upd_same.trans ?_)
    rw [X.hds.len]
    unfold intsV VbsyCore.ints
    simp only [List.map_append, List.map_cons, List.map_nil, List.map_map]
    congr 4
    refine List.map_congr_left fun b _ => ?_
    cases b <;> rfl
def cRect : List Int → Option Vbsyae.Call
  | [a, b] => some (.rect a b)
  | _ => none
theorem ok_answer_rect {f : Addr} {fd : FuncData} (F : Fun K "answer_rect" "answer_rect" s_answer_rect f fd) (T : Txt K mg A) (c_check_range : Cal P w K mg base (L2.CX P w) 4 "check_range" ["number", "least", "most"] (sp_check_range A)) (x_NotThere : CalX P w K mg base CX0 2 "NotThere" A.cNotThere ["self"] (sp_x0 K A.cNotThere (-5))) (c_rectangle_cost : Cal P w K mg base CX0 2 "rectangle_cost" ["field", "high", "wide"] (sp_rectangle_cost A)) (c_rectangle_put : Cal P w K mg base CX0 2 "rectangle_put" ["field", "high", "wide"] (sp_rectangle_put A)) : FnOk P w K mg base (L2.CX P w) 5 f fd ["field", "given"] (sp_ans A K cRect) := by
  refine F.okX sc_answer_rect (fun vs H Q E h => ?_) (fun cdv B outer s H vs Q E hr h => ?_)
  · obtain ⟨F, a, g, f, l, c, rfl, _⟩ := h
    rfl
  · obtain ⟨Fr, a, g, fl, l, c, rfl, hF, hg, hl, hc, q, er⟩ := h
    match l, hc with
    | [x, y], hc =>
    cases hc
    refine ⟨_, (pss_cons (ps_set (i := 2) sc_answer_rect.nd rfl (Or.inl rfl) (pe_ix ix_list (pv 1) pe_int (fun _ _ => rfl)))
      (pss_cons (ps_set (i := 3) sc_answer_rect.nd rfl (Or.inl rfl) (pe_ix ix_list (pv 1) pe_int (fun _ _ => rfl)))
      (pss_cons (ps_expr (pe_cal c_check_range hr (by rfl) (passes_call (takes_of rfl rfl rfl rfl) fun _ _ _ _ h => h) (pa_cons (pv 2) (pa_cons pe_int (pa_cons (pe_gi T.MOST_LINES (by rfl)) pa_nil)))))
      (pss_cons (ps_expr (pe_cal c_check_range hr (by rfl) (passes_call (takes_of rfl rfl rfl rfl) fun _ _ _ _ h => h) (pa_cons (pv 3) (pa_cons pe_int (pa_cons (pe_gi T.MOST_LINES (by rfl)) pa_nil)))))
      (pss_cons (ps_if (PW.pt (pw_or (pt_cmpR op_gt (pv 2) (pe_fld (pv 0) rfl) (nomark _)) (pw_or1 (pt_cmpR op_gt (pv 3) (pe_fld (pv 0) rfl) (nomark _))))) (pss_one (ps_raise rfl (takes_of rfl rfl rfl rfl) (pmk_calX0 x_NotThere (hr.mono (by decide)) (by rfl) pass0))) pss_nil)
      (pss_one (ps_ret (pe_op op_cat (pe_lst (pa_cons (pe_cal c_rectangle_cost (hr.mono (by decide)) (by rfl) pass0 (pa_cons (pv 0) (pa_cons (pv 2) (pa_cons (pv 3) pa_nil)))) pa_nil)) (pe_cal c_rectangle_put (hr.mono (by decide)) (by rfl) pass0 (pa_cons (pv 0) (pa_cons (pv 2) (pa_cons (pv 3) pa_nil)))))))))))), ?_⟩
    obtain ⟨x5, -, hno5, -⟩ := T.errs A.cNotThere (by simp)
    refine ⟨_, rfl, g, _, 0, _, rfl, rfl, hg, rfl, _, rfl, g, _, 1, _, rfl, rfl, hg, rfl, ?_⟩
    refine ⟨_, rfl, x, 1, 8, rfl, fun hx => ?_, fun hb => ?_⟩
    rotate_left
    · refine er (-3) ?_ A.cOutOfRange (by simp [errs])
      show (do let a ← Vbsyae.ranged x 1 8; _) = _
      rw [ranged_bad hb]
      rfl
    refine ⟨_, rfl, y, 1, 8, rfl, fun hy => ?_, fun hb => ?_⟩
    rotate_left
    · refine er (-3) ?_ A.cOutOfRange (by simp [errs])
      unfold Vbsyae.run
      dsimp only [bind, Except.bind]
      rw [ranged_ok hx]
      dsimp only
      rw [ranged_bad hb]
    have hrun : Vbsyae.run fl (.rect x y) = if fl.rows < x.toNat ∨ fl.cols < y.toNat then .error (-5) else .ok (fl, (Vbsyae.rectCost fl x.toNat y.toNat : Int) :: Vbsyae.foldRow (Vbsyae.putAt fl x.toNat y.toNat)) := by
      unfold Vbsyae.run
      dsimp only [bind, Except.bind]
      rw [ranged_ok hx]
      dsimp only
      rw [ranged_ok hy]
      rfl
    rw [hrun] at q er
    obtain ⟨k, rfl⟩ : ∃ k : Nat, x = (k : Int) := ⟨x.toNat, by omega⟩
    obtain ⟨m, rfl⟩ : ∃ m : Nat, y = (m : Int) := ⟨y.toNat, by omega⟩
    rw [Int.toNat_natCast, Int.toNat_natCast] at q er
    obtain ⟨dx, w, d, ds, X⟩ := FX.of hF
    simp only [tSeq, tIfS, tB, tVar, tRet, tRetN, tDrop, tAsg, gName, tOp, tC, tUn, rU, rI, rI0, tNext, tIf, tTest, tAnd, tOr, tNot, tAndV, tOrV, tNotV, tCons, tNil, tCal, tCalM, tCalC, tBase, tFld, sFld, sFldAug, L2.rAdd, tIsN, tNotN, rEq, rNe, scal_ii, scal_bb, scal_ss, scal_sn, scal_ns, scal_in, scal_ni, cxK, cxK2, tAug, ipI, L2.start, List.map_cons, List.map_nil, List.cons_append, List.nil_append, List.length_cons, List.length_nil, Nat.reduceAdd, Nat.reduceSub, List.replicate_zero, List.replicate_succ, List.append_nil, List.set_cons_zero, List.set_cons_succ, List.getElem?_cons_zero, List.getElem?_cons_succ, Option.some.injEq, exists_eq_left', exists_eq_left, exists_eq_right, exists_eq', V.int.injEq, V.bl.injEq, V.ref.injEq, V.str.injEq, HO.ins.injEq, and_assoc, true_and, and_true, exists_and_left, List.cons.injEq, exists_const, ne_eq, reduceCtorEq, not_false_eq_true, decide_true, decide_false, if_true, if_false, false_and, false_or, Bool.not_true, Bool.not_false, Bool.false_eq_true, T.clField, T.nRows, T.nColumns, T.nWalls, T.nDays, fF_rows, fF_cols, fF_walls, fF_days, X.at_]
    by_cases c5 : fl.rows < k
    · rw [decide_eq_true (show ((fl.rows : Nat) : Int) < (k : Int) by omega)]
      rw [if_pos (Or.inl c5)] at er
      exact iteT (mk0_ok x5 hno5 (er _ rfl A.cNotThere (by simp [errs])))
    rw [decide_eq_false (show ¬ ((fl.rows : Nat) : Int) < (k : Int) by omega)]
    by_cases c6 : fl.cols < m
    · rw [decide_eq_true (show ((fl.cols : Nat) : Int) < (m : Int) by omega)]
      rw [if_pos (Or.inr c6)] at er
      exact iteF (iteT (mk0_ok x5 hno5 (er _ rfl A.cNotThere (by simp [errs]))))
    rw [decide_eq_false (show ¬ ((fl.cols : Nat) : Int) < (m : Int) by omega)]
    rw [if_neg (by omega)] at q
    refine iteF (iteF ?_)
    simp only [tLst, tSeq, tIfS, tB, tVar, tRet, tRetN, tDrop, tAsg, gName, tOp, tC, tUn, rU, rI, rI0, tNext, tIf, tTest, tAnd, tOr, tNot, tAndV, tOrV, tNotV, tCons, tNil, tCal, tCalM, tCalC, tBase, tFld, sFld, sFldAug, L2.rAdd, tIsN, tNotN, rEq, rNe, scal_ii, scal_bb, scal_ss, scal_sn, scal_ns, scal_in, scal_ni, cxK, cxK2, tAug, ipI, L2.start, List.map_cons, List.map_nil, List.cons_append, List.nil_append, List.length_cons, List.length_nil, Nat.reduceAdd, Nat.reduceSub, List.replicate_zero, List.replicate_succ, List.append_nil, List.set_cons_zero, List.set_cons_succ, List.getElem?_cons_zero, List.getElem?_cons_succ, Option.some.injEq, exists_eq_left', exists_eq_left, exists_eq_right, exists_eq', V.int.injEq, V.bl.injEq, V.ref.injEq, V.str.injEq, HO.ins.injEq, and_assoc, true_and, and_true, exists_and_left, List.cons.injEq, exists_const, ne_eq, reduceCtorEq, not_false_eq_true, decide_true, decide_false, if_true, if_false, false_and, false_or, Bool.not_true, Bool.not_false, Bool.false_eq_true]
    refine ⟨a, fl, k, m, rfl, hF.at, by omega, by omega, ?_⟩
    refine ⟨(by show 1 ≤ sizeLine; decide), fun p1 n1 => ?_⟩
    have s1 := same_new (o := .lst [.int (Vbsyae.rectCost fl k m)]) n1
    refine ⟨a, fl, k, m, rfl, (hF.on s1).at, by omega, by omega, fun H2 p2 s2 n2 h2 => ?_⟩
    refine ⟨p1, p2, _, _, rfl, rfl, s2 _ _ upd_same, h2, (by simp [Vbsyae.foldRow, VbsyCore.ints]; decide), fun p3 n3 => ?_⟩
    obtain ⟨h4, h5⟩ := ((hF.on s1).on s2).new (o := .lst ([.int (Vbsyae.rectCost fl k m)] ++ (Vbsyae.foldRow (Vbsyae.putAt fl k m)).map V.int)) n3
    exact q _ _ rfl _ p3 h4 h5 upd_same
end
end HF
namespace HF
open PySem PySem.Spec PyProof.Rows L2
abbrev s_answer_sides : Stmt := top 75
theorem sc_answer_sides : FnScope ["field", "given", "found", "answered", "cell", "side"] ["field", "given"] (defScope s_answer_sides) := ⟨rfl, rfl, rfl, by decide +kernel, rfl, by decide +kernel, by decide +kernel⟩
abbrev s_answer_look : Stmt := top 69
theorem sc_answer_look : FnScope ["field", "given", "fault"] ["field", "given"] (defScope s_answer_look) := ⟨rfl, rfl, rfl, by decide +kernel, rfl, by decide +kernel, by decide +kernel⟩
section
variable {P : Program} {w : World} {K : PySem.W.Frag} {mg : Str → Option Value} {base : Heap} {A : Ad}
/-! ### rising cells -/
theorem rise_all : ∀ {l : List Nat} {a : Nat}, Vbsyae.isRising (a :: l) = true → ∀ x ∈ l, a < x
  | [], _, _, x, hx => by cases hx
  | b :: l, a, h, x, hx => by
    have h1 : (decide (a < b) && Vbsyae.isRising (b :: l)) = true := h
    rw [Bool.and_eq_true, decide_eq_true_eq] at h1
    rcases List.mem_cons.mp hx with z | z
    · rw [z]; exact h1.1
    · exact Nat.lt_trans h1.1 (rise_all h1.2 x z)
theorem rise_tail {l : List Nat} {a : Nat} (h : Vbsyae.isRising (a :: l) = true) : Vbsyae.isRising l = true := by
  cases l with
  | nil => rfl
  | cons b l =>
    have h1 : (decide (a < b) && Vbsyae.isRising (b :: l)) = true := h
    rw [Bool.and_eq_true] at h1
    exact h1.2
theorem rise_cons {l : List Nat} {a : Nat} (h : Vbsyae.isRising l = true) (ha : ∀ x ∈ l, a < x) : Vbsyae.isRising (a :: l) = true := by
  cases l with
  | nil => rfl
  | cons b l =>
    show (decide (a < b) && Vbsyae.isRising (b :: l)) = true
    rw [h, decide_eq_true (ha b (by simp))]
    rfl
theorem rise_pairwise : ∀ {l : List Nat}, Vbsyae.isRising l = true → l.Pairwise (· < ·)
  | [], _ => .nil
  | a :: l, h => .cons (rise_all h) (rise_pairwise (rise_tail h))
theorem rising_iff (n : Nat) : ∀ (l : List Int) (b : Int), -1 ≤ b → (risingFrom n b l = true ↔ (∀ c ∈ l, b < c ∧ c < n) ∧ Vbsyae.isRising (l.map Int.toNat) = true)
  | [], b, _ => by simp [risingFrom, Vbsyae.isRising]
  | c :: l, b, hb => by
    show (!(decide (c ≤ b) || decide ((n : Int) ≤ c)) && risingFrom n c l) = true ↔ _
    constructor
    · intro h
      rw [Bool.and_eq_true] at h
      obtain ⟨h1, h2⟩ := h
      simp at h1
      obtain ⟨h3, h4⟩ := (rising_iff n l c (by omega)).mp h2
      refine ⟨fun x hx => ?_, ?_⟩
      · rcases List.mem_cons.mp hx with z | z
        · rw [z]; exact ⟨by omega, by omega⟩
        · have := h3 x z
          exact ⟨by omega, this.2⟩
      · rw [List.map_cons]
        refine rise_cons h4 fun x hx => ?_
        obtain ⟨y, hy, rfl⟩ := List.mem_map.mp hx
        have := h3 y hy
        omega
    · rintro ⟨h3, h4⟩
      have hc := h3 c (by simp)
      rw [List.map_cons] at h4
      have h5 : risingFrom n c l = true := (rising_iff n l c (by omega)).mpr ⟨fun x hx => ⟨?_, (h3 x (List.mem_cons_of_mem _ hx)).2⟩, rise_tail h4⟩
      · rw [h5]
        have e1 : decide (c ≤ b) = false := decide_eq_false (by omega)
        have e2 : decide ((n : Int) ≤ c) = false := decide_eq_false (by omega)
        rw [e1, e2]
        rfl
      · have h6 := rise_all h4 x.toNat (List.mem_map.mpr ⟨x, hx, rfl⟩)
        have h7 := h3 x (List.mem_cons_of_mem _ hx)
        omega
theorem cells_iff (f : Vbsyae.Field) (l : List Int) : risingFrom (Vbsyae.cells f) (-1) l = true ↔ ((l.all fun c => VbsyCore.isBetween c 0 ((Vbsyae.cells f : Int) - 1)) = true ∧ Vbsyae.isRising (l.map Int.toNat) = true) := by
  rw [rising_iff _ _ _ (by omega)]
  constructor
  · rintro ⟨h1, h2⟩
    refine ⟨List.all_eq_true.mpr fun x hx => ?_, h2⟩
    have := h1 x hx
    unfold VbsyCore.isBetween
    simp
    omega
  · rintro ⟨h1, h2⟩
    refine ⟨fun x hx => ?_, h2⟩
    have := List.all_eq_true.mp h1 x hx
    unfold VbsyCore.isBetween at this
    simp at this
    omega
theorem cellsIn_ok {f : Vbsyae.Field} {l : List Int} (h : risingFrom (Vbsyae.cells f) (-1) l = true) : Vbsyae.cellsIn f l = .ok (l.map Int.toNat) := by
  unfold Vbsyae.cellsIn
  rw [if_pos ((cells_iff f l).mp h)]
theorem cellsIn_bad {f : Vbsyae.Field} {l : List Int} (h : risingFrom (Vbsyae.cells f) (-1) l = false) : Vbsyae.cellsIn f l = .error (-4) := by
  unfold Vbsyae.cellsIn
  rw [if_neg]
  intro z
  rw [(cells_iff f l).mpr z] at h
  cases h
/-- rising cells that there are -/
structure Cells (f : Vbsyae.Field) (l : List Nat) : Prop where
  rise : Vbsyae.isRising l = true
  lt : ∀ c ∈ l, c < Vbsyae.cells f
theorem cells_of {f : Vbsyae.Field} {l : List Int} (h : risingFrom (Vbsyae.cells f) (-1) l = true) : intsV l = natsV (l.map Int.toNat) ∧ Cells f (l.map Int.toNat) := by
  obtain ⟨h1, h2⟩ := (rising_iff _ _ _ (by omega)).mp h
  refine ⟨?_, h2, fun c hc => ?_⟩
  · unfold intsV natsV
    rw [List.map_map]
    refine List.map_congr_left fun x hx => ?_
    have := h1 x hx
    show V.int x = V.int (x.toNat : Int)
    congr 1
    omega
  · obtain ⟨x, hx, rfl⟩ := List.mem_map.mp hc
    have := h1 x hx
    omega
theorem pair_ext : ∀ {l m : List Nat}, l.Pairwise (· < ·) → m.Pairwise (· < ·) → (∀ x, x ∈ l ↔ x ∈ m) → l = m
  | [], [], _, _, _ => rfl
  | [], y :: m, _, _, h => by
    have := (h y).mpr (by simp)
    cases this
  | x :: l, [], _, _, h => by
    have := (h x).mp (by simp)
    cases this
  | x :: l, y :: m, h1, h2, h => by
    obtain ⟨a1, b1⟩ := List.pairwise_cons.mp h1
    obtain ⟨a2, b2⟩ := List.pairwise_cons.mp h2
    have e : x = y := by
      rcases List.mem_cons.mp ((h x).mp (by simp)) with z | z
      · exact z
      · rcases List.mem_cons.mp ((h y).mpr (by simp)) with z2 | z2
        · exact z2.symm
        · have := a2 x z
          have := a1 y z2
          omega
    subst e
    congr 1
    refine pair_ext b1 b2 fun z => ⟨fun hz => ?_, fun hz => ?_⟩
    · rcases List.mem_cons.mp ((h z).mp (List.mem_cons_of_mem _ hz)) with q | q
      · have := a1 z hz
        omega
      · exact q
    · rcases List.mem_cons.mp ((h z).mpr (List.mem_cons_of_mem _ hz)) with q | q
      · have := a2 z hz
        omega
      · exact q
theorem filter_cells {f : Vbsyae.Field} {l : List Nat} (h : Cells f l) : (List.range (Vbsyae.cells f)).filter (fun c => l.contains c) = l := by
  refine pair_ext (List.Pairwise.filter _ List.pairwise_lt_range) (rise_pairwise h.rise) fun x => ?_
  rw [List.mem_filter, List.mem_range]
  constructor
  · intro z
    simpa using z.2
  · intro z
    exact ⟨h.lt x z, by simpa using z⟩
theorem cells_len {f : Vbsyae.Field} {l : List Nat} (w : Wf f) (h : Cells f l) : l.length ≤ 64 := by
  have e := congrArg List.length (filter_cells h)
  have h2 := List.length_filter_le (fun c => l.contains c) (List.range (Vbsyae.cells f))
  rw [e, List.length_range] at h2
  have h3 : Vbsyae.cells f ≤ 8 * 8 := Nat.mul_le_mul w.r8 w.c8
  omega
theorem flat_filter {α β : Type} (p : α → Bool) (g : α → List β) : ∀ l : List α, (l.flatMap fun c => if p c = true then g c else []) = (l.filter p).flatMap g
  | [] => rfl
  | x :: l => by
    rw [List.flatMap_cons, flat_filter p g l]
    by_cases c : p x = true
    · rw [if_pos c, List.filter_cons_of_pos c, List.flatMap_cons]
    · rw [if_neg c, List.filter_cons_of_neg c]
      rfl
theorem sides_eq {f : Vbsyae.Field} {l : List Nat} (h : Cells f l) : Vbsyae.sides f l = needAll f l := by
  unfold Vbsyae.sides needAll
  have e : (fun c => ((List.range 4).filter fun s => Vbsyae.hurdle f l c s).map fun s => (c, s)) = fun c => if l.contains c = true then needAt f l c else [] := by
    funext c
    by_cases hc : l.contains c = true
    · rw [if_pos hc]
      unfold needAt
      congr 2
      funext s
      unfold Vbsyae.hurdle needs
      rw [hc]
      rfl
    · rw [if_neg hc]
      have hc' : l.contains c = false := by simpa using hc
      have : (List.range 4).filter (fun s => Vbsyae.hurdle f l c s) = [] := by
        rw [List.filter_eq_nil_iff]
        intro s _
        unfold Vbsyae.hurdle
        rw [hc']
        simp
      rw [this]
      rfl
  rw [e, flat_filter, filter_cells h]
def pairInts (l : List (Nat × Nat)) : List Int := l.flatMap fun x => VbsyCore.ints [x.1, x.2]
def cSides : List Int → Option Vbsyae.Call := fun l => some (.sides l)
theorem ok_answer_sides {f : Addr} {fd : FuncData} (F : Fun K "answer_sides" "answer_sides" s_answer_sides f fd) (T : Txt K mg A) (c_check_cells : Cal P w K mg base (L2.CX P w) 4 "check_cells" ["field", "cells"] (sp_check_cells A K)) (c_hurdles : Cal P w K mg base CX0 3 "hurdles" ["field", "cells"] (sp_hurdles A K)) : FnOk P w K mg base (L2.CX P w) 5 f fd ["field", "given"] (sp_ans A K cSides) := by
  refine F.okX sc_answer_sides (fun vs H Q E h => ?_) (fun cdv B outer s H vs Q E hr h => ?_)
  · obtain ⟨F, a, g, f, l, c, rfl, _⟩ := h
    rfl
  · obtain ⟨Fr, a, g, fl, l, c, rfl, hF, hg, hl, hc, q, er⟩ := h
    cases hc
    refine ⟨_, (pss_cons (ps_expr (pe_cal c_check_cells hr (by rfl) (passes_call (takes_of rfl rfl rfl rfl) fun _ _ _ _ h => h) (pa_cons (pv 0) (pa_cons (pv 1) pa_nil))))
      (pss_cons (ps_set (i := 2) sc_answer_sides.nd rfl (Or.inl rfl) (pe_cal c_hurdles (hr.mono (by decide)) (by rfl) pass0 (pa_cons (pv 0) (pa_cons (pv 1) pa_nil))))
      (pss_cons (ps_set (i := 3) sc_answer_sides.nd rfl (Or.inl rfl) (pe_lst (pa_cons (pe_callB call_len_seq (by rfl) T.len PySem.boot_len (pa_cons (pv 2) pa_nil)) pa_nil)))
      (pss_cons (ps_for (passes_of rfl) rfl (pi_list (pv 2)) (pg_tup rfl (pgs_cons (pg_name (i := 4) sc_answer_sides.nd rfl (Or.inl rfl)) (pgs_cons (pg_name (i := 5) sc_answer_sides.nd rfl (Or.inl rfl)) pgs_nil)))
      (pss_cons (ps_expr (pe_bm PySem.F.plainAttrs_list PySem.F.slot_list_append PySem.F.type_list_append mt_append (pv 3) (pa_cons (pv 4) pa_nil)))
      (pss_one (ps_expr (pe_bm PySem.F.plainAttrs_list PySem.F.slot_list_append PySem.F.type_list_append mt_append (pv 3) (pa_cons (pv 5) pa_nil))))))
      (pss_one (ps_ret (pv 3))))))), ?_⟩
    refine ⟨_, rfl, _, rfl, a, g, fl, l, rfl, hF.at, hg, fun hb => ?_, fun hb => ?_⟩
    rotate_left
    · refine er (-4) ?_ A.cWrongList (by simp [errs])
      unfold Vbsyae.run
      dsimp only
      rw [cellsIn_bad hb]
      rfl
    obtain ⟨e1, hC⟩ := cells_of hb
    have hrun : Vbsyae.run fl (.sides l) = .ok (fl, ((Vbsyae.sides fl (l.map Int.toNat)).length : Int) :: pairInts (Vbsyae.sides fl (l.map Int.toNat))) := by
      unfold Vbsyae.run
      dsimp only
      rw [cellsIn_ok hb]
      rfl
    rw [hrun] at q
    rw [e1] at hg
    generalize l.map Int.toNat = m at *
    rw [sides_eq hC] at q
    have h64 := cells_len hF.wf hC
    have hnl : (needAll fl m).length ≤ 256 := by
      have h1 : (needAll fl m).length ≤ 4 * m.length := flat_len fun c => needAt_len fl m c
      omega
    refine ⟨_, rfl, _, rfl, a, g, fl, m, rfl, hF.at, hg, h64, fun H1 r vs s1 nr hr hps => ?_⟩
    generalize needAll fl m = ps at *
    refine ⟨_, rfl, r, vs, rfl, .inl (SqL.of hr), (by show 1 ≤ sizeLine; decide), fun o no => ?_⟩
    rw [hps.len]
    have s2 := same_new (o := .lst [.int ps.length]) no
    dsimp only [tSeq]
    obtain ⟨Pv, hPv⟩ : ∃ Pv : Nat → L2.St → Hp → Prop, ∀ i σ H', Pv i σ H' ↔ ∃ (y4 y5 : Option V), σ = [some (.ref a), some (.ref g), some (.ref r), some (.ref o), y4, y5] ∧ Same H1 H' ∧ H' o = some (.lst (intsV ((ps.length : Int) :: pairInts (ps.take i)))) := ⟨_, fun _ _ _ => Iff.rfl⟩
    refine q_forL (a := r) (xs := vs) Pv (fun R h => by exact ⟨_, rfl, h⟩) ((hPv _ _ _).mpr ⟨none, none, rfl, s2, upd_same⟩) (fun i σ H' _ h5 => ?_) (fun i v σ H' hi h5 => ?_) (fun σ H' h5 => ?_)
    · obtain ⟨_, _, _, s5, _⟩ := (hPv _ _ _).mp h5
      exact SqL.of (s5 _ _ hr)
    · obtain ⟨y4, y5, rfl, s5, ho⟩ := (hPv _ _ _).mp h5
      obtain ⟨t, x, rfl, hx, ht⟩ := hps.get hi
      have hil : i < ps.length := (List.getElem?_eq_some_iff.mp hx).1
      have hlen : ∀ ps : List (Nat × Nat), (pairInts ps).length = 2 * ps.length := fun ps => by
        induction ps with
        | nil => rfl
        | cons z ps ih =>
          unfold pairInts at ih ⊢
          rw [List.flatMap_cons, List.length_append, ih, List.length_cons]
          show 2 + _ = _
          omega
      have hlt : ∀ k : Nat, k ≤ 1 → ((intsV ((ps.length : Int) :: pairInts (ps.take i))).length + k) < sizeLine := fun k hk => by
        unfold intsV
        rw [List.length_map, List.length_cons, hlen, List.length_take]
        exact Nat.lt_of_le_of_lt (show _ ≤ 1000 by omega) (by decide)
      refine ⟨t, _, rfl, Or.inl (Or.inl (s5 _ _ ht)), rfl, _, _, rfl, _, _, rfl, rfl, ?_⟩
      refine ⟨_, rfl, .inl ⟨rfl, _, SqL.of ho⟩, _, rfl, o, _, _, rfl, rfl, ho, hlt 0 (by omega), ?_⟩
      refine ⟨_, rfl, .inl ⟨rfl, _, SqL.of upd_same⟩, _, rfl, o, _, _, rfl, rfl, upd_same, ?_, ?_⟩
      · rw [List.length_append]
        exact hlt 1 (Nat.le_refl _)
      · refine (hPv _ _ _).mpr ⟨_, _, rfl, fun b z e => ?_, ?_⟩
        · have nb : b ≠ o := ne_of_none e no
          rw [upd_ne nb, upd_ne nb]
          exact s5 _ _ e
        · rw [upd_same, take_get hx]
          unfold intsV pairInts
          rw [List.flatMap_append, List.map_cons, List.map_cons, List.map_append]
          simp [VbsyCore.ints]
    · obtain ⟨y4, y5, rfl, s5, ho⟩ := (hPv _ _ _).mp h5
      rw [hps.len, List.take_length] at ho
      refine ⟨_, rfl, ?_⟩
      have hF5 := (hF.on s1).on s5
      exact q _ _ rfl _ o hF5 ((hF.on s1).same.free no) ho
/-! ### a caught error's field -/
/-- the reading: the class is told by the error itself -/
def tXa (K : PySem.W.Frag) (a : Addr) (cls : Value) (d : Option Addr) (n : Str) (te : TE) : TE := fun σ H Q => te σ H fun x H1 => x = .ref a ∧ ∃ (C dd : Addr) (fs : List (Str × V)) (v : V), cls = .ref C ∧ XfC K C ∧ PySem.W.findIn K (.ref C) n = some none ∧ d = some dd ∧ H1 dd = some (.xd fs) ∧ fs.lookup n = some v ∧ Q v H1
theorem pe_xfa {X : Cx} {a : Addr} {oe : Obj} {cls : Value} {d : Option Addr} {pn : List (Addr × Obj)} {e : Expr} {te : TE} {pos : Pos} {n : Str} (hz : Zc cls d oe) (hf : ∃ vs, oe.data = .fields vs) (he : PE (X.suite a ((a, oe) :: pn)) e te)
    (hb : attributeBase e n X.env (eval e X.env) = eval e X.env := by rfl) : PE (X.suite a ((a, oe) :: pn)) (.Attribute e n pos) (tXa X.K a cls d n te) := by
  refine ⟨fun pins s σ H Q I h => ?_⟩
  refine attr_of hb (thn (he.run pins s σ H _ I h) fun u s1 hh => ?_)
  obtain ⟨x, H1, I1, rx, ex, C, dd, fs, v, ec, T, hno, ed, ea, l, q⟩ := hh
  subst ex ec ed
  obtain rfl : u = Value.ref a := rx
  obtain ⟨ha, _⟩ := I1.pin (a, oe) (List.mem_append_left _ List.mem_cons_self)
  obtain ⟨vs, hd⟩ := hf
  have hx : ObjOk X.prog X.w H1 s1.heap dd (.xd fs) := I1.hok dd _ ea
  obtain ⟨mA, hns, hr⟩ := hx
  obtain ⟨od, ho, hl⟩ := lookIn_ns hns
  obtain ⟨u, hu, ru⟩ := RelO.some_of (v := v) (o := mA n) (by rw [← l]; exact hr n)
  have J : PySem.W.InstAt s1.heap a oe C (some od) := ⟨ha, hz.1, by unfold PySem.W.notCls; rw [hd] <;> rfl, by rw [hz.2]; exact ho⟩
  exact HandSPX.exc_get I1.kIn J T.ga T.gg T.exC (PySem.W.findObj_own T.hdC hno rfl (by rw [hl, hu])) (handed_of ru) ⟨v, H1, I1.tok _, ru, q⟩
def cLook : List Int → Option Vbsyae.Call := fun l => some (.look l)
theorem ok_answer_look {f : Addr} {fd : FuncData} (F : Fun K "answer_look" "answer_look" s_answer_look f fd) (T : Txt K mg A) (c_check_bytes : Cal P w K mg base (L2.CX P w) 4 "check_bytes" ["text"] (sp_check_bytes A K)) (c_read_field : Cal P w K mg base (L2.CX P w) 7 "read_field" ["text"] (sp_read_field A K)) : FnOk P w K mg base (L2.CX P w) 8 f fd ["field", "given"] (sp_ans A K cLook) := by
  refine F.okX sc_answer_look (fun vs H Q E h => ?_) (fun cdv B outer s H vs Q E hr h => ?_)
  · obtain ⟨F, a, g, f, l, c, rfl, _⟩ := h
    rfl
  · obtain ⟨Fr, a, g, fl, l, c, rfl, hF, hg, hl, hc, q, er⟩ := h
    cases hc
    refine ⟨_, (pss_cons (ps_expr (pe_cal c_check_bytes (hr.mono (by decide)) (by rfl) (passes_call (takes_of rfl rfl rfl rfl) fun _ _ _ _ h => h) (pa_cons (pv 1) pa_nil)))
      (pss_cons (ps_try_as (i := 2) (tb := fun W => tDrop (tCalS (sp_read_field A K) (WE W) (tCons (tVar 1) tNil))) (ts := fun a cls d => tRet (tLst (tCons (tC (.int 1)) (tCons (tXa K a cls d "place" (tVar 2)) tNil)))) (Wout := fun _ _ _ _ => False) rfl rfl sc_answer_look.nd rfl rfl ⟨rfl, by decide, Or.inl T.gTextFault⟩ takes0
          (fun W pn xe tk _ => pss_one (ps_expr (by exact (pe_calS c_read_field hr (by rfl) (fun σ => passAt tk σ) (by exact (pa_cons (pv 1) pa_nil))))))
          (fun a oe cls d pn hz hf => pss_one (ps_ret (by exact (pe_lst (pa_cons pe_int (pa_cons (pe_xfa hz hf (pv 2)) pa_nil)))))))
      (pss_one (ps_ret (pe_lst (pa_cons pe_int pa_nil)))))), ?_⟩
    refine ⟨_, rfl, g, l, rfl, hg, fun hb => ?_, fun hb => ?_⟩
    rotate_left
    · refine er (-1) ?_ A.cNotBytes (by simp [errs])
      show (do let b ← Vbsyae.textIn l; _) = _
      rw [textIn_bad hb]
      rfl
    rw [ints_bytes hb] at hg
    have hrun : Vbsyae.run fl (.look l) = match Vbsyae.readField (l.map Int.toNat) with
        | .error p => .ok (fl, [1, (p : Int)])
        | .ok _ => .ok (fl, [0]) := by
      show (do let b ← Vbsyae.textIn l; _) = _
      rw [textIn_ok hb hl]
      dsimp only [bind, Except.bind]
      cases Vbsyae.readField (l.map Int.toNat) <;> rfl
    rw [hrun] at q er
    obtain ⟨x, xf, hno, hno2, -⟩ := T.errs A.cTextFault (by simp)
    refine ⟨_, rfl, g, l.map Int.toNat, rfl, hg, by simpa using hl, fun gf hm H2 b s2 nb hG => ?_, fun n hm => ?_⟩
    · rw [hm] at q
      refine ⟨(by show 1 ≤ sizeLine; decide), fun p np => ?_⟩
      obtain ⟨h4, h5⟩ := (hF.on s2).new (o := .lst [.int 0]) np
      exact q _ _ rfl _ p h4 h5 upd_same
    · rw [hm] at q
      intro H' dd fs nd s2 h1 h2 h3
      refine ⟨true, T.tf, fun _ a0 na0 => ?_, fun z => Bool.noConfusion z⟩
      refine ⟨_, rfl, rfl, A.cTextFault, dd, fs, _, rfl, xf, hno2, rfl, h1, h3, (by show 2 ≤ sizeLine; decide), fun p np => ?_⟩
      obtain ⟨h4, h5⟩ := (hF.on s2).new (o := .lst [.int 1, .int n]) np
      exact q _ _ rfl _ p h4 h5 upd_same
end
end HF
namespace HF
open PySem PySem.Spec PyProof.Rows L2
abbrev s_every_rectangle : Stmt := top 51
theorem sc_every_rectangle : FnScope ["field", "found", "high", "wide"] ["field"] (defScope s_every_rectangle) := ⟨rfl, rfl, rfl, by decide +kernel, rfl, by decide +kernel, by decide +kernel⟩
abbrev s_first_size : Stmt := top 52
theorem sc_first_size : FnScope ["ranked", "first"] ["ranked"] (defScope s_first_size) := ⟨rfl, rfl, rfl, by decide +kernel, rfl, by decide +kernel, by decide +kernel⟩
abbrev s_greatest_rectangle : Stmt := top 53
theorem sc_greatest_rectangle : FnScope ["field", "most_hurdles", "ranked", "high", "wide", "cost"] ["field", "most_hurdles"] (defScope s_greatest_rectangle) := ⟨rfl, rfl, rfl, by decide +kernel, rfl, by decide +kernel, by decide +kernel⟩
abbrev s_cheapest_rectangle : Stmt := top 54
theorem sc_cheapest_rectangle : FnScope ["field", "least_cells", "ranked", "high", "wide", "cost"] ["field", "least_cells"] (defScope s_cheapest_rectangle) := ⟨rfl, rfl, rfl, by decide +kernel, rfl, by decide +kernel, by decide +kernel⟩
abbrev s_answer_best : Stmt := top 77
theorem sc_answer_best : FnScope ["field", "given", "greatest", "high", "wide"] ["field", "given"] (defScope s_answer_best) := ⟨rfl, rfl, rfl, by decide +kernel, rfl, by decide +kernel, by decide +kernel⟩
section
variable {P : Program} {w : World} {K : PySem.W.Frag} {mg : Str → Option Value} {base : Heap} {A : Ad}
/-! ### the greatest rectangle: the least of rows of numbers -/
def rowOf (f : Vbsyae.Field) (x : Nat × Nat) : List Int := [-(x.1 : Int) * (x.2 : Int), (Vbsyae.rectCost f x.1 x.2 : Nat), (x.1 : Nat), (x.2 : Nat)]
theorem rowOf_lt (f : Vbsyae.Field) (x y : Nat × Nat) (hx : 0 < x.1) (hy : 0 < y.1) : rowLt (rowOf f x) (rowOf f y) = Vbsyae.better f x y := by
  obtain ⟨a, b⟩ := x
  obtain ⟨c, d⟩ := y
  unfold rowOf Vbsyae.better
  have e1 : (-(a : Int) * (b : Int)) = -((a * b : Nat) : Int) := by simp [Int.neg_mul]
  have e2 : (-(c : Int) * (d : Int)) = -((c * d : Nat) : Int) := by simp [Int.neg_mul]
  dsimp only at hx hy ⊢
  rw [e1, e2]
  generalize hA : a * b = A1
  generalize hB : c * d = B1
  generalize Vbsyae.rectCost f a b = P1
  generalize Vbsyae.rectCost f c d = Q1
  simp only [rowLt]
  by_cases c1 : A1 = B1
  · have c1' : (-(A1 : Int)) = -(B1 : Int) := by omega
    rw [if_pos c1']
    by_cases c2 : P1 = Q1
    · have c2' : ((P1 : Nat) : Int) = (Q1 : Nat) := by omega
      rw [if_pos c2']
      by_cases c3 : a = c
      · have c3' : ((a : Nat) : Int) = (c : Nat) := by omega
        rw [if_pos c3']
        have c4 : b = d := by
          subst c3
          have : a * b = a * d := by rw [hA, hB, c1]
          exact Nat.eq_of_mul_eq_mul_left hx this
        have c4' : ((b : Nat) : Int) = (d : Nat) := by omega
        rw [if_pos c4']
        simp [c1, c2, c3]
      · have c3' : ¬ ((a : Nat) : Int) = (c : Nat) := by omega
        rw [if_neg c3']
        simp [c1, c2]
    · have c2' : ¬ ((P1 : Nat) : Int) = (Q1 : Nat) := by omega
      rw [if_neg c2']
      simp [c1, c2]
  · have c1' : ¬ (-(A1 : Int)) = -(B1 : Int) := by omega
    rw [if_neg c1']
    by_cases c5 : B1 < A1
    · have : -(A1 : Int) < -(B1 : Int) := by omega
      simp [c5, this]
    · have : ¬ -(A1 : Int) < -(B1 : Int) := by omega
      simp [c5, this, c1]
theorem best_fold (f : Vbsyae.Field) : ∀ (l : List (Nat × Nat)) (m : Nat × Nat), 0 < m.1 → (∀ x ∈ l, 0 < x.1) →
    (l.foldl (fun m x => if m.1 = 0 ∨ Vbsyae.better f x m = true then x else m) m).1 ≠ 0 ∧ (l.map (rowOf f)).foldl (fun a y => if rowLt y a = true then y else a) (rowOf f m) = rowOf f (l.foldl (fun m x => if m.1 = 0 ∨ Vbsyae.better f x m = true then x else m) m)
  | [], m, hm, _ => ⟨by show m.1 ≠ 0; omega, rfl⟩
  | x :: l, m, hm, hl => by
    rw [List.map_cons, List.foldl_cons, List.foldl_cons, rowOf_lt f x m (hl x (by simp)) hm]
    by_cases c : Vbsyae.better f x m = true
    · rw [if_pos c, if_pos (Or.inr c)]
      exact best_fold f l x (hl x (by simp)) fun y hy => hl y (List.mem_cons_of_mem _ hy)
    · rw [if_neg c, if_neg (by intro z; rcases z with z | z; omega; exact c z)]
      exact best_fold f l m hm fun y hy => hl y (List.mem_cons_of_mem _ hy)
/-- those that cost at most h -/
def fits (f : Vbsyae.Field) (h : Nat) (l : List (Nat × Nat)) : List (Nat × Nat) := l.filter fun x => decide (Vbsyae.rectCost f x.1 x.2 ≤ h)
theorem best_eq (f : Vbsyae.Field) (h : Nat) : Vbsyae.best f h = (fits f h (Vbsyae.shapes f)).foldl (fun m x => if m.1 = 0 ∨ Vbsyae.better f x m = true then x else m) (0, 0) := rfl
theorem shapes_pos {f : Vbsyae.Field} {x : Nat × Nat} (h : x ∈ Vbsyae.shapes f) : 0 < x.1 := by
  unfold Vbsyae.shapes at h
  obtain ⟨a, _, ha⟩ := List.mem_flatMap.mp h
  obtain ⟨b, _, rfl⟩ := List.mem_map.mp ha
  exact Nat.succ_pos _
/-- rows of numbers, each in a tuple -/
def RowsAt (H : Hp) : List V → List (List Int) → Prop
  | [], [] => True
  | v :: vs, x :: xs => (∃ t, v = .ref t ∧ H t = some (.tup (intsV x))) ∧ RowsAt H vs xs
  | _, _ => False
theorem RowsAt.len {H : Hp} : ∀ {vs : List V} {xs : List (List Int)}, RowsAt H vs xs → vs.length = xs.length
  | [], [], _ => rfl
  | v :: vs, x :: xs, h => congrArg (· + 1) (RowsAt.len h.2)
  | [], _ :: _, h => h.elim
  | _ :: _, [], h => h.elim
theorem RowsAt.imp {H H' : Hp} (k : ∀ t xs, H t = some (.tup xs) → H' t = some (.tup xs)) : ∀ {vs : List V} {xs : List (List Int)}, RowsAt H vs xs → RowsAt H' vs xs
  | [], [], _ => trivial
  | v :: vs, x :: xs, h => ⟨let ⟨t, e, q⟩ := h.1; ⟨t, e, k _ _ q⟩, RowsAt.imp k h.2⟩
  | [], _ :: _, h => h.elim
  | _ :: _, [], h => h.elim
theorem RowsAt.snoc {H : Hp} {t : Addr} {x : List Int} (ht : H t = some (.tup (intsV x))) : ∀ {vs : List V} {xs : List (List Int)}, RowsAt H vs xs → RowsAt H (vs ++ [.ref t]) (xs ++ [x])
  | [], [], _ => ⟨⟨t, rfl, ht⟩, trivial⟩
  | v :: vs, y :: xs, h => ⟨h.1, RowsAt.snoc ht h.2⟩
  | [], _ :: _, h => h.elim
  | _ :: _, [], h => h.elim
theorem RowsAt.get {H : Hp} : ∀ {vs : List V} {xs : List (List Int)} {i : Nat} {v : V} {x : List Int}, RowsAt H vs xs → vs[i]? = some v → xs[i]? = some x → ∃ t, v = .ref t ∧ H t = some (.tup (intsV x))
  | [], [], i, v, x, _, e, _ => by simp at e
  | u :: vs, y :: xs, 0, v, x, h, e, e2 => by
    cases e
    cases e2
    exact h.1
  | u :: vs, y :: xs, i + 1, v, x, h, e, e2 => RowsAt.get (i := i) h.2 (by simpa using e) (by simpa using e2)
  | [], _ :: _, _, _, _, h, _, _ => h.elim
  | _ :: _, [], _, _, _, h, _, _ => h.elim
theorem dp_ints {H : Hp} : ∀ l : List Int, DpAll K H (intsV l) (l.map PyData.int)
  | [] => .nil
  | x :: l => .cons (.int _) (dp_ints l)
theorem RowsAt.dp {H : Hp} : ∀ {vs : List V} {xs : List (List Int)}, RowsAt H vs xs → DpAll K H vs (xs.map tupD)
  | [], [], _ => .nil
  | v :: vs, x :: xs, h => by
    obtain ⟨⟨t, rfl, ht⟩, h2⟩ := h
    exact .cons (.tup (Or.inl (Or.inl ht)) (dp_ints x)) (RowsAt.dp h2)
  | [], _ :: _, h => h.elim
  | _ :: _, [], h => h.elim
theorem RowsAt.get2 {H : Hp} : ∀ {vs : List V} {xs : List (List Int)} {i : Nat} {v : V}, RowsAt H vs xs → vs[i]? = some v → ∃ t x, v = .ref t ∧ xs[i]? = some x ∧ H t = some (.tup (intsV x))
  | [], [], i, v, _, e => by simp at e
  | u :: vs, y :: xs, 0, v, h, e => by
    obtain ⟨⟨t, rfl, q⟩, _⟩ := h
    cases e
    exact ⟨t, y, rfl, rfl, q⟩
  | u :: vs, y :: xs, i + 1, v, h, e => RowsAt.get2 (i := i) h.2 (by simpa using e)
  | [], _ :: _, _, _, h, _ => h.elim
  | _ :: _, [], _, _, h, _ => h.elim
/-- rows, columns and cost of a rectangle -/
def row3 (f : Vbsyae.Field) (x : Nat × Nat) : List Int := [(x.1 : Nat), (x.2 : Nat), (Vbsyae.rectCost f x.1 x.2 : Nat)]
def sp_every (A : Ad) : Sp := fun vs H Q _ => ∃ (a : Addr) (f : Vbsyae.Field), vs = [.ref a] ∧ FieldAt A.cField H a f ∧
  ∀ (H' : Hp) (r : Addr) (vs : List V), Same H H' → H r = none → H' r = some (.lst vs) → RowsAt H' vs ((Vbsyae.shapes f).map (row3 f)) → Q (.ref r) H'
theorem ok_every {f : Addr} {fd : FuncData} (F : Fun K "every_rectangle" "every_rectangle" s_every_rectangle f fd) (T : Txt K mg A) (c_rectangle_cost : Cal P w K mg base CX0 2 "rectangle_cost" ["field", "high", "wide"] (sp_rectangle_cost A)) : FnOk P w K mg base CX0 3 f fd ["field"] (sp_every A) := by
  refine F.ok sc_every_rectangle (fun vs H Q E h => ?_) (fun cdv B outer s H vs Q E hr h => ?_)
  · obtain ⟨a, f, rfl, _⟩ := h
    rfl
  · obtain ⟨a, fl, rfl, hF, q⟩ := h
    refine ⟨_, (pss_cons (ps_set (i := 1) sc_every_rectangle.nd rfl (Or.inl rfl) (pe_lst pa_nil))
      (pss_cons (ps_for PassesOwn.never rfl (pi_range2 (by rfl) T.range (pa_cons pe_int (pa_cons (pe_op op_add (pe_fld (pv 0) rfl) pe_int) pa_nil))) (pg_name (i := 2) sc_every_rectangle.nd rfl (Or.inl rfl))
      (pss_one (ps_for PassesOwn.never rfl (pi_range2 (by rfl) T.range (pa_cons pe_int (pa_cons (pe_op op_add (pe_fld (pv 0) rfl) pe_int) pa_nil))) (pg_name (i := 3) sc_every_rectangle.nd rfl (Or.inl rfl))
      (pss_one (ps_expr (pe_bm PySem.F.plainAttrs_list PySem.F.slot_list_append PySem.F.type_list_append mt_append (pv 1) (pa_cons (pe_tup (pa_cons (pv 2) (pa_cons (pv 3) (pa_cons (pe_cal c_rectangle_cost hr (by rfl) pass0 (pa_cons (pv 0) (pa_cons (pv 2) (pa_cons (pv 3) pa_nil)))) pa_nil)))) pa_nil)))))))
      (pss_one (ps_ret (pv 1))))), ?_⟩
    have wf := hF.wf
    have hr8 := wf.r8
    have hc8 := wf.c8
    simp only [tSeq, tIfS, tB, tVar, tRet, tRetN, tDrop, tAsg, gName, tOp, tC, tUn, rU, rI, rI0, tNext, tIf, tTest, tAnd, tOr, tNot, tAndV, tOrV, tNotV, tCons, tNil, tCal, tCalM, tCalC, tBase, tFld, sFld, sFldAug, L2.rAdd, tIsN, tNotN, rEq, rNe, scal_ii, scal_bb, scal_ss, scal_sn, scal_ns, scal_in, scal_ni, cxK, cxK2, tAug, ipI, L2.start, List.map_cons, List.map_nil, List.cons_append, List.nil_append, List.length_cons, List.length_nil, Nat.reduceAdd, Nat.reduceSub, List.replicate_zero, List.replicate_succ, List.append_nil, List.set_cons_zero, List.set_cons_succ, List.getElem?_cons_zero, List.getElem?_cons_succ, Option.some.injEq, exists_eq_left', exists_eq_left, exists_eq_right, exists_eq', V.int.injEq, V.bl.injEq, V.ref.injEq, V.str.injEq, HO.ins.injEq, and_assoc, true_and, and_true, exists_and_left, List.cons.injEq, exists_const, ne_eq, reduceCtorEq, not_false_eq_true, decide_true, decide_false, if_true, if_false, false_and, false_or, Bool.not_true, Bool.not_false, Bool.false_eq_true, tLst]
    refine ⟨by decide, fun r nr => ?_⟩
    have s1 : Same H (upd H r (.lst [])) := same_new nr
    obtain ⟨Pv, hPv⟩ : ∃ Pv : Nat → L2.St → Hp → Prop, ∀ i σ H', Pv i σ H' ↔ ∃ (vs : List V) (y3 y4 : Option V), σ = [some (.ref a), some (.ref r), y3, y4] ∧ i ≤ fl.rows ∧ Same H H' ∧ H' r = some (.lst vs) ∧
        RowsAt H' vs (((List.range i).flatMap fun a => (List.range fl.cols).map fun b => (a + 1, b + 1)).map (row3 fl)) := ⟨_, fun _ _ _ => Iff.rfl⟩
    refine q_forR2 1 (fl.rows + 1) (by omega) (by omega) Pv (fun R h => ?_) ((hPv _ _ _).mpr ⟨[], none, none, rfl, Nat.zero_le _, s1, upd_same, trivial⟩) (fun i σ H' hi h5 => ?_) (fun σ H' h5 => ?_)
    · obtain ⟨-, -, -, dx, w, d, ds, -, -, -, hA, -⟩ := hF.on s1
      simp only [tSeq, tIfS, tB, tVar, tRet, tRetN, tDrop, tAsg, gName, tOp, tC, tUn, rU, rI, rI0, tNext, tIf, tTest, tAnd, tOr, tNot, tAndV, tOrV, tNotV, tCons, tNil, tCal, tCalM, tCalC, tBase, tFld, sFld, sFldAug, L2.rAdd, tIsN, tNotN, rEq, rNe, scal_ii, scal_bb, scal_ss, scal_sn, scal_ns, scal_in, scal_ni, cxK, cxK2, tAug, ipI, L2.start, List.map_cons, List.map_nil, List.cons_append, List.nil_append, List.length_cons, List.length_nil, Nat.reduceAdd, Nat.reduceSub, List.replicate_zero, List.replicate_succ, List.append_nil, List.set_cons_zero, List.set_cons_succ, List.getElem?_cons_zero, List.getElem?_cons_succ, Option.some.injEq, exists_eq_left', exists_eq_left, exists_eq_right, exists_eq', V.int.injEq, V.bl.injEq, V.ref.injEq, V.str.injEq, HO.ins.injEq, and_assoc, true_and, and_true, exists_and_left, List.cons.injEq, exists_const, ne_eq, reduceCtorEq, not_false_eq_true, decide_true, decide_false, if_true, if_false, false_and, false_or, Bool.not_true, Bool.not_false, Bool.false_eq_true, T.clField, T.nRows, T.nColumns, T.nWalls, T.nDays, fF_rows, fF_cols, fF_walls, fF_days, hA]
      exact h
    · obtain ⟨vs, y3, y4, rfl, hir, s5, hr5, hrs⟩ := (hPv _ _ _).mp h5
      simp only [tSeq, tIfS, tB, tVar, tRet, tRetN, tDrop, tAsg, gName, tOp, tC, tUn, rU, rI, rI0, tNext, tIf, tTest, tAnd, tOr, tNot, tAndV, tOrV, tNotV, tCons, tNil, tCal, tCalM, tCalC, tBase, tFld, sFld, sFldAug, L2.rAdd, tIsN, tNotN, rEq, rNe, scal_ii, scal_bb, scal_ss, scal_sn, scal_ns, scal_in, scal_ni, cxK, cxK2, tAug, ipI, L2.start, List.map_cons, List.map_nil, List.cons_append, List.nil_append, List.length_cons, List.length_nil, Nat.reduceAdd, Nat.reduceSub, List.replicate_zero, List.replicate_succ, List.append_nil, List.set_cons_zero, List.set_cons_succ, List.getElem?_cons_zero, List.getElem?_cons_succ, Option.some.injEq, exists_eq_left', exists_eq_left, exists_eq_right, exists_eq', V.int.injEq, V.bl.injEq, V.ref.injEq, V.str.injEq, HO.ins.injEq, and_assoc, true_and, and_true, exists_and_left, List.cons.injEq, exists_const, ne_eq, reduceCtorEq, not_false_eq_true, decide_true, decide_false, if_true, if_false, false_and, false_or, Bool.not_true, Bool.not_false, Bool.false_eq_true]
      obtain ⟨Pj, hPj⟩ : ∃ Pj : Nat → L2.St → Hp → Prop, ∀ j σ H', Pj j σ H' ↔ ∃ (vs : List V) (y4 : Option V), σ = [some (.ref a), some (.ref r), some (.int ((1 + i : Nat) : Int)), y4] ∧ j ≤ fl.cols ∧ Same H H' ∧ H' r = some (.lst vs) ∧
          RowsAt H' vs ((((List.range i).flatMap fun a => (List.range fl.cols).map fun b => (a + 1, b + 1)) ++ (List.range j).map fun b => (i + 1, b + 1)).map (row3 fl)) := ⟨_, fun _ _ _ => Iff.rfl⟩
      refine q_forR2 1 (fl.cols + 1) (by omega) (by omega) Pj (fun R h => ?_) ((hPj _ _ _).mpr ⟨vs, y4, rfl, Nat.zero_le _, s5, hr5, by simpa using hrs⟩) (fun j σ H2 hj h6 => ?_) (fun σ H2 h6 => ?_)
      · obtain ⟨-, -, -, dx, w, d, ds, -, -, -, hA, -⟩ := hF.on s5
        simp only [tSeq, tIfS, tB, tVar, tRet, tRetN, tDrop, tAsg, gName, tOp, tC, tUn, rU, rI, rI0, tNext, tIf, tTest, tAnd, tOr, tNot, tAndV, tOrV, tNotV, tCons, tNil, tCal, tCalM, tCalC, tBase, tFld, sFld, sFldAug, L2.rAdd, tIsN, tNotN, rEq, rNe, scal_ii, scal_bb, scal_ss, scal_sn, scal_ns, scal_in, scal_ni, cxK, cxK2, tAug, ipI, L2.start, List.map_cons, List.map_nil, List.cons_append, List.nil_append, List.length_cons, List.length_nil, Nat.reduceAdd, Nat.reduceSub, List.replicate_zero, List.replicate_succ, List.append_nil, List.set_cons_zero, List.set_cons_succ, List.getElem?_cons_zero, List.getElem?_cons_succ, Option.some.injEq, exists_eq_left', exists_eq_left, exists_eq_right, exists_eq', V.int.injEq, V.bl.injEq, V.ref.injEq, V.str.injEq, HO.ins.injEq, and_assoc, true_and, and_true, exists_and_left, List.cons.injEq, exists_const, ne_eq, reduceCtorEq, not_false_eq_true, decide_true, decide_false, if_true, if_false, false_and, false_or, Bool.not_true, Bool.not_false, Bool.false_eq_true, T.clField, T.nRows, T.nColumns, T.nWalls, T.nDays, fF_rows, fF_cols, fF_walls, fF_days, hA]
        exact h
      · obtain ⟨us, y4, rfl, hjc, s6, hr6, hrs6⟩ := (hPj _ _ _).mp h6
        simp only [tBM, tTup, tSeq, tIfS, tB, tVar, tRet, tRetN, tDrop, tAsg, gName, tOp, tC, tUn, rU, rI, rI0, tNext, tIf, tTest, tAnd, tOr, tNot, tAndV, tOrV, tNotV, tCons, tNil, tCal, tCalM, tCalC, tBase, tFld, sFld, sFldAug, L2.rAdd, tIsN, tNotN, rEq, rNe, scal_ii, scal_bb, scal_ss, scal_sn, scal_ns, scal_in, scal_ni, cxK, cxK2, tAug, ipI, L2.start, List.map_cons, List.map_nil, List.cons_append, List.nil_append, List.length_cons, List.length_nil, Nat.reduceAdd, Nat.reduceSub, List.replicate_zero, List.replicate_succ, List.append_nil, List.set_cons_zero, List.set_cons_succ, List.getElem?_cons_zero, List.getElem?_cons_succ, Option.some.injEq, exists_eq_left', exists_eq_left, exists_eq_right, exists_eq', V.int.injEq, V.bl.injEq, V.ref.injEq, V.str.injEq, HO.ins.injEq, and_assoc, true_and, and_true, exists_and_left, List.cons.injEq, exists_const, ne_eq, reduceCtorEq, not_false_eq_true, decide_true, decide_false, if_true, if_false, false_and, false_or, Bool.not_true, Bool.not_false, Bool.false_eq_true]
        refine ⟨.inl ⟨rfl, _, SqL.of hr6⟩, a, fl, 1 + i, 1 + j, rfl, hF.on s6, by omega, by omega, ?_⟩
        have ej : (List.range (j + 1)).map (fun b => (i + 1, b + 1)) = (List.range j).map (fun b => (i + 1, b + 1)) ++ [(i + 1, j + 1)] := by
          rw [List.range_succ, List.map_append]
          rfl
        have e1 : 1 + i = i + 1 := Nat.add_comm _ _
        have e2 : 1 + j = j + 1 := Nat.add_comm _ _
        rw [e1, e2]
        have hlen : us.length ≤ 64 := by
          rw [hrs6.len, List.length_map, List.length_append, List.length_map, List.length_range]
          have h1 : ((List.range i).flatMap fun a => (List.range fl.cols).map fun b => (a + 1, b + 1)).length ≤ fl.cols * (List.range i).length := flat_len fun x => by rw [List.length_map, List.length_range]; exact Nat.le_refl _
          rw [List.length_range] at h1
          have h2 : fl.cols * i + fl.cols ≤ 8 * 8 := by
            have : fl.cols * i + fl.cols = fl.cols * (i + 1) := by rw [Nat.mul_add, Nat.mul_one]
            rw [this]
            exact Nat.mul_le_mul hc8 (by omega)
          omega
        refine ⟨by decide, fun t nt => ?_⟩
        have st := same_new (o := .tup [.int ((i + 1 : Nat) : Int), .int ((j + 1 : Nat) : Int), .int (Vbsyae.rectCost fl (i + 1) (j + 1))]) nt
        have nrt : r ≠ t := ne_of_none hr6 nt
        refine ⟨r, us, _, rfl, rfl, st _ _ hr6, Nat.lt_of_le_of_lt hlen (by decide), ?_⟩
        refine (hPj _ _ _).mpr ⟨us ++ [.ref t], _, by rw [e1], by omega, same_mut (s6.trans st) nr, upd_same, ?_⟩
        have keep : ∀ b xs, H2 b = some (.tup xs) → (upd (upd H2 t (.tup [.int ((i + 1 : Nat) : Int), .int ((j + 1 : Nat) : Int), .int (Vbsyae.rectCost fl (i + 1) (j + 1))])) r (.lst (us ++ [.ref t]))) b = some (.tup xs) := fun b xs e => by
          rw [upd_ne (ne_of e hr6 (by intro q; cases q))]
          exact st _ _ e
        have hfin := (hrs6.imp keep).snoc (t := t) (x := row3 fl (i + 1, j + 1)) (by rw [upd_ne (Ne.symm nrt)]; exact upd_same)
        rw [ej, ← List.append_assoc, List.map_append]
        exact hfin
      · obtain ⟨us, y4, rfl, hjc, s6, hr6, hrs6⟩ := (hPj _ _ _).mp h6
        refine (hPv _ _ _).mpr ⟨us, _, _, rfl, by omega, s6, hr6, ?_⟩
        rw [List.range_succ, List.flatMap_append, List.flatMap_singleton]
        rw [Nat.add_sub_cancel] at hrs6
        exact hrs6
    · obtain ⟨vs, y3, y4, rfl, hir, s5, hr5, hrs⟩ := (hPv _ _ _).mp h5
      rw [Nat.add_sub_cancel] at hrs
      simp only [tSeq, tIfS, tB, tVar, tRet, tRetN, tDrop, tAsg, gName, tOp, tC, tUn, rU, rI, rI0, tNext, tIf, tTest, tAnd, tOr, tNot, tAndV, tOrV, tNotV, tCons, tNil, tCal, tCalM, tCalC, tBase, tFld, sFld, sFldAug, L2.rAdd, tIsN, tNotN, rEq, rNe, scal_ii, scal_bb, scal_ss, scal_sn, scal_ns, scal_in, scal_ni, cxK, cxK2, tAug, ipI, L2.start, List.map_cons, List.map_nil, List.cons_append, List.nil_append, List.length_cons, List.length_nil, Nat.reduceAdd, Nat.reduceSub, List.replicate_zero, List.replicate_succ, List.append_nil, List.set_cons_zero, List.set_cons_succ, List.getElem?_cons_zero, List.getElem?_cons_succ, Option.some.injEq, exists_eq_left', exists_eq_left, exists_eq_right, exists_eq', V.int.injEq, V.bl.injEq, V.ref.injEq, V.str.injEq, HO.ins.injEq, and_assoc, true_and, and_true, exists_and_left, List.cons.injEq, exists_const, ne_eq, reduceCtorEq, not_false_eq_true, decide_true, decide_false, if_true, if_false, false_and, false_or, Bool.not_true, Bool.not_false, Bool.false_eq_true]
      exact q H' r vs s5 nr hr5 hrs
/-- the least row's last two numbers -/
def sp_first_size (K : PySem.W.Frag) : Sp := fun vs H Q _ => ∃ (r : Addr) (us : List V) (rows : List (List Int)), vs = [.ref r] ∧ H r = some (.lst us) ∧ RowsAt H us rows ∧ (rows = [] → Q .non H) ∧
  (∀ r0 rest, rows = r0 :: rest → ∃ p q h w : Int, minRow r0 rest = [p, q, h, w] ∧ ∀ (H' : Hp) (t : Addr), Same H H' → H' t = some (.tup [.int h, .int w]) → Q (.ref t) H')
theorem ok_first_size {f : Addr} {fd : FuncData} (F : Fun K "first_size" "first_size" s_first_size f fd) (T : Txt K mg A) : FnOk P w K mg base CX0 1 f fd ["ranked"] (sp_first_size K) := by
  refine F.ok sc_first_size (fun vs H Q E h => ?_) (fun cdv B outer s H vs Q E hr h => ?_)
  · obtain ⟨r, us, rows, rfl, _⟩ := h
    rfl
  · obtain ⟨r, us, rows, rfl, hr5, hrs, q0, q1⟩ := h
    refine ⟨_, (pss_cons (ps_if (pt_cmpR op_eq (pe_callB call_len_seq (by rfl) T.len PySem.boot_len (pa_cons (pv 0) pa_nil)) pe_int (nomark _)) (pss_one (ps_ret pe_non)) pss_nil)
      (pss_cons (ps_set (i := 1) sc_first_size.nd rfl (Or.inl rfl) (pe_callB (cr_minT rfl hr.units) (by rfl) T.min (by decide +kernel) (pa_cons (pv 0) pa_nil)))
      (pss_one (ps_ret (pe_tup (pa_cons (pe_ix ix_tup (pv 1) pe_int (fun _ _ => rfl)) (pa_cons (pe_ix ix_tup (pv 1) pe_int (fun _ _ => rfl)) pa_nil))))))), ?_⟩
    have hvl := hrs.len
    simp only [tSeq, tIfS, tB, tVar, tRet, tRetN, tDrop, tAsg, gName, tOp, tC, tUn, rU, rI, rI0, tNext, tIf, tTest, tAnd, tOr, tNot, tAndV, tOrV, tNotV, tCons, tNil, tCal, tCalM, tCalC, tBase, tFld, sFld, sFldAug, L2.rAdd, tIsN, tNotN, rEq, rNe, scal_ii, scal_bb, scal_ss, scal_sn, scal_ns, scal_in, scal_ni, cxK, cxK2, tAug, ipI, L2.start, List.map_cons, List.map_nil, List.cons_append, List.nil_append, List.length_cons, List.length_nil, Nat.reduceAdd, Nat.reduceSub, List.replicate_zero, List.replicate_succ, List.append_nil, List.set_cons_zero, List.set_cons_succ, List.getElem?_cons_zero, List.getElem?_cons_succ, Option.some.injEq, exists_eq_left', exists_eq_left, exists_eq_right, exists_eq', V.int.injEq, V.bl.injEq, V.ref.injEq, V.str.injEq, HO.ins.injEq, and_assoc, true_and, and_true, exists_and_left, List.cons.injEq, exists_const, ne_eq, reduceCtorEq, not_false_eq_true, decide_true, decide_false, if_true, if_false, false_and, false_or, Bool.not_true, Bool.not_false, Bool.false_eq_true, tCB]
    refine ⟨_, .inl (SqL.of hr5), ?_⟩
    cases rows with
    | nil =>
      have e0 : us.length = 0 := hvl
      rw [e0]
      exact iteT (q0 rfl)
    | cons x L =>
      have e0 : decide (((us.length : Nat) : Int) = 0) = false := decide_eq_false (by rw [hvl, List.length_cons]; omega)
      rw [e0]
      refine iteF ?_
      obtain ⟨p1, q2, h3, w4, em, q⟩ := q1 x L rfl
      refine ⟨r, us, x, L, rfl, SqL.of hr5, hrs.dp, fun i v hi hm => ?_⟩
      rw [em] at hm
      obtain ⟨t, rfl, ht⟩ := hrs.get hi hm
      simp only [tSeq, tIfS, tB, tVar, tRet, tRetN, tDrop, tAsg, gName, tOp, tC, tUn, rU, rI, rI0, tNext, tIf, tTest, tAnd, tOr, tNot, tAndV, tOrV, tNotV, tCons, tNil, tCal, tCalM, tCalC, tBase, tFld, sFld, sFldAug, L2.rAdd, tIsN, tNotN, rEq, rNe, scal_ii, scal_bb, scal_ss, scal_sn, scal_ns, scal_in, scal_ni, cxK, cxK2, tAug, ipI, L2.start, List.map_cons, List.map_nil, List.cons_append, List.nil_append, List.length_cons, List.length_nil, Nat.reduceAdd, Nat.reduceSub, List.replicate_zero, List.replicate_succ, List.append_nil, List.set_cons_zero, List.set_cons_succ, List.getElem?_cons_zero, List.getElem?_cons_succ, Option.some.injEq, exists_eq_left', exists_eq_left, exists_eq_right, exists_eq', V.int.injEq, V.bl.injEq, V.ref.injEq, V.str.injEq, HO.ins.injEq, and_assoc, true_and, and_true, exists_and_left, List.cons.injEq, exists_const, ne_eq, reduceCtorEq, not_false_eq_true, decide_true, decide_false, if_true, if_false, false_and, false_or, Bool.not_true, Bool.not_false, Bool.false_eq_true, tTup]
      refine st_ixT ht rfl ?_
      refine st_ixT ht rfl ?_
      refine ⟨by decide, fun t2 nt2 => ?_⟩
      exact q _ t2 (same_new nt2) upd_same
def sp_greatest (A : Ad) : Sp := fun vs H Q _ => ∃ (a : Addr) (f : Vbsyae.Field) (h : Nat), vs = [.ref a, .int h] ∧ FieldAt A.cField H a f ∧
  ((Vbsyae.best f h).1 = 0 → ∀ H', Same H H' → Q .non H') ∧
  ((Vbsyae.best f h).1 ≠ 0 → ∀ H' t, Same H H' → H' t = some (.tup [.int (Vbsyae.best f h).1, .int (Vbsyae.best f h).2]) → Q (.ref t) H')
theorem shapes_le {f : Vbsyae.Field} {x : Nat × Nat} (h : x ∈ Vbsyae.shapes f) : x.1 ≤ f.rows ∧ x.2 ≤ f.cols := by
  unfold Vbsyae.shapes at h
  obtain ⟨a, ha, hb⟩ := List.mem_flatMap.mp h
  obtain ⟨b, hb2, rfl⟩ := List.mem_map.mp hb
  rw [List.mem_range] at ha hb2
  exact ⟨ha, hb2⟩
theorem shapes_len {f : Vbsyae.Field} (w : Wf f) : (Vbsyae.shapes f).length ≤ 64 := by
  unfold Vbsyae.shapes
  have h1 : ((List.range f.rows).flatMap fun a => (List.range f.cols).map fun b => (a + 1, b + 1)).length ≤ f.cols * (List.range f.rows).length := flat_len fun x => by rw [List.length_map, List.length_range]; exact Nat.le_refl _
  rw [List.length_range] at h1
  have h2 : f.cols * f.rows ≤ 8 * 8 := Nat.mul_le_mul w.c8 w.r8
  omega
theorem ok_greatest {f : Addr} {fd : FuncData} (F : Fun K "greatest_rectangle" "greatest_rectangle" s_greatest_rectangle f fd) (T : Txt K mg A) (c_every_rectangle : Cal P w K mg base CX0 3 "every_rectangle" ["field"] (sp_every A)) (c_first_size : Cal P w K mg base CX0 1 "first_size" ["ranked"] (sp_first_size K)) : FnOk P w K mg base CX0 4 f fd ["field", "most_hurdles"] (sp_greatest A) := by
  refine F.ok sc_greatest_rectangle (fun vs H Q E h => ?_) (fun cdv B outer s H vs Q E hr h => ?_)
  · obtain ⟨a, f, h, rfl, _⟩ := h
    rfl
  · obtain ⟨a, fl, h, rfl, hF, q0, q1⟩ := h
    refine ⟨_, (pss_cons (ps_set (i := 2) sc_greatest_rectangle.nd rfl (Or.inl rfl) (pe_lst pa_nil))
      (pss_cons (ps_for PassesOwn.never rfl (pi_list (pe_cal c_every_rectangle hr (by rfl) pass0 (pa_cons (pv 0) pa_nil))) (pg_tup rfl (pgs_cons (pg_name (i := 3) sc_greatest_rectangle.nd rfl (Or.inl rfl)) (pgs_cons (pg_name (i := 4) sc_greatest_rectangle.nd rfl (Or.inl rfl)) (pgs_cons (pg_name (i := 5) sc_greatest_rectangle.nd rfl (Or.inl rfl)) pgs_nil))))
      (pss_one (ps_if (pt_cmpR op_le (pv 5) (pv 1) (nomark _)) (pss_one (ps_expr (pe_bm PySem.F.plainAttrs_list PySem.F.slot_list_append PySem.F.type_list_append mt_append (pv 2) (pa_cons (pe_tup (pa_cons (pe_op op_mul (pe_un un_neg (pv 3)) (pv 4)) (pa_cons (pv 5) (pa_cons (pv 3) (pa_cons (pv 4) pa_nil))))) pa_nil)))) pss_nil)))
      (pss_one (ps_ret (pe_cal c_first_size (hr.mono (by decide)) (by rfl) pass0 (pa_cons (pv 2) pa_nil)))))), ?_⟩
    have wf := hF.wf
    have hr8 := wf.r8
    have hc8 := wf.c8
    have h64 := shapes_len wf
    refine ⟨by decide, fun r nr => ?_⟩
    have s1 : Same H (upd H r (.lst [])) := same_new nr
    dsimp only [tSeq]
    refine ⟨_, rfl, a, fl, rfl, hF.on s1, fun H1 e es s2 ne he hes => ?_⟩
    have hr1 : H1 r = some (.lst []) := s2 _ _ upd_same
    have nre : r ≠ e := fun z => by
      rw [← z, upd_same] at ne
      cases ne
    have sH1 : Same H H1 := s1.trans s2
    obtain ⟨Pv, hPv⟩ : ∃ Pv : Nat → L2.St → Hp → Prop, ∀ i σ H', Pv i σ H' ↔ ∃ (vs : List V) (y3 y4 y5 : Option V), σ = [some (.ref a), some (.int h), some (.ref r), y3, y4, y5] ∧ Same H H' ∧ H' r = some (.lst vs) ∧ H' e = some (.lst es) ∧ RowsAt H' es ((Vbsyae.shapes fl).map (row3 fl)) ∧
        RowsAt H' vs ((fits fl h ((Vbsyae.shapes fl).take i)).map (rowOf fl)) := ⟨_, fun _ _ _ => Iff.rfl⟩
    refine ⟨e, rfl, ⟨es, SqL.of he⟩, for_list (xs := es) Pv ((hPv _ _ _).mpr ⟨[], none, none, none, rfl, sH1, hr1, he, hes, trivial⟩) (fun i σ H' _ h5 => ?_) (fun i v σ H' hi h5 => ?_) (fun σ H' h5 => ?_)⟩
    · obtain ⟨_, _, _, _, _, _, _, he5, _⟩ := (hPv _ _ _).mp h5
      exact SqL.of he5
    · obtain ⟨vs, y3, y4, y5, rfl, s5, hr5, he5, hes5, hrs⟩ := (hPv _ _ _).mp h5
      obtain ⟨t0, row, rfl, hrow, ht0⟩ := hes5.get2 hi
      rw [List.getElem?_map] at hrow
      cases hx : (Vbsyae.shapes fl)[i]? with
      | none => rw [hx] at hrow; cases hrow
      | some x =>
      rw [hx] at hrow
      have hrow2 : row3 fl x = row := Option.some.inj hrow
      subst hrow2
      have hxm := List.mem_of_getElem? hx
      obtain ⟨hx1, hx2⟩ := shapes_le hxm
      obtain ⟨x1, x2⟩ := x
      dsimp only at hx1 hx2
      refine ⟨t0, _, rfl, Or.inl (Or.inl ht0), rfl, _, _, rfl, _, _, rfl, _, _, rfl, rfl, ?_⟩
      have hlen : vs.length ≤ 64 := by
        rw [hrs.len, List.length_map]
        unfold fits
        refine Nat.le_trans (List.length_filter_le _ _) ?_
        rw [List.length_take]
        omega
      simp only [tSeq, tIfS, tB, tVar, tRet, tRetN, tDrop, tAsg, gName, tOp, tC, tUn, rU, rI, rI0, tNext, tIf, tTest, tAnd, tOr, tNot, tAndV, tOrV, tNotV, tCons, tNil, tCal, tCalM, tCalC, tBase, tFld, sFld, sFldAug, L2.rAdd, tIsN, tNotN, rEq, rNe, scal_ii, scal_bb, scal_ss, scal_sn, scal_ns, scal_in, scal_ni, cxK, cxK2, tAug, ipI, L2.start, List.map_cons, List.map_nil, List.cons_append, List.nil_append, List.length_cons, List.length_nil, Nat.reduceAdd, Nat.reduceSub, List.replicate_zero, List.replicate_succ, List.append_nil, List.set_cons_zero, List.set_cons_succ, List.getElem?_cons_zero, List.getElem?_cons_succ, Option.some.injEq, exists_eq_left', exists_eq_left, exists_eq_right, exists_eq', V.int.injEq, V.bl.injEq, V.ref.injEq, V.str.injEq, HO.ins.injEq, and_assoc, true_and, and_true, exists_and_left, List.cons.injEq, exists_const, ne_eq, reduceCtorEq, not_false_eq_true, decide_true, decide_false, if_true, if_false, false_and, false_or, Bool.not_true, Bool.not_false, Bool.false_eq_true]
      by_cases c : Vbsyae.rectCost fl x1 x2 ≤ h
      · have c' : decide (((Vbsyae.rectCost fl x1 x2 : Nat) : Int) ≤ (h : Int)) = true := decide_eq_true (by omega)
        rw [c', if_pos rfl]
        simp only [tBM, tTup, tSeq, tIfS, tB, tVar, tRet, tRetN, tDrop, tAsg, gName, tOp, tC, tUn, rU, rI, rI0, tNext, tIf, tTest, tAnd, tOr, tNot, tAndV, tOrV, tNotV, tCons, tNil, tCal, tCalM, tCalC, tBase, tFld, sFld, sFldAug, L2.rAdd, tIsN, tNotN, rEq, rNe, scal_ii, scal_bb, scal_ss, scal_sn, scal_ns, scal_in, scal_ni, cxK, cxK2, tAug, ipI, L2.start, List.map_cons, List.map_nil, List.cons_append, List.nil_append, List.length_cons, List.length_nil, Nat.reduceAdd, Nat.reduceSub, List.replicate_zero, List.replicate_succ, List.append_nil, List.set_cons_zero, List.set_cons_succ, List.getElem?_cons_zero, List.getElem?_cons_succ, Option.some.injEq, exists_eq_left', exists_eq_left, exists_eq_right, exists_eq', V.int.injEq, V.bl.injEq, V.ref.injEq, V.str.injEq, HO.ins.injEq, and_assoc, true_and, and_true, exists_and_left, List.cons.injEq, exists_const, ne_eq, reduceCtorEq, not_false_eq_true, decide_true, decide_false, if_true, if_false, false_and, false_or, Bool.not_true, Bool.not_false, Bool.false_eq_true]
        refine ⟨.inl ⟨rfl, _, SqL.of hr5⟩, Or.inl ⟨by omega, by omega⟩, by decide, fun t nt => ?_⟩
        have st := same_new (o := .tup [.int (-(x1 : Int) * (x2 : Int)), .int (Vbsyae.rectCost fl x1 x2), .int (x1 : Int), .int (x2 : Int)]) nt
        have nrt : r ≠ t := ne_of_none hr5 nt
        refine ⟨r, vs, _, rfl, rfl, st _ _ hr5, Nat.lt_of_le_of_lt hlen (by decide), ?_⟩
        have keep : ∀ b xs, H' b = some (.tup xs) → (upd (upd H' t (.tup [.int (-(x1 : Int) * (x2 : Int)), .int (Vbsyae.rectCost fl x1 x2), .int (x1 : Int), .int (x2 : Int)])) r (.lst (vs ++ [.ref t]))) b = some (.tup xs) := fun b xs e => by
          rw [upd_ne (ne_of e hr5 (by intro q; cases q))]
          exact st _ _ e
        refine (hPv _ _ _).mpr ⟨vs ++ [.ref t], _, _, _, rfl, same_mut (s5.trans st) nr, upd_same, (upd_ne (Ne.symm nre)).trans (st _ _ he5), hes5.imp keep, ?_⟩
        have hfin := (hrs.imp keep).snoc (t := t) (x := rowOf fl (x1, x2)) (by rw [upd_ne (Ne.symm nrt)]; exact upd_same)
        unfold fits at hfin ⊢
        rw [take_get hx, List.filter_append, List.map_append]
        have e3 : ([(x1, x2)] : List (Nat × Nat)).filter (fun x => decide (Vbsyae.rectCost fl x.1 x.2 ≤ h)) = [(x1, x2)] := by simp [c]
        rw [e3]
        exact hfin
      · have c' : decide (((Vbsyae.rectCost fl x1 x2 : Nat) : Int) ≤ (h : Int)) = false := decide_eq_false (by omega)
        rw [c', if_neg Bool.false_ne_true]
        refine (hPv _ _ _).mpr ⟨vs, _, _, _, rfl, s5, hr5, he5, hes5, ?_⟩
        unfold fits at hrs ⊢
        rw [take_get hx, List.filter_append, List.map_append]
        have e3 : ([(x1, x2)] : List (Nat × Nat)).filter (fun x => decide (Vbsyae.rectCost fl x.1 x.2 ≤ h)) = [] := by simp [c]
        rw [e3]
        simpa using hrs
    · obtain ⟨vs, y3, y4, y5, rfl, s5, hr5, he5, hes5, hrs⟩ := (hPv _ _ _).mp h5
      have hesl := hes5.len
      rw [List.length_map] at hesl
      rw [hesl, List.take_length] at hrs
      rw [best_eq] at q0 q1
      have hpos : ∀ x ∈ fits fl h (Vbsyae.shapes fl), 0 < x.1 := fun x hx => shapes_pos (List.mem_filter.mp hx).1
      generalize fits fl h (Vbsyae.shapes fl) = L at *
      refine ⟨_, rfl, r, vs, _, rfl, hr5, hrs, fun e0 => ?_, fun r0 rest e0 => ?_⟩
      · have : L = [] := List.map_eq_nil_iff.mp e0
        subst this
        exact q0 rfl H' s5
      · cases L with
        | nil => cases e0
        | cons x L =>
          rw [List.map_cons] at e0
          injection e0 with e1 e2
          subst e1 e2
          obtain ⟨hb1, hb2⟩ := best_fold fl L x (hpos x (by simp)) fun y hy => hpos y (List.mem_cons_of_mem _ hy)
          have hx0 : (x :: L).foldl (fun m x => if m.1 = 0 ∨ Vbsyae.better fl x m = true then x else m) (0, 0) = L.foldl (fun m x => if m.1 = 0 ∨ Vbsyae.better fl x m = true then x else m) x := by
            rw [List.foldl_cons, if_pos (Or.inl rfl)]
          rw [hx0] at q1
          generalize L.foldl (fun m x => if m.1 = 0 ∨ Vbsyae.better fl x m = true then x else m) x = bb at *
          exact ⟨_, _, _, _, hb2, fun H2 t s2 ht => q1 hb1 H2 t (s5.trans s2) ht⟩
/-! ### the cheapest rectangle -/
def rowC (f : Vbsyae.Field) (x : Nat × Nat) : List Int := [(Vbsyae.rectCost f x.1 x.2 : Nat), -(x.1 : Int) * (x.2 : Int), (x.1 : Nat), (x.2 : Nat)]
theorem rowC_lt (f : Vbsyae.Field) (x y : Nat × Nat) (hx : 0 < x.1) (hy : 0 < y.1) : rowLt (rowC f x) (rowC f y) = Vbsyae.cheaper f x y := by
  obtain ⟨a, b⟩ := x
  obtain ⟨c, d⟩ := y
  unfold rowC Vbsyae.cheaper
  have e1 : (-(a : Int) * (b : Int)) = -((a * b : Nat) : Int) := by simp [Int.neg_mul]
  have e2 : (-(c : Int) * (d : Int)) = -((c * d : Nat) : Int) := by simp [Int.neg_mul]
  dsimp only at hx hy ⊢
  rw [e1, e2]
  generalize hA : a * b = A1
  generalize hB : c * d = B1
  generalize Vbsyae.rectCost f a b = P1
  generalize Vbsyae.rectCost f c d = Q1
  simp only [rowLt]
  by_cases c2 : P1 = Q1
  · have c2' : ((P1 : Nat) : Int) = (Q1 : Nat) := by omega
    rw [if_pos c2']
    by_cases c1 : A1 = B1
    · have c1' : (-(A1 : Int)) = -(B1 : Int) := by omega
      rw [if_pos c1']
      by_cases c3 : a = c
      · have c3' : ((a : Nat) : Int) = (c : Nat) := by omega
        rw [if_pos c3']
        have c4 : b = d := by
          subst c3
          have : a * b = a * d := by rw [hA, hB, c1]
          exact Nat.eq_of_mul_eq_mul_left hx this
        have c4' : ((b : Nat) : Int) = (d : Nat) := by omega
        rw [if_pos c4']
        simp [c1, c2, c3]
      · have c3' : ¬ ((a : Nat) : Int) = (c : Nat) := by omega
        rw [if_neg c3']
        simp [c1, c2]
    · have c1' : ¬ (-(A1 : Int)) = -(B1 : Int) := by omega
      rw [if_neg c1']
      by_cases c5 : B1 < A1
      · have : -(A1 : Int) < -(B1 : Int) := by omega
        simp [c2, c5, this]
      · have : ¬ -(A1 : Int) < -(B1 : Int) := by omega
        simp [c2, c5, this, c1]
  · have c2' : ¬ ((P1 : Nat) : Int) = (Q1 : Nat) := by omega
    rw [if_neg c2']
    simp [c2]
/-- those with n cells at least -/
def wide (n : Nat) (l : List (Nat × Nat)) : List (Nat × Nat) := l.filter fun x => decide (n ≤ x.1 * x.2)
theorem least_fold (f : Vbsyae.Field) : ∀ (l : List (Nat × Nat)) (m : Nat × Nat), 0 < m.1 → (∀ x ∈ l, 0 < x.1) →
    ∃ b, l.foldl (fun (m : Option (Nat × Nat)) x => match m with | none => some x | some y => if Vbsyae.cheaper f x y = true then some x else m) (some m) = some b ∧ (b = m ∨ b ∈ l) ∧ (l.map (rowC f)).foldl (fun a y => if rowLt y a = true then y else a) (rowC f m) = rowC f b
  | [], m, hm, _ => ⟨m, rfl, .inl rfl, rfl⟩
  | x :: l, m, hm, hl => by
    rw [List.map_cons, List.foldl_cons, List.foldl_cons, rowC_lt f x m (hl x (by simp)) hm]
    dsimp only
    by_cases c : Vbsyae.cheaper f x m = true
    · rw [if_pos c, if_pos c]
      obtain ⟨b, h1, h2, h3⟩ := least_fold f l x (hl x (by simp)) fun y hy => hl y (List.mem_cons_of_mem _ hy)
      refine ⟨b, h1, .inr ?_, h3⟩
      rcases h2 with z | z
      · rw [z]; simp
      · exact List.mem_cons_of_mem _ z
    · rw [if_neg c, if_neg c]
      obtain ⟨b, h1, h2, h3⟩ := least_fold f l m hm fun y hy => hl y (List.mem_cons_of_mem _ hy)
      refine ⟨b, h1, ?_, h3⟩
      rcases h2 with z | z
      · exact .inl z
      · exact .inr (List.mem_cons_of_mem _ z)
def sp_cheapest (A : Ad) : Sp := fun vs H Q _ => ∃ (a : Addr) (f : Vbsyae.Field) (n : Nat), vs = [.ref a, .int n] ∧ FieldAt A.cField H a f ∧
  (Vbsyae.least f n = none → ∀ H', Same H H' → Q .non H') ∧
  (∀ b, Vbsyae.least f n = some b → b.1 ≤ f.rows → b.2 ≤ f.cols → ∀ H' t, Same H H' → H' t = some (.tup [.int b.1, .int b.2]) → Q (.ref t) H')
theorem ok_cheapest {f : Addr} {fd : FuncData} (F : Fun K "cheapest_rectangle" "cheapest_rectangle" s_cheapest_rectangle f fd) (T : Txt K mg A) (c_every_rectangle : Cal P w K mg base CX0 3 "every_rectangle" ["field"] (sp_every A)) (c_first_size : Cal P w K mg base CX0 1 "first_size" ["ranked"] (sp_first_size K)) : FnOk P w K mg base CX0 4 f fd ["field", "least_cells"] (sp_cheapest A) := by
  refine F.ok sc_cheapest_rectangle (fun vs H Q E h => ?_) (fun cdv B outer s H vs Q E hr h => ?_)
  · obtain ⟨a, f, h, rfl, _⟩ := h
    rfl
  · obtain ⟨a, fl, n, rfl, hF, q0, q1⟩ := h
    refine ⟨_, (pss_cons (ps_set (i := 2) sc_cheapest_rectangle.nd rfl (Or.inl rfl) (pe_lst pa_nil))
      (pss_cons (ps_for PassesOwn.never rfl (pi_list (pe_cal c_every_rectangle hr (by rfl) pass0 (pa_cons (pv 0) pa_nil))) (pg_tup rfl (pgs_cons (pg_name (i := 3) sc_cheapest_rectangle.nd rfl (Or.inl rfl)) (pgs_cons (pg_name (i := 4) sc_cheapest_rectangle.nd rfl (Or.inl rfl)) (pgs_cons (pg_name (i := 5) sc_cheapest_rectangle.nd rfl (Or.inl rfl)) pgs_nil))))
      (pss_one (ps_if (pt_cmpR op_ge (pe_op op_mul (pv 3) (pv 4)) (pv 1) (nomark _)) (pss_one (ps_expr (pe_bm PySem.F.plainAttrs_list PySem.F.slot_list_append PySem.F.type_list_append mt_append (pv 2) (pa_cons (pe_tup (pa_cons (pv 5) (pa_cons (pe_op op_mul (pe_un un_neg (pv 3)) (pv 4)) (pa_cons (pv 3) (pa_cons (pv 4) pa_nil))))) pa_nil)))) pss_nil)))
      (pss_one (ps_ret (pe_cal c_first_size (hr.mono (by decide)) (by rfl) pass0 (pa_cons (pv 2) pa_nil)))))), ?_⟩
    have wf := hF.wf
    have hr8 := wf.r8
    have hc8 := wf.c8
    have h64 := shapes_len wf
    refine ⟨by decide, fun r nr => ?_⟩
    have s1 : Same H (upd H r (.lst [])) := same_new nr
    dsimp only [tSeq]
    refine ⟨_, rfl, a, fl, rfl, hF.on s1, fun H1 e es s2 ne he hes => ?_⟩
    have hr1 : H1 r = some (.lst []) := s2 _ _ upd_same
    have nre : r ≠ e := fun z => by
      rw [← z, upd_same] at ne
      cases ne
    have sH1 : Same H H1 := s1.trans s2
    obtain ⟨Pv, hPv⟩ : ∃ Pv : Nat → L2.St → Hp → Prop, ∀ i σ H', Pv i σ H' ↔ ∃ (vs : List V) (y3 y4 y5 : Option V), σ = [some (.ref a), some (.int n), some (.ref r), y3, y4, y5] ∧ Same H H' ∧ H' r = some (.lst vs) ∧ H' e = some (.lst es) ∧ RowsAt H' es ((Vbsyae.shapes fl).map (row3 fl)) ∧
        RowsAt H' vs ((wide n ((Vbsyae.shapes fl).take i)).map (rowC fl)) := ⟨_, fun _ _ _ => Iff.rfl⟩
    refine ⟨e, rfl, ⟨es, SqL.of he⟩, for_list (xs := es) Pv ((hPv _ _ _).mpr ⟨[], none, none, none, rfl, sH1, hr1, he, hes, trivial⟩) (fun i σ H' _ h5 => ?_) (fun i v σ H' hi h5 => ?_) (fun σ H' h5 => ?_)⟩
    · obtain ⟨_, _, _, _, _, _, _, he5, _⟩ := (hPv _ _ _).mp h5
      exact SqL.of he5
    · obtain ⟨vs, y3, y4, y5, rfl, s5, hr5, he5, hes5, hrs⟩ := (hPv _ _ _).mp h5
      obtain ⟨t0, row, rfl, hrow, ht0⟩ := hes5.get2 hi
      rw [List.getElem?_map] at hrow
      cases hx : (Vbsyae.shapes fl)[i]? with
      | none => rw [hx] at hrow; cases hrow
      | some x =>
      rw [hx] at hrow
      have hrow2 : row3 fl x = row := Option.some.inj hrow
      subst hrow2
      have hxm := List.mem_of_getElem? hx
      obtain ⟨hx1, hx2⟩ := shapes_le hxm
      obtain ⟨x1, x2⟩ := x
      dsimp only at hx1 hx2
      refine ⟨t0, _, rfl, Or.inl (Or.inl ht0), rfl, _, _, rfl, _, _, rfl, _, _, rfl, rfl, ?_⟩
      have hlen : vs.length ≤ 64 := by
        rw [hrs.len, List.length_map]
        unfold wide
        refine Nat.le_trans (List.length_filter_le _ _) ?_
        rw [List.length_take]
        omega
      simp only [tSeq, tIfS, tB, tVar, tRet, tRetN, tDrop, tAsg, gName, tOp, tC, tUn, rU, rI, rI0, tNext, tIf, tTest, tAnd, tOr, tNot, tAndV, tOrV, tNotV, tCons, tNil, tCal, tCalM, tCalC, tBase, tFld, sFld, sFldAug, L2.rAdd, tIsN, tNotN, rEq, rNe, scal_ii, scal_bb, scal_ss, scal_sn, scal_ns, scal_in, scal_ni, cxK, cxK2, tAug, ipI, L2.start, List.map_cons, List.map_nil, List.cons_append, List.nil_append, List.length_cons, List.length_nil, Nat.reduceAdd, Nat.reduceSub, List.replicate_zero, List.replicate_succ, List.append_nil, List.set_cons_zero, List.set_cons_succ, List.getElem?_cons_zero, List.getElem?_cons_succ, Option.some.injEq, exists_eq_left', exists_eq_left, exists_eq_right, exists_eq', V.int.injEq, V.bl.injEq, V.ref.injEq, V.str.injEq, HO.ins.injEq, and_assoc, true_and, and_true, exists_and_left, List.cons.injEq, exists_const, ne_eq, reduceCtorEq, not_false_eq_true, decide_true, decide_false, if_true, if_false, false_and, false_or, Bool.not_true, Bool.not_false, Bool.false_eq_true]
      refine ⟨Or.inl ⟨by omega, by omega⟩, ?_⟩
      have em : ((x1 : Int) * (x2 : Int)) = ((x1 * x2 : Nat) : Int) := by simp
      by_cases c : n ≤ x1 * x2
      · have c' : decide ((n : Int) ≤ (x1 : Int) * (x2 : Int)) = true := decide_eq_true (by rw [em]; omega)
        rw [c', if_pos rfl]
        simp only [tBM, tTup, tSeq, tIfS, tB, tVar, tRet, tRetN, tDrop, tAsg, gName, tOp, tC, tUn, rU, rI, rI0, tNext, tIf, tTest, tAnd, tOr, tNot, tAndV, tOrV, tNotV, tCons, tNil, tCal, tCalM, tCalC, tBase, tFld, sFld, sFldAug, L2.rAdd, tIsN, tNotN, rEq, rNe, scal_ii, scal_bb, scal_ss, scal_sn, scal_ns, scal_in, scal_ni, cxK, cxK2, tAug, ipI, L2.start, List.map_cons, List.map_nil, List.cons_append, List.nil_append, List.length_cons, List.length_nil, Nat.reduceAdd, Nat.reduceSub, List.replicate_zero, List.replicate_succ, List.append_nil, List.set_cons_zero, List.set_cons_succ, List.getElem?_cons_zero, List.getElem?_cons_succ, Option.some.injEq, exists_eq_left', exists_eq_left, exists_eq_right, exists_eq', V.int.injEq, V.bl.injEq, V.ref.injEq, V.str.injEq, HO.ins.injEq, and_assoc, true_and, and_true, exists_and_left, List.cons.injEq, exists_const, ne_eq, reduceCtorEq, not_false_eq_true, decide_true, decide_false, if_true, if_false, false_and, false_or, Bool.not_true, Bool.not_false, Bool.false_eq_true]
        refine ⟨.inl ⟨rfl, _, SqL.of hr5⟩, Or.inl ⟨by omega, by omega⟩, by decide, fun t nt => ?_⟩
        have st := same_new (o := .tup [.int (Vbsyae.rectCost fl x1 x2), .int (-(x1 : Int) * (x2 : Int)), .int (x1 : Int), .int (x2 : Int)]) nt
        have nrt : r ≠ t := ne_of_none hr5 nt
        refine ⟨r, vs, _, rfl, rfl, st _ _ hr5, Nat.lt_of_le_of_lt hlen (by decide), ?_⟩
        have keep : ∀ b xs, H' b = some (.tup xs) → (upd (upd H' t (.tup [.int (Vbsyae.rectCost fl x1 x2), .int (-(x1 : Int) * (x2 : Int)), .int (x1 : Int), .int (x2 : Int)])) r (.lst (vs ++ [.ref t]))) b = some (.tup xs) := fun b xs e => by
          rw [upd_ne (ne_of e hr5 (by intro q; cases q))]
          exact st _ _ e
        refine (hPv _ _ _).mpr ⟨vs ++ [.ref t], _, _, _, rfl, same_mut (s5.trans st) nr, upd_same, (upd_ne (Ne.symm nre)).trans (st _ _ he5), hes5.imp keep, ?_⟩
        have hfin := (hrs.imp keep).snoc (t := t) (x := rowC fl (x1, x2)) (by rw [upd_ne (Ne.symm nrt)]; exact upd_same)
        unfold wide at hfin ⊢
        rw [take_get hx, List.filter_append, List.map_append]
        have e3 : ([(x1, x2)] : List (Nat × Nat)).filter (fun x => decide (n ≤ x.1 * x.2)) = [(x1, x2)] := by simp [c]
        rw [e3]
        exact hfin
      · have c' : decide ((n : Int) ≤ (x1 : Int) * (x2 : Int)) = false := decide_eq_false (by rw [em]; omega)
        rw [c', if_neg Bool.false_ne_true]
        refine (hPv _ _ _).mpr ⟨vs, _, _, _, rfl, s5, hr5, he5, hes5, ?_⟩
        unfold wide at hrs ⊢
        rw [take_get hx, List.filter_append, List.map_append]
        have e3 : ([(x1, x2)] : List (Nat × Nat)).filter (fun x => decide (n ≤ x.1 * x.2)) = [] := by simp [c]
        rw [e3]
        simpa using hrs
    · obtain ⟨vs, y3, y4, y5, rfl, s5, hr5, he5, hes5, hrs⟩ := (hPv _ _ _).mp h5
      have hesl := hes5.len
      rw [List.length_map] at hesl
      rw [hesl, List.take_length] at hrs
      have hL : Vbsyae.least fl n = (wide n (Vbsyae.shapes fl)).foldl (fun (m : Option (Nat × Nat)) x => match m with | none => some x | some y => if Vbsyae.cheaper fl x y = true then some x else m) none := rfl
      rw [hL] at q0 q1
      have hpos : ∀ x ∈ wide n (Vbsyae.shapes fl), 0 < x.1 ∧ x.1 ≤ fl.rows ∧ x.2 ≤ fl.cols := fun x hx => ⟨shapes_pos (List.mem_filter.mp hx).1, shapes_le (List.mem_filter.mp hx).1⟩
      generalize wide n (Vbsyae.shapes fl) = L at *
      refine ⟨_, rfl, r, vs, _, rfl, hr5, hrs, fun e0 => ?_, fun r0 rest e0 => ?_⟩
      · have : L = [] := List.map_eq_nil_iff.mp e0
        subst this
        exact q0 rfl H' s5
      · cases L with
        | nil => cases e0
        | cons x L =>
          rw [List.map_cons] at e0
          injection e0 with e1 e2
          subst e1 e2
          obtain ⟨b, hb1, hb2, hb3⟩ := least_fold fl L x (hpos x (by simp)).1 fun y hy => (hpos y (List.mem_cons_of_mem _ hy)).1
          have hbm : b ∈ x :: L := by
            rcases hb2 with z | z
            · rw [z]; simp
            · exact List.mem_cons_of_mem _ z
          obtain ⟨_, k1, k2⟩ := hpos b hbm
          exact ⟨_, _, _, _, hb3, fun H2 t s2 ht => q1 b hb1 k1 k2 H2 t (s5.trans s2) ht⟩
def sp_most_cells (A : Ad) : Sp := fun vs H Q _ => ∃ (a : Addr) (f : Vbsyae.Field) (h : Nat), vs = [.ref a, .int h] ∧ FieldAt A.cField H a f ∧
  ∀ H', Same H H' → Q (.int ((Vbsyae.best f h).1 * (Vbsyae.best f h).2 : Nat)) H'
def cBest : List Int → Option Vbsyae.Call
  | [h] => some (.best h)
  | _ => none
theorem best_le {f : Vbsyae.Field} {h : Nat} (hb : (Vbsyae.best f h).1 ≠ 0) : (Vbsyae.best f h).1 ≤ f.rows ∧ (Vbsyae.best f h).2 ≤ f.cols := by
  have key : ∀ (l : List (Nat × Nat)) (m : Nat × Nat), (∀ x ∈ l, x.1 ≤ f.rows ∧ x.2 ≤ f.cols) → (m.1 ≤ f.rows ∧ m.2 ≤ f.cols) →
      ((l.foldl (fun m x => if m.1 = 0 ∨ Vbsyae.better f x m = true then x else m) m).1 ≤ f.rows ∧ (l.foldl (fun m x => if m.1 = 0 ∨ Vbsyae.better f x m = true then x else m) m).2 ≤ f.cols) := by
    intro l
    induction l with
    | nil => intro m _ h; exact h
    | cons x l ih =>
      intro m hl hm
      rw [List.foldl_cons]
      refine ih _ (fun y hy => hl y (List.mem_cons_of_mem _ hy)) ?_
      split
      · exact hl x (by simp)
      · exact hm
  rw [best_eq]
  refine key _ _ (fun x hx => ?_) ⟨Nat.zero_le _, Nat.zero_le _⟩
  have hx2 := (List.mem_filter.mp hx).1
  unfold Vbsyae.shapes at hx2
  obtain ⟨a, ha, hb⟩ := List.mem_flatMap.mp hx2
  obtain ⟨b, hb2, rfl⟩ := List.mem_map.mp hb
  rw [List.mem_range] at ha hb2
  exact ⟨ha, hb2⟩
theorem ok_answer_best {f : Addr} {fd : FuncData} (F : Fun K "answer_best" "answer_best" s_answer_best f fd) (T : Txt K mg A) (c_check_range : Cal P w K mg base (L2.CX P w) 4 "check_range" ["number", "least", "most"] (sp_check_range A)) (c_greatest_rectangle : Cal P w K mg base CX0 4 "greatest_rectangle" ["field", "most_hurdles"] (sp_greatest A)) (c_rectangle_cost : Cal P w K mg base CX0 2 "rectangle_cost" ["field", "high", "wide"] (sp_rectangle_cost A)) (c_rectangle_put : Cal P w K mg base CX0 2 "rectangle_put" ["field", "high", "wide"] (sp_rectangle_put A)) : FnOk P w K mg base (L2.CX P w) 5 f fd ["field", "given"] (sp_ans A K cBest) := by
  refine F.okX sc_answer_best (fun vs H Q E h => ?_) (fun cdv B outer s H vs Q E hr h => ?_)
  · obtain ⟨F, a, g, f, l, c, rfl, _⟩ := h
    rfl
  · obtain ⟨Fr, a, g, fl, l, c, rfl, hF, hg, hl, hc, q, er⟩ := h
    match l, hc with
    | [n], hc =>
    cases hc
    refine ⟨_, (pss_cons (ps_expr (pe_cal c_check_range hr (by rfl) (passes_call (takes_of rfl rfl rfl rfl) fun _ _ _ _ h => h) (pa_cons (pe_ix ix_list (pv 1) pe_int (fun _ _ => rfl)) (pa_cons pe_int (pa_cons (pe_gi T.MOST_HURDLES (by rfl)) pa_nil)))))
      (pss_cons (ps_set (i := 2) sc_answer_best.nd rfl (Or.inl rfl) (pe_cal c_greatest_rectangle hr (by rfl) pass0 (pa_cons (pv 0) (pa_cons (pe_ix ix_list (pv 1) pe_int (fun _ _ => rfl)) pa_nil))))
      (pss_cons (ps_if (pt_cmpR op_isN (pv 2) pe_non (nomark _)) (pss_one (ps_ret (pe_lst (pa_cons pe_int pa_nil)))) pss_nil)
      (pss_cons (ps_set (i := 3) sc_answer_best.nd rfl (Or.inl rfl) (pe_ix ix_tup (pv 2) pe_int (fun _ _ => rfl)))
      (pss_cons (ps_set (i := 4) sc_answer_best.nd rfl (Or.inl rfl) (pe_ix ix_tup (pv 2) pe_int (fun _ _ => rfl)))
      (pss_one (ps_ret (pe_op op_cat (pe_lst (pa_cons pe_int (pa_cons (pe_op op_mul (pv 3) (pv 4)) (pa_cons (pe_cal c_rectangle_cost (hr.mono (by decide)) (by rfl) pass0 (pa_cons (pv 0) (pa_cons (pv 3) (pa_cons (pv 4) pa_nil)))) pa_nil)))) (pe_cal c_rectangle_put (hr.mono (by decide)) (by rfl) pass0 (pa_cons (pv 0) (pa_cons (pv 3) (pa_cons (pv 4) pa_nil)))))))))))), ?_⟩
    refine ⟨_, rfl, g, _, 0, _, rfl, rfl, hg, rfl, n, 0, 100, rfl, fun hx => ?_, fun hb => ?_⟩
    rotate_left
    · refine er (-3) ?_ A.cOutOfRange (by simp [errs])
      show (do let a ← Vbsyae.ranged n 0 100; _) = _
      rw [ranged_bad hb]
      rfl
    have hrun : Vbsyae.run fl (.best n) = if (Vbsyae.best fl n.toNat).1 = 0 then .ok (fl, [0]) else .ok (fl, VbsyCore.ints [1, (Vbsyae.best fl n.toNat).1 * (Vbsyae.best fl n.toNat).2, Vbsyae.rectCost fl (Vbsyae.best fl n.toNat).1 (Vbsyae.best fl n.toNat).2] ++ Vbsyae.foldRow (Vbsyae.putAt fl (Vbsyae.best fl n.toNat).1 (Vbsyae.best fl n.toNat).2)) := by
      show (do let a ← Vbsyae.ranged n 0 100; _) = _
      rw [ranged_ok hx]
      rfl
    rw [hrun] at q er
    obtain ⟨k, rfl⟩ : ∃ k : Nat, n = (k : Int) := ⟨n.toNat, by omega⟩
    rw [Int.toNat_natCast] at q er
    refine ⟨_, rfl, _, rfl, g, _, 0, _, rfl, rfl, hg, rfl, a, fl, k, rfl, hF.at, fun hb H1 s1 => ?_, fun hb H1 t s1 ht => ?_⟩
    · rw [if_pos hb] at q
      simp only [tSeq, tIfS, tB, tVar, tRet, tRetN, tDrop, tAsg, gName, tOp, tC, tUn, rU, rI, rI0, tNext, tIf, tTest, tAnd, tOr, tNot, tAndV, tOrV, tNotV, tCons, tNil, tCal, tCalM, tCalC, tBase, tFld, sFld, sFldAug, L2.rAdd, tIsN, tNotN, rEq, rNe, scal_ii, scal_bb, scal_ss, scal_sn, scal_ns, scal_in, scal_ni, cxK, cxK2, tAug, ipI, L2.start, List.map_cons, List.map_nil, List.cons_append, List.nil_append, List.length_cons, List.length_nil, Nat.reduceAdd, Nat.reduceSub, List.replicate_zero, List.replicate_succ, List.append_nil, List.set_cons_zero, List.set_cons_succ, List.getElem?_cons_zero, List.getElem?_cons_succ, Option.some.injEq, exists_eq_left', exists_eq_left, exists_eq_right, exists_eq', V.int.injEq, V.bl.injEq, V.ref.injEq, V.str.injEq, HO.ins.injEq, and_assoc, true_and, and_true, exists_and_left, List.cons.injEq, exists_const, ne_eq, reduceCtorEq, not_false_eq_true, decide_true, decide_false, if_true, if_false, false_and, false_or, Bool.not_true, Bool.not_false, Bool.false_eq_true, tLst]
      refine ⟨by decide, fun p np => ?_⟩
      obtain ⟨h4, h5⟩ := (hF.on s1).new (o := .lst [.int 0]) np
      exact q _ _ rfl _ p h4 h5 upd_same
    · obtain ⟨hb1, hb2⟩ := best_le hb
      rw [if_neg hb] at q
      generalize Vbsyae.best fl k = bb at *
      obtain ⟨b1, b2⟩ := bb
      dsimp only at *
      have wf := hF.wf
      have hr8 := wf.r8
      have hc8 := wf.c8
      simp only [tSeq, tIfS, tB, tVar, tRet, tRetN, tDrop, tAsg, gName, tOp, tC, tUn, rU, rI, rI0, tNext, tIf, tTest, tAnd, tOr, tNot, tAndV, tOrV, tNotV, tCons, tNil, tCal, tCalM, tCalC, tBase, tFld, sFld, sFldAug, L2.rAdd, tIsN, tNotN, rEq, rNe, scal_ii, scal_bb, scal_ss, scal_sn, scal_ns, scal_in, scal_ni, cxK, cxK2, tAug, ipI, L2.start, List.map_cons, List.map_nil, List.cons_append, List.nil_append, List.length_cons, List.length_nil, Nat.reduceAdd, Nat.reduceSub, List.replicate_zero, List.replicate_succ, List.append_nil, List.set_cons_zero, List.set_cons_succ, List.getElem?_cons_zero, List.getElem?_cons_succ, Option.some.injEq, exists_eq_left', exists_eq_left, exists_eq_right, exists_eq', V.int.injEq, V.bl.injEq, V.ref.injEq, V.str.injEq, HO.ins.injEq, and_assoc, true_and, and_true, exists_and_left, List.cons.injEq, exists_const, ne_eq, reduceCtorEq, not_false_eq_true, decide_true, decide_false, if_true, if_false, false_and, false_or, Bool.not_true, Bool.not_false, Bool.false_eq_true]
      refine st_ixT ht rfl ?_
      refine st_ixT ht rfl ?_
      simp only [tSeq, tIfS, tB, tVar, tRet, tRetN, tDrop, tAsg, gName, tOp, tC, tUn, rU, rI, rI0, tNext, tIf, tTest, tAnd, tOr, tNot, tAndV, tOrV, tNotV, tCons, tNil, tCal, tCalM, tCalC, tBase, tFld, sFld, sFldAug, L2.rAdd, tIsN, tNotN, rEq, rNe, scal_ii, scal_bb, scal_ss, scal_sn, scal_ns, scal_in, scal_ni, cxK, cxK2, tAug, ipI, L2.start, List.map_cons, List.map_nil, List.cons_append, List.nil_append, List.length_cons, List.length_nil, Nat.reduceAdd, Nat.reduceSub, List.replicate_zero, List.replicate_succ, List.append_nil, List.set_cons_zero, List.set_cons_succ, List.getElem?_cons_zero, List.getElem?_cons_succ, Option.some.injEq, exists_eq_left', exists_eq_left, exists_eq_right, exists_eq', V.int.injEq, V.bl.injEq, V.ref.injEq, V.str.injEq, HO.ins.injEq, and_assoc, true_and, and_true, exists_and_left, List.cons.injEq, exists_const, ne_eq, reduceCtorEq, not_false_eq_true, decide_true, decide_false, if_true, if_false, false_and, false_or, Bool.not_true, Bool.not_false, Bool.false_eq_true, tLst]
      refine ⟨Or.inl ⟨by omega, by omega⟩, a, fl, b1, b2, rfl, (hF.on s1).at, by omega, by omega, by decide, fun p1 n1 => ?_⟩
      have s2 := same_new (o := .lst [.int 1, .int ((b1 : Int) * (b2 : Int)), .int (Vbsyae.rectCost fl b1 b2)]) n1
      refine ⟨a, fl, b1, b2, rfl, ((hF.on s1).on s2).at, hb1, hb2, fun H3 p2 s3 n2 h2 => ?_⟩
      refine ⟨p1, p2, _, _, rfl, rfl, s3 _ _ upd_same, h2, (by simp [Vbsyae.foldRow, VbsyCore.ints]; decide), fun p3 n3 => ?_⟩
      obtain ⟨h4, h5⟩ := (((hF.on s1).on s2).on s3).new (o := .lst ([.int 1, .int ((b1 : Int) * (b2 : Int)), .int (Vbsyae.rectCost fl b1 b2)] ++ (Vbsyae.foldRow (Vbsyae.putAt fl b1 b2)).map V.int)) n3
      refine q _ _ rfl _ p3 h4 h5 (upd_same.trans ?_)
      unfold intsV VbsyCore.ints
      simp
end
end HF
namespace HF
open PySem PySem.Spec PyProof.Rows L2
abbrev s_day_written : Stmt := top 42
theorem sc_day_written : FnScope ["day", "row", "column", "high", "wide"] ["day"] (defScope s_day_written) := ⟨rfl, rfl, rfl, by decide +kernel, rfl, by decide +kernel, by decide +kernel⟩
abbrev s_field_written : Stmt := top 43
theorem sc_field_written : FnScope ["field", "rows", "columns", "words", "side", "word", "lines", "day"] ["field"] (defScope s_field_written) := ⟨rfl, rfl, rfl, by decide +kernel, rfl, by decide +kernel, by decide +kernel⟩
abbrev s_answer_text : Stmt := top 70
theorem sc_answer_text : FnScope ["field", "given"] ["field", "given"] (defScope s_answer_text) := ⟨rfl, rfl, rfl, by decide +kernel, rfl, by decide +kernel, by decide +kernel⟩
section
variable {P : Program} {w : World} {K : PySem.W.Frag} {mg : Str → Option Value} {base : Heap} {A : Ad}
theorem codes_add (a b : Str) : codes (a ++ b) = codes a ++ codes b := by
  show (a.cps ++ b.cps).toList = _
  rw [Array.toList_append]
  rfl
theorem codes_len (a : Str) : a.length = (codes a).length := by
  show a.cps.size = a.cps.toList.length
  rw [Array.length_toList]
theorem codes_num {n : Nat} (h : n ≤ 8) : codes (Str.ofString (toString ((n : Nat) : Int))) = VbsyCore.natText n := by
  have h9 : n = 0 ∨ n = 1 ∨ n = 2 ∨ n = 3 ∨ n = 4 ∨ n = 5 ∨ n = 6 ∨ n = 7 ∨ n = 8 := by omega
  rcases h9 with rfl | rfl | rfl | rfl | rfl | rfl | rfl | rfl | rfl <;> decide +kernel
theorem natText_len {n : Nat} (h : n ≤ 8) : (VbsyCore.natText n).length = 1 := by
  have h9 : n = 0 ∨ n = 1 ∨ n = 2 ∨ n = 3 ∨ n = 4 ∨ n = 5 ∨ n = 6 ∨ n = 7 ∨ n = 8 := by omega
  rcases h9 with rfl | rfl | rfl | rfl | rfl | rfl | rfl | rfl | rfl <;> decide +kernel
theorem log_small {n : Nat} (h : n ≤ 8) : ((n : Int).natAbs).log2 < 1920 := by
  have h9 : n = 0 ∨ n = 1 ∨ n = 2 ∨ n = 3 ∨ n = 4 ∨ n = 5 ∨ n = 6 ∨ n = 7 ∨ n = 8 := by omega
  rcases h9 with rfl | rfl | rfl | rfl | rfl | rfl | rfl | rfl | rfl <;> decide
def sp_day_written (K : PySem.W.Frag) : Sp := fun vs H Q _ => ∃ (t : Addr) (x : Vbsyae.Fold), vs = [.ref t] ∧ H t = some (.tup (dayV x)) ∧ x.row ≤ 8 ∧ x.col ≤ 8 ∧ x.high ≤ 8 ∧ x.wide ≤ 8 ∧ ∀ z : Str, codes z = Vbsyae.foldText x → Q (.str z) H
theorem fold_text_len {x : Vbsyae.Fold} (h1 : x.row ≤ 8) (h2 : x.col ≤ 8) (h3 : x.high ≤ 8) (h4 : x.wide ≤ 8) : (Vbsyae.foldText x).length = 22 := by
  unfold Vbsyae.foldText Vbsyae.num
  have w1 : (Vbsyae.W "fold").length = 4 := by decide +kernel
  have w2 : (Vbsyae.W "high").length = 4 := by decide +kernel
  have w3 : (Vbsyae.W "wide").length = 4 := by decide +kernel
  simp [VbsyCore.between, natText_len h1, natText_len h2, natText_len h3, natText_len h4, w1, w2, w3]
theorem ok_day_written {f : Addr} {fd : FuncData} (F : Fun K "day_written" "day_written" s_day_written f fd) : FnOk P w K mg base CX0 1 f fd ["day"] (sp_day_written K) := by
  refine F.ok sc_day_written (fun vs H Q E h => ?_) (fun cdv B outer s H vs Q E hr h => ?_)
  · obtain ⟨t, x, rfl, _⟩ := h
    rfl
  · obtain ⟨t, x, rfl, ht, h1, h2, h3, h4, q⟩ := h
    refine ⟨_, (pss_cons (ps_set (i := 1) sc_day_written.nd rfl (Or.inl rfl) (pe_ix ix_tup (pv 0) pe_int (fun _ _ => rfl)))
      (pss_cons (ps_set (i := 2) sc_day_written.nd rfl (Or.inl rfl) (pe_ix ix_tup (pv 0) pe_int (fun _ _ => rfl)))
      (pss_cons (ps_set (i := 3) sc_day_written.nd rfl (Or.inl rfl) (pe_ix ix_tup (pv 0) pe_int (fun _ _ => rfl)))
      (pss_cons (ps_set (i := 4) sc_day_written.nd rfl (Or.inl rfl) (pe_ix ix_tup (pv 0) pe_int (fun _ _ => rfl)))
      (pss_one (ps_ret (pe_joined (PJ.cons pe_str (PJ.cons (pe_fmt (pv 1)) (PJ.cons pe_str (PJ.cons (pe_fmt (pv 2)) (PJ.cons pe_str (PJ.cons (pe_fmt (pv 3)) (PJ.cons pe_str (PJ.cons (pe_fmt (pv 4)) PJ.nil))))))))))))))), ?_⟩
    simp only [tSeq, tIfS, tB, tVar, tRet, tRetN, tDrop, tAsg, gName, tOp, tC, tUn, rU, rI, rI0, tNext, tIf, tTest, tAnd, tOr, tNot, tAndV, tOrV, tNotV, tCons, tNil, tCal, tCalM, tCalC, tBase, tFld, sFld, sFldAug, L2.rAdd, tIsN, tNotN, rEq, rNe, scal_ii, scal_bb, scal_ss, scal_sn, scal_ns, scal_in, scal_ni, cxK, cxK2, tAug, ipI, L2.start, List.map_cons, List.map_nil, List.cons_append, List.nil_append, List.length_cons, List.length_nil, Nat.reduceAdd, Nat.reduceSub, List.replicate_zero, List.replicate_succ, List.append_nil, List.set_cons_zero, List.set_cons_succ, List.getElem?_cons_zero, List.getElem?_cons_succ, Option.some.injEq, exists_eq_left', exists_eq_left, exists_eq_right, exists_eq', V.int.injEq, V.bl.injEq, V.ref.injEq, V.str.injEq, HO.ins.injEq, and_assoc, true_and, and_true, exists_and_left, List.cons.injEq, exists_const, ne_eq, reduceCtorEq, not_false_eq_true, decide_true, decide_false, if_true, if_false, false_and, false_or, Bool.not_true, Bool.not_false, Bool.false_eq_true]
    refine st_ixT ht rfl ?_
    refine st_ixT ht rfl ?_
    refine st_ixT ht rfl ?_
    refine st_ixT ht rfl ?_
    simp only [tJs, tFmt, tSeq, tIfS, tB, tVar, tRet, tRetN, tDrop, tAsg, gName, tOp, tC, tUn, rU, rI, rI0, tNext, tIf, tTest, tAnd, tOr, tNot, tAndV, tOrV, tNotV, tCons, tNil, tCal, tCalM, tCalC, tBase, tFld, sFld, sFldAug, L2.rAdd, tIsN, tNotN, rEq, rNe, scal_ii, scal_bb, scal_ss, scal_sn, scal_ns, scal_in, scal_ni, cxK, cxK2, tAug, ipI, L2.start, List.map_cons, List.map_nil, List.cons_append, List.nil_append, List.length_cons, List.length_nil, Nat.reduceAdd, Nat.reduceSub, List.replicate_zero, List.replicate_succ, List.append_nil, List.set_cons_zero, List.set_cons_succ, List.getElem?_cons_zero, List.getElem?_cons_succ, Option.some.injEq, exists_eq_left', exists_eq_left, exists_eq_right, exists_eq', V.int.injEq, V.bl.injEq, V.ref.injEq, V.str.injEq, HO.ins.injEq, and_assoc, true_and, and_true, exists_and_left, List.cons.injEq, exists_const, ne_eq, reduceCtorEq, not_false_eq_true, decide_true, decide_false, if_true, if_false, false_and, false_or, Bool.not_true, Bool.not_false, Bool.false_eq_true]
    have a1 : (codes (Str.ofString "fold ")).length = 5 := by decide +kernel
    have a2 : (codes (Str.ofString " ")).length = 1 := by decide +kernel
    have a3 : (codes (Str.ofString " high ")).length = 6 := by decide +kernel
    have a4 : (codes (Str.ofString " wide ")).length = 6 := by decide +kernel
    have a0 : codes Str.empty = [] := rfl
    have n1 := codes_num h1
    have n2 := codes_num h2
    have n3 := codes_num h3
    have n4 := codes_num h4
    have m1 := natText_len h1
    have m2 := natText_len h2
    have m3 := natText_len h3
    have m4 := natText_len h4
    simp only [codes_len, codes_add, List.length_append, n1, n2, n3, n4, m1, m2, m3, m4, a0, a1, a2, a3, a4, List.length_nil, sizeLine_eq]
    refine ⟨by omega, log_small h1, by omega, by omega, log_small h2, by omega, by omega, log_small h3, by omega, by omega, log_small h4, by omega, q _ ?_⟩
    simp only [codes_add, n1, n2, n3, n4, a0]
    have b1 : codes (Str.ofString "fold ") = Vbsyae.W "fold" ++ [32] := by decide +kernel
    have b2 : codes (Str.ofString " ") = [32] := by decide +kernel
    have b3 : codes (Str.ofString " high ") = [32] ++ Vbsyae.W "high" ++ [32] := by decide +kernel
    have b4 : codes (Str.ofString " wide ") = [32] ++ Vbsyae.W "wide" ++ [32] := by decide +kernel
    rw [b1, b2, b3, b4]
    unfold Vbsyae.foldText Vbsyae.num
    simp only [VbsyCore.between, List.append_assoc, List.nil_append]
/-- joined texts -/
theorem between_flat (s : List Nat) : ∀ (l : List (List Nat)) (w : List Nat), VbsyCore.between s (w :: l) = w ++ l.flatMap fun x => s ++ x
  | [], w => by simp [VbsyCore.between]
  | x :: l, w => by
    show w ++ s ++ VbsyCore.between s (x :: l) = _
    rw [between_flat s l x, List.flatMap_cons, List.append_assoc, List.append_assoc]
theorem glued_flat (g : Array Nat) : ∀ (l : List Str) (a : Array Nat), (l.foldl (fun acc p => acc ++ g ++ p.cps) a).toList = a.toList ++ l.flatMap fun p => g.toList ++ codes p
  | [], a => by simp
  | x :: l, a => by
    rw [List.foldl_cons, glued_flat g l, List.flatMap_cons, Array.toList_append, Array.toList_append]
    simp [codes]
theorem codes_join (a : Str) (ys : List Str) : codes (Txt.join a ys) = VbsyCore.between (codes a) (ys.map codes) := by
  cases ys with
  | nil => rfl
  | cons y ys =>
    rw [List.map_cons, between_flat]
    show (((y :: ys).drop 1).foldl (fun acc p => acc ++ a.cps ++ p.cps) y.cps).toList = _
    rw [List.drop_one, List.tail_cons, glued_flat, List.flatMap_map]
    rfl
theorem between_glue (s : List Nat) : ∀ (ws : List (List Nat)) (w : List Nat) (l : List (List Nat)), VbsyCore.between s ((w :: ws) ++ l) = VbsyCore.between s (VbsyCore.between s (w :: ws) :: l) := fun ws w l => by
  rw [List.cons_append, between_flat, between_flat, between_flat, List.flatMap_append, List.append_assoc]
def sideStr : Nat → Str
  | 0 => "above"
  | 1 => "right"
  | 2 => "below"
  | _ => "left"
theorem side_str {i : Nat} {x : V} (h : sideV[i]? = some x) : x = .str (sideStr i) := by
  unfold sideV at h
  match i, h with
  | 0, h => cases h; rfl
  | 1, h => cases h; rfl
  | 2, h => cases h; rfl
  | 3, h => cases h; rfl
  | i + 4, h => simp at h
theorem codes_side {i : Nat} (h : i < 4) : codes (sideStr i) = Vbsyae.SIDES.getD i [] ∧ (codes (sideStr i)).length ≤ 5 := by
  have h4 : i = 0 ∨ i = 1 ∨ i = 2 ∨ i = 3 := by omega
  rcases h4 with rfl | rfl | rfl | rfl <;> decide +kernel
def sp_field_written (A : Ad) : Sp := fun vs H Q _ => ∃ (a : Addr) (f : Vbsyae.Field), vs = [.ref a] ∧ FieldAt A.cField H a f ∧ ∀ (H' : Hp) (p : Addr), Same H H' → H p = none → H' p = some (.lst (natsV (Vbsyae.fieldText f))) → (Vbsyae.fieldText f).length ≤ 100000 → Q (.ref p) H'
theorem strs_len : ∀ (ys : List Str) (n : Nat), (∀ y ∈ ys, (codes y).length ≤ n) → (ys.map fun x => (codes x).length).sum ≤ ys.length * n
  | [], n, _ => by simp
  | y :: ys, n, h => by
    have ih := strs_len ys n fun z hz => h z (List.mem_cons_of_mem _ hz)
    have hy := h y (by simp)
    rw [List.map_cons, List.sum_cons, List.length_cons, Nat.add_mul, Nat.one_mul]
    omega
theorem between_len (s : List Nat) (n : Nat) (hs : s.length ≤ 1) : ∀ (l : List (List Nat)), (∀ y ∈ l, y.length ≤ n) → (VbsyCore.between s l).length ≤ l.length * (n + 1)
  | [], _ => by simp [VbsyCore.between]
  | [y], h => by
    have := h y (by simp)
    simp [VbsyCore.between]
    omega
  | x :: y :: l, h => by
    have ih := between_len s n hs (y :: l) fun z hz => h z (List.mem_cons_of_mem _ hz)
    have hx := h x (by simp)
    show (x ++ s ++ VbsyCore.between s (y :: l)).length ≤ (y :: l).length.succ * (n + 1)
    rw [List.length_append, List.length_append, Nat.succ_mul]
    omega
theorem ok_field_written {f : Addr} {fd : FuncData} (F : Fun K "field_written" "field_written" s_field_written f fd) (T : Txt K mg A) (c_day_written : Cal P w K mg base CX0 1 "day_written" ["day"] (sp_day_written K)) (c_spelled : Cal P w K mg base CX0 1 "spelled" ["text"] sp_spelled) : FnOk P w K mg base CX0 2 f fd ["field"] (sp_field_written A) := by
  refine F.ok sc_field_written (fun vs H Q E h => ?_) (fun cdv B outer s H vs Q E hr h => ?_)
  · obtain ⟨a, f, rfl, _⟩ := h
    rfl
  · obtain ⟨a, fl, rfl, hF, q⟩ := h
    refine ⟨_, (pss_cons (ps_set (i := 1) sc_field_written.nd rfl (Or.inl rfl) (pe_fld (pv 0) rfl))
      (pss_cons (ps_set (i := 2) sc_field_written.nd rfl (Or.inl rfl) (pe_fld (pv 0) rfl))
      (pss_cons (ps_set (i := 3) sc_field_written.nd rfl (Or.inl rfl) (pe_lst (pa_cons (pe_joined (PJ.cons pe_str (PJ.cons (pe_fmt (pv 1)) (PJ.cons pe_str (PJ.cons (pe_fmt (pv 2)) (PJ.cons pe_str PJ.nil)))))) pa_nil)))
      (pss_cons (ps_for PassesOwn.never rfl (pi_enumT (by rfl) T.enumerate (pa_cons (pe_gr T.SIDE_WORDS (by rfl)) pa_nil)) (pg_tup rfl (pgs_cons (pg_name (i := 4) sc_field_written.nd rfl (Or.inl rfl)) (pgs_cons (pg_name (i := 5) sc_field_written.nd rfl (Or.inl rfl)) pgs_nil)))
      (pss_one (ps_if (pt_cmpR op_eq (pe_ix ix_list (pe_fld (pv 0) rfl) (pv 4) (fun _ _ => rfl)) pe_int (nomark _)) (pss_one (ps_expr (pe_bm PySem.F.plainAttrs_list PySem.F.slot_list_append PySem.F.type_list_append mt_append (pv 3) (pa_cons (pv 5) pa_nil)))) pss_nil)))
      (pss_cons (ps_set (i := 6) sc_field_written.nd rfl (Or.inl rfl) (pe_lst (pa_cons (pe_join pe_str (pv 3)) pa_nil)))
      (pss_cons (ps_for PassesOwn.never rfl (pi_list (pe_fld (pv 0) rfl)) (pg_name (i := 7) sc_field_written.nd rfl (Or.inl rfl))
      (pss_one (ps_expr (pe_bm PySem.F.plainAttrs_list PySem.F.slot_list_append PySem.F.type_list_append mt_append (pv 6) (pa_cons (pe_cal c_day_written hr (by rfl) pass0 (pa_cons (pv 7) pa_nil)) pa_nil)))))
      (pss_one (ps_ret (pe_cal c_spelled hr (by rfl) pass0 (pa_cons (pe_join pe_str (pv 6)) pa_nil)))))))))), ?_⟩
    obtain ⟨dx, w, d, ds, X⟩ := FX.of hF
    have wf := X.wf
    have hr8 := wf.r8
    have hc8 := wf.c8
    simp only [tSeq, tIfS, tB, tVar, tRet, tRetN, tDrop, tAsg, gName, tOp, tC, tUn, rU, rI, rI0, tNext, tIf, tTest, tAnd, tOr, tNot, tAndV, tOrV, tNotV, tCons, tNil, tCal, tCalM, tCalC, tBase, tFld, sFld, sFldAug, L2.rAdd, tIsN, tNotN, rEq, rNe, scal_ii, scal_bb, scal_ss, scal_sn, scal_ns, scal_in, scal_ni, cxK, cxK2, tAug, ipI, L2.start, List.map_cons, List.map_nil, List.cons_append, List.nil_append, List.length_cons, List.length_nil, Nat.reduceAdd, Nat.reduceSub, List.replicate_zero, List.replicate_succ, List.append_nil, List.set_cons_zero, List.set_cons_succ, List.getElem?_cons_zero, List.getElem?_cons_succ, Option.some.injEq, exists_eq_left', exists_eq_left, exists_eq_right, exists_eq', V.int.injEq, V.bl.injEq, V.ref.injEq, V.str.injEq, HO.ins.injEq, and_assoc, true_and, and_true, exists_and_left, List.cons.injEq, exists_const, ne_eq, reduceCtorEq, not_false_eq_true, decide_true, decide_false, if_true, if_false, false_and, false_or, Bool.not_true, Bool.not_false, Bool.false_eq_true, T.clField, T.nRows, T.nColumns, T.nWalls, T.nDays, fF_rows, fF_cols, fF_walls, fF_days, X.at_, tLst, tJs, tFmt]
    have a1 : (codes (Str.ofString "field ")).length = 6 := by decide +kernel
    have a2 : (codes (Str.ofString " ")).length = 1 := by decide +kernel
    have a3 : (codes (Str.ofString " walls")).length = 6 := by decide +kernel
    have a0 : codes Str.empty = [] := rfl
    have n1 := codes_num hr8
    have n2 := codes_num hc8
    have m1 := natText_len hr8
    have m2 := natText_len hc8
    obtain ⟨hd, hhd⟩ : ∃ hd, hd = Str.empty ++ Str.ofString "field " ++ Str.ofString (toString (fl.rows : Int)) ++ Str.ofString " " ++ Str.ofString (toString (fl.cols : Int)) ++ Str.ofString " walls" := ⟨_, rfl⟩
    rw [← hhd]
    have ehd : codes hd = VbsyCore.between [32] [Vbsyae.W "field", Vbsyae.num fl.rows, Vbsyae.num fl.cols, Vbsyae.W "walls"] := by
      rw [hhd]
      have b1 : codes (Str.ofString "field ") = Vbsyae.W "field" ++ [32] := by decide +kernel
      have b2 : codes (Str.ofString " ") = [32] := by decide +kernel
      have b3 : codes (Str.ofString " walls") = [32] ++ Vbsyae.W "walls" := by decide +kernel
      simp only [codes_add, n1, n2, a0]
      rw [b1, b2, b3]
      unfold Vbsyae.num
      simp only [VbsyCore.between, List.append_assoc, List.nil_append]
    have lhd : (codes hd).length ≤ 20 := by
      rw [hhd]
      simp only [codes_add, List.length_append, n1, n2, m1, m2, a0, a1, a2, a3, List.length_nil]
      omega
    simp only [codes_len, codes_add, List.length_append, n1, n2, m1, m2, a0, a1, a2, a3, List.length_nil, sizeLine_eq]
    refine ⟨by omega, log_small hr8, by omega, by omega, log_small hc8, by omega, by omega, by omega, fun p np => ?_⟩
    have s1 := same_new (o := .lst [.str hd]) np
    obtain ⟨Pv, hPv⟩ : ∃ Pv : Nat → L2.St → Hp → Prop, ∀ i σ H', Pv i σ H' ↔ ∃ (y3 y4 y5 y6 y7 : Option V) (ys : List Str), σ = [some (.ref a), some (.int fl.rows), some (.int fl.cols), some (.ref p), y4, y5, y6, y7] ∧ i ≤ 4 ∧ Same H H' ∧ H' p = some (.lst (ys.map V.str)) ∧ ys.length ≤ i + 1 ∧ (∀ y ∈ ys, (codes y).length ≤ 20) ∧
        ys.map codes = codes hd :: (((List.range i).filter (Vbsyae.walled fl)).map fun s => Vbsyae.SIDES.getD s []) := ⟨_, fun _ _ _ => Iff.rfl⟩
    refine q_forET (a := A.aSides) (xs := sideV) Pv (fun R h => h) ((hPv _ _ _).mpr ⟨none, none, none, none, none, [hd], rfl, Nat.zero_le _, s1, upd_same, Nat.le_refl _, by simpa using lhd, rfl⟩) (fun i σ H' _ _ => T.sides H') (fun i x t σ H' hi nt h5 => ?_) (fun σ H' h5 => ?_)
    · obtain ⟨y3, y4, y5, y6, y7, ys, rfl, hi4, s5, hp5, hyl, hy20, hys⟩ := (hPv _ _ _).mp h5
      have hx := side_str hi
      subst hx
      have hi4' := (side_word hi).1
      have s6 := s5.trans (same_new (o := .tup [.int i, .str (sideStr i)]) nt)
      have hT : (upd H' t (.tup [.int i, .str (sideStr i)])) t = some (.tup [.int i, .str (sideStr i)]) := upd_same
      have hp6 : (upd H' t (.tup [.int i, .str (sideStr i)])) p = some (.lst (ys.map V.str)) := (upd_ne (ne_of_none hp5 nt)).trans hp5
      generalize upd H' t (.tup [.int i, .str (sideStr i)]) = H6 at *
      have X6 := X.on s6
      refine ⟨t, _, rfl, Or.inl (Or.inl hT), rfl, ?_⟩
      have hW := X6.hw
      rw [walls4v wf] at hW
      have hwat : atI [wv (Vbsyae.walled fl 0), wv (Vbsyae.walled fl 1), wv (Vbsyae.walled fl 2), wv (Vbsyae.walled fl 3)] (i : Int) = some (wv (Vbsyae.walled fl i)) := by
        have h4 : i = 0 ∨ i = 1 ∨ i = 2 ∨ i = 3 := by omega
        rcases h4 with rfl | rfl | rfl | rfl <;> rfl
      simp only [gCons, gNil, tSeq, tIfS, tB, tVar, tRet, tRetN, tDrop, tAsg, gName, tOp, tC, tUn, rU, rI, rI0, tNext, tIf, tTest, tAnd, tOr, tNot, tAndV, tOrV, tNotV, tCons, tNil, tCal, tCalM, tCalC, tBase, tFld, sFld, sFldAug, L2.rAdd, tIsN, tNotN, rEq, rNe, scal_ii, scal_bb, scal_ss, scal_sn, scal_ns, scal_in, scal_ni, cxK, cxK2, tAug, ipI, L2.start, List.map_cons, List.map_nil, List.cons_append, List.nil_append, List.length_cons, List.length_nil, Nat.reduceAdd, Nat.reduceSub, List.replicate_zero, List.replicate_succ, List.append_nil, List.set_cons_zero, List.set_cons_succ, List.getElem?_cons_zero, List.getElem?_cons_succ, Option.some.injEq, exists_eq_left', exists_eq_left, exists_eq_right, exists_eq', V.int.injEq, V.bl.injEq, V.ref.injEq, V.str.injEq, HO.ins.injEq, and_assoc, true_and, and_true, exists_and_left, List.cons.injEq, exists_const, ne_eq, reduceCtorEq, not_false_eq_true, decide_true, decide_false, if_true, if_false, false_and, false_or, Bool.not_true, Bool.not_false, Bool.false_eq_true, T.clField, T.nRows, T.nColumns, T.nWalls, T.nDays, fF_rows, fF_cols, fF_walls, fF_days, X6.at_]
      refine st_ixL hW hwat ?_
      have key : ∀ b : Bool, scal (wv b) (V.int 1) = true ∧ decide (wv b = V.int 1) = b := fun b => by cases b <;> exact ⟨rfl, by decide⟩
      refine ⟨(key _).1, ?_⟩
      rw [(key _).2]
      obtain ⟨cs1, cs2⟩ := codes_side hi4'
      have more : ∀ b : Bool, Vbsyae.walled fl i = b → (((List.range (i + 1)).filter (Vbsyae.walled fl)).map fun s => Vbsyae.SIDES.getD s []) = (((List.range i).filter (Vbsyae.walled fl)).map fun s => Vbsyae.SIDES.getD s []) ++ (if b = true then [Vbsyae.SIDES.getD i []] else []) := fun b hb => by
        rw [List.range_succ, List.filter_append, List.map_append]
        congr 1
        cases b <;> simp [hb]
      cases hb : Vbsyae.walled fl i with
      | true =>
        refine iteT ?_
        simp only [tBM, tSeq, tIfS, tB, tVar, tRet, tRetN, tDrop, tAsg, gName, tOp, tC, tUn, rU, rI, rI0, tNext, tIf, tTest, tAnd, tOr, tNot, tAndV, tOrV, tNotV, tCons, tNil, tCal, tCalM, tCalC, tBase, tFld, sFld, sFldAug, L2.rAdd, tIsN, tNotN, rEq, rNe, scal_ii, scal_bb, scal_ss, scal_sn, scal_ns, scal_in, scal_ni, cxK, cxK2, tAug, ipI, L2.start, List.map_cons, List.map_nil, List.cons_append, List.nil_append, List.length_cons, List.length_nil, Nat.reduceAdd, Nat.reduceSub, List.replicate_zero, List.replicate_succ, List.append_nil, List.set_cons_zero, List.set_cons_succ, List.getElem?_cons_zero, List.getElem?_cons_succ, Option.some.injEq, exists_eq_left', exists_eq_left, exists_eq_right, exists_eq', V.int.injEq, V.bl.injEq, V.ref.injEq, V.str.injEq, HO.ins.injEq, and_assoc, true_and, and_true, exists_and_left, List.cons.injEq, exists_const, ne_eq, reduceCtorEq, not_false_eq_true, decide_true, decide_false, if_true, if_false, false_and, false_or, Bool.not_true, Bool.not_false, Bool.false_eq_true]
        refine ⟨.inl ⟨rfl, _, SqL.of hp6⟩, p, _, _, rfl, rfl, hp6, by rw [List.length_map]; exact Nat.lt_of_le_of_lt (show _ ≤ 10 by omega) (by decide), ?_⟩
        refine (hPv _ _ _).mpr ⟨none, _, _, _, _, ys ++ [sideStr i], rfl, hi4', same_mut s6 np, ?_, ?_, fun y hy => ?_, ?_⟩
        · rw [upd_same, List.map_append]
          rfl
        · rw [List.length_append, List.length_singleton]
          omega
        · rcases List.mem_append.mp hy with z | z
          · exact hy20 y z
          · rw [List.mem_singleton.mp z]
            omega
        · rw [List.map_append, hys, more true hb, if_pos rfl, List.map_cons, cs1]
          rfl
      | false =>
        refine iteF ?_
        refine (hPv _ _ _).mpr ⟨none, _, _, _, _, ys, rfl, hi4', s6, hp6, by omega, hy20, ?_⟩
        rw [hys, more false hb, if_neg Bool.false_ne_true, List.append_nil]
    · obtain ⟨y3, y4, y5, y6, y7, ys, rfl, hi4, s5, hp5, hyl, hy20, hys⟩ := (hPv _ _ _).mp h5
      have e4 : sideV.length = 4 := rfl
      rw [e4] at hys hyl
      simp only [tSeq, tIfS, tB, tVar, tRet, tRetN, tDrop, tAsg, gName, tOp, tC, tUn, rU, rI, rI0, tNext, tIf, tTest, tAnd, tOr, tNot, tAndV, tOrV, tNotV, tCons, tNil, tCal, tCalM, tCalC, tBase, tFld, sFld, sFldAug, L2.rAdd, tIsN, tNotN, rEq, rNe, scal_ii, scal_bb, scal_ss, scal_sn, scal_ns, scal_in, scal_ni, cxK, cxK2, tAug, ipI, L2.start, List.map_cons, List.map_nil, List.cons_append, List.nil_append, List.length_cons, List.length_nil, Nat.reduceAdd, Nat.reduceSub, List.replicate_zero, List.replicate_succ, List.append_nil, List.set_cons_zero, List.set_cons_succ, List.getElem?_cons_zero, List.getElem?_cons_succ, Option.some.injEq, exists_eq_left', exists_eq_left, exists_eq_right, exists_eq', V.int.injEq, V.bl.injEq, V.ref.injEq, V.str.injEq, HO.ins.injEq, and_assoc, true_and, and_true, exists_and_left, List.cons.injEq, exists_const, ne_eq, reduceCtorEq, not_false_eq_true, decide_true, decide_false, if_true, if_false, false_and, false_or, Bool.not_true, Bool.not_false, Bool.false_eq_true, tM1, tLst]
      have hc32 : codes (Str.ofString " ") = [32] := by decide +kernel
      have hsum := strs_len ys 20 hy20
      have hsp : (codes (Str.ofString " ")).length = 1 := by decide +kernel
      refine ⟨ys, .inl (SqL.of hp5), by rw [hsp]; omega, by rw [sizeLine_eq]; omega, fun r nr => ?_⟩
      have hfirst : codes (Txt.join (Str.ofString " ") ys) = VbsyCore.between [32] ([Vbsyae.W "field", Vbsyae.num fl.rows, Vbsyae.num fl.cols, Vbsyae.W "walls"] ++ ((List.range 4).filter (Vbsyae.walled fl)).map fun s => Vbsyae.SIDES.getD s []) := by
        rw [codes_join, hys, hc32, ehd, ← between_glue]
      have lfirst : (codes (Txt.join (Str.ofString " ") ys)).length ≤ 105 := by
        rw [codes_join, hc32]
        have := between_len [32] 20 (by simp) (ys.map codes) fun y hy => by
          obtain ⟨z, hz, rfl⟩ := List.mem_map.mp hy
          exact hy20 z hz
        rw [List.length_map] at this
        omega
      generalize Txt.join (Str.ofString " ") ys = first at *
      have s6 := s5.trans (same_new (o := .lst [.str first]) nr)
      have hr6 : (upd H' r (.lst [.str first])) r = some (.lst [.str first]) := upd_same
      have nrH : H r = none := s5.free nr
      generalize upd H' r (.lst [.str first]) = H6 at *
      have X6 := X.on s6
      obtain ⟨Pw, hPw⟩ : ∃ Pw : Nat → L2.St → Hp → Prop, ∀ i σ H', Pw i σ H' ↔ ∃ (y4 y5 y7 : Option V) (zs : List Str), σ = [some (.ref a), some (.int fl.rows), some (.int fl.cols), some (.ref p), y4, y5, some (.ref r), y7] ∧ i ≤ fl.days.length ∧ Same H H' ∧ H' r = some (.lst (zs.map V.str)) ∧ zs.length ≤ i + 1 ∧ (∀ z ∈ zs, (codes z).length ≤ 105) ∧
          zs.map codes = codes first :: (fl.days.take i).map Vbsyae.foldText := ⟨_, fun _ _ _ => Iff.rfl⟩
      refine q_forL (a := d) (xs := ds) Pw (fun R h => ?_) ((hPw _ _ _).mpr ⟨_, _, _, [first], rfl, Nat.zero_le _, s6, hr6, Nat.le_refl _, by simpa using lfirst, by simp⟩) (fun i σ H2 _ h6 => ?_) (fun i v σ H2 hi h6 => ?_) (fun σ H2 h6 => ?_)
      · simp only [tSeq, tIfS, tB, tVar, tRet, tRetN, tDrop, tAsg, gName, tOp, tC, tUn, rU, rI, rI0, tNext, tIf, tTest, tAnd, tOr, tNot, tAndV, tOrV, tNotV, tCons, tNil, tCal, tCalM, tCalC, tBase, tFld, sFld, sFldAug, L2.rAdd, tIsN, tNotN, rEq, rNe, scal_ii, scal_bb, scal_ss, scal_sn, scal_ns, scal_in, scal_ni, cxK, cxK2, tAug, ipI, L2.start, List.map_cons, List.map_nil, List.cons_append, List.nil_append, List.length_cons, List.length_nil, Nat.reduceAdd, Nat.reduceSub, List.replicate_zero, List.replicate_succ, List.append_nil, List.set_cons_zero, List.set_cons_succ, List.getElem?_cons_zero, List.getElem?_cons_succ, Option.some.injEq, exists_eq_left', exists_eq_left, exists_eq_right, exists_eq', V.int.injEq, V.bl.injEq, V.ref.injEq, V.str.injEq, HO.ins.injEq, and_assoc, true_and, and_true, exists_and_left, List.cons.injEq, exists_const, ne_eq, reduceCtorEq, not_false_eq_true, decide_true, decide_false, if_true, if_false, false_and, false_or, Bool.not_true, Bool.not_false, Bool.false_eq_true, T.clField, T.nRows, T.nColumns, T.nWalls, T.nDays, fF_rows, fF_cols, fF_walls, fF_days, X6.at_]
        exact h
      · obtain ⟨_, _, _, _, _, _, s7, _⟩ := (hPw _ _ _).mp h6
        exact SqL.of (X.on s7).hd
      · obtain ⟨y4, y5, y7, zs, rfl, hid, s7, hr7, hzl, hz105, hzs⟩ := (hPw _ _ _).mp h6
        have X7 := X.on s7
        have hil : i < fl.days.length := by
          have := (List.getElem?_eq_some_iff.mp hi).1
          rw [X7.hds.len] at this
          exact this
        have hx : fl.days[i]? = some fl.days[i] := List.getElem?_eq_getElem hil
        obtain ⟨t, ht1, ht2⟩ := X7.hds.get hx
        rw [hi] at ht1
        cases ht1
        obtain ⟨i1, i2, i3, i4⟩ := wf.inn fl.days[i] (List.getElem_mem hil)
        generalize fl.days[i] = x at *
        simp only [tSeq, tIfS, tB, tVar, tRet, tRetN, tDrop, tAsg, gName, tOp, tC, tUn, rU, rI, rI0, tNext, tIf, tTest, tAnd, tOr, tNot, tAndV, tOrV, tNotV, tCons, tNil, tCal, tCalM, tCalC, tBase, tFld, sFld, sFldAug, L2.rAdd, tIsN, tNotN, rEq, rNe, scal_ii, scal_bb, scal_ss, scal_sn, scal_ns, scal_in, scal_ni, cxK, cxK2, tAug, ipI, L2.start, List.map_cons, List.map_nil, List.cons_append, List.nil_append, List.length_cons, List.length_nil, Nat.reduceAdd, Nat.reduceSub, List.replicate_zero, List.replicate_succ, List.append_nil, List.set_cons_zero, List.set_cons_succ, List.getElem?_cons_zero, List.getElem?_cons_succ, Option.some.injEq, exists_eq_left', exists_eq_left, exists_eq_right, exists_eq', V.int.injEq, V.bl.injEq, V.ref.injEq, V.str.injEq, HO.ins.injEq, and_assoc, true_and, and_true, exists_and_left, List.cons.injEq, exists_const, ne_eq, reduceCtorEq, not_false_eq_true, decide_true, decide_false, if_true, if_false, false_and, false_or, Bool.not_true, Bool.not_false, Bool.false_eq_true, tBM]
        refine ⟨.inl ⟨rfl, _, SqL.of hr7⟩, t, x, rfl, ht2, by omega, by omega, by omega, by omega, fun z hz => ?_⟩
        have hd20 := wf.d20
        refine ⟨r, _, _, rfl, rfl, hr7, by rw [List.length_map]; exact Nat.lt_of_le_of_lt (show _ ≤ 100 by omega) (by decide), ?_⟩
        refine (hPw _ _ _).mpr ⟨_, _, _, zs ++ [z], rfl, hil, same_mut s7 nrH, ?_, ?_, fun y hy => ?_, ?_⟩
        · rw [upd_same, List.map_append]
          rfl
        · rw [List.length_append, List.length_singleton]
          omega
        · rcases List.mem_append.mp hy with u | u
          · exact hz105 y u
          · rw [List.mem_singleton.mp u, hz, fold_text_len (by omega) (by omega) (by omega) (by omega)]
            omega
        · rw [List.map_append, hzs, take_get hx, List.map_append, List.map_cons, List.map_nil, List.map_cons, List.map_nil, hz]
          rfl
      · obtain ⟨y4, y5, y7, zs, rfl, hid, s7, hr7, hzl, hz105, hzs⟩ := (hPw _ _ _).mp h6
        have hdl : ds.length = fl.days.length := X.hds.len
        rw [hdl] at hzs hzl
        rw [List.take_length] at hzs
        have hd20 := wf.d20
        simp only [tSeq, tIfS, tB, tVar, tRet, tRetN, tDrop, tAsg, gName, tOp, tC, tUn, rU, rI, rI0, tNext, tIf, tTest, tAnd, tOr, tNot, tAndV, tOrV, tNotV, tCons, tNil, tCal, tCalM, tCalC, tBase, tFld, sFld, sFldAug, L2.rAdd, tIsN, tNotN, rEq, rNe, scal_ii, scal_bb, scal_ss, scal_sn, scal_ns, scal_in, scal_ni, cxK, cxK2, tAug, ipI, L2.start, List.map_cons, List.map_nil, List.cons_append, List.nil_append, List.length_cons, List.length_nil, Nat.reduceAdd, Nat.reduceSub, List.replicate_zero, List.replicate_succ, List.append_nil, List.set_cons_zero, List.set_cons_succ, List.getElem?_cons_zero, List.getElem?_cons_succ, Option.some.injEq, exists_eq_left', exists_eq_left, exists_eq_right, exists_eq', V.int.injEq, V.bl.injEq, V.ref.injEq, V.str.injEq, HO.ins.injEq, and_assoc, true_and, and_true, exists_and_left, List.cons.injEq, exists_const, ne_eq, reduceCtorEq, not_false_eq_true, decide_true, decide_false, if_true, if_false, false_and, false_or, Bool.not_true, Bool.not_false, Bool.false_eq_true, tM1]
        have hc10 : codes (Str.ofString "\n") = [10] := by decide +kernel
        have hsp2 : (codes (Str.ofString "\n")).length = 1 := by decide +kernel
        have hsum2 := strs_len zs 105 hz105
        refine ⟨zs, .inl (SqL.of hr7), by rw [hsp2]; omega, ?_⟩
        have htext : codes (Txt.join (Str.ofString "\n") zs) = Vbsyae.fieldText fl := by
          rw [codes_join, hzs, hc10, hfirst]
          rfl
        have ltext : (codes (Txt.join (Str.ofString "\n") zs)).length ≤ 100000 := by
          rw [codes_join, hc10]
          have := between_len [10] 105 (by simp) (zs.map codes) fun y hy => by
            obtain ⟨z, hz, rfl⟩ := List.mem_map.mp hy
            exact hz105 z hz
          rw [List.length_map] at this
          omega
        refine ⟨_, rfl, ltext, fun H8 u s8 nu hu => ?_⟩
        rw [htext] at hu
        exact q H8 u (s7.trans s8) (s7.free nu) hu (by rw [← htext]; exact ltext)
def cText : List Int → Option Vbsyae.Call := fun _ => some .text
theorem ok_answer_text {f : Addr} {fd : FuncData} (F : Fun K "answer_text" "answer_text" s_answer_text f fd) (T : Txt K mg A) (c_field_written : Cal P w K mg base CX0 2 "field_written" ["field"] (sp_field_written A)) : FnOk P w K mg base CX0 3 f fd ["field", "given"] (sp_ans A K cText) := by
  refine F.ok sc_answer_text (fun vs H Q E h => ?_) (fun cdv B outer s H vs Q E hr h => ?_)
  · obtain ⟨F, a, g, f, l, c, rfl, _⟩ := h
    rfl
  · obtain ⟨Fr, a, g, fl, l, c, rfl, hF, hg, hl, hc, q, er⟩ := h
    cases hc
    refine ⟨_, (pss_one (ps_ret (pe_op op_cat (pe_lst (pa_cons pe_int pa_nil)) (pe_cal c_field_written hr (by rfl) pass0 (pa_cons (pv 0) pa_nil))))), ?_⟩
    refine ⟨by decide, fun p np => ?_⟩
    have s1 := same_new (o := .lst [.int 0]) np
    refine ⟨_, rfl, a, fl, rfl, (hF.on s1).at, fun H2 p2 s2 n2 h2 hlen => ?_⟩
    refine ⟨p, p2, _, _, rfl, rfl, s2 _ _ upd_same, h2, ?_, fun p3 n3 => ?_⟩
    · unfold natsV
      rw [List.length_map, sizeLine_eq, List.length_singleton]
      omega
    · obtain ⟨h4, h5⟩ := ((hF.on s1).on s2).new (o := .lst ([.int 0] ++ natsV (Vbsyae.fieldText fl))) n3
      refine q _ _ rfl _ p3 h4 h5 (upd_same.trans ?_)
      unfold intsV VbsyCore.ints natsV
      simp
end
end HF
namespace HF
open PySem PySem.Spec PyProof.Rows L2
/-! ### cells that hang together -/
def adj (f : Vbsyae.Field) (c d : Nat) : Prop := ∃ s, s < 4 ∧ Vbsyae.beyond f c s = some d
theorem adj_symm {f : Vbsyae.Field} (w : Wf f) {c d : Nat} (hc : c < Vbsyae.cells f) (h : adj f c d) : adj f d c := by
  obtain ⟨s, hs, h⟩ := h
  have h1 := w.c1
  have h8 := w.c8
  unfold Vbsyae.cells at hc
  unfold adj Vbsyae.beyond
  unfold Vbsyae.beyond at h
  dsimp only at h ⊢
  obtain ⟨r, k, wl, ds⟩ := f
  dsimp only at *
  have hk : k = 1 ∨ k = 2 ∨ k = 3 ∨ k = 4 ∨ k = 5 ∨ k = 6 ∨ k = 7 ∨ k = 8 := by omega
  have h4 : s = 0 ∨ s = 1 ∨ s = 2 ∨ s = 3 := by omega
  rcases h4 with rfl | rfl | rfl | rfl
  · refine ⟨2, by omega, ?_⟩
    rw [if_pos rfl] at h
    rw [if_neg (by omega), if_neg (by omega), if_pos rfl]
    rcases hk with rfl | rfl | rfl | rfl | rfl | rfl | rfl | rfl <;> (split at h <;> first | (cases h; rw [if_pos (by omega)]; exact congrArg some (by omega)) | cases h)
  · refine ⟨3, by omega, ?_⟩
    rw [if_neg (by omega), if_pos rfl] at h
    rw [if_neg (by omega), if_neg (by omega), if_neg (by omega)]
    rcases hk with rfl | rfl | rfl | rfl | rfl | rfl | rfl | rfl <;> (split at h <;> first | (cases h; rw [if_pos (by omega)]; exact congrArg some (by omega)) | cases h)
  · refine ⟨0, by omega, ?_⟩
    rw [if_neg (by omega), if_neg (by omega), if_pos rfl] at h
    rw [if_pos rfl]
    rcases hk with rfl | rfl | rfl | rfl | rfl | rfl | rfl | rfl <;> (split at h <;> first | (cases h; rw [if_pos (by omega)]; exact congrArg some (by omega)) | cases h)
  · refine ⟨1, by omega, ?_⟩
    rw [if_neg (by omega), if_neg (by omega), if_neg (by omega)] at h
    rw [if_neg (by omega), if_pos rfl]
    rcases hk with rfl | rfl | rfl | rfl | rfl | rfl | rfl | rfl <;> (split at h <;> first | (cases h; rw [if_pos (by omega)]; exact congrArg some (by omega)) | cases h)
inductive Conn (f : Vbsyae.Field) (l : List Nat) (c : Nat) : Nat → Prop
  | refl : Conn f l c c
  | step {d e : Nat} : Conn f l c d → adj f d e → e ∈ l → Conn f l c e
theorem Conn.mem {f : Vbsyae.Field} {l : List Nat} {c d : Nat} (h : Conn f l c d) (hc : c ∈ l) : d ∈ l := by
  cases h with
  | refl => exact hc
  | step _ _ he => exact he
theorem Conn.trans {f : Vbsyae.Field} {l : List Nat} {c d e : Nat} (h1 : Conn f l c d) (h2 : Conn f l d e) : Conn f l c e := by
  induction h2 with
  | refl => exact h1
  | step _ a he ih => exact .step ih a he
theorem Conn.symm {f : Vbsyae.Field} {l : List Nat} {c d : Nat} (w : Wf f) (hC : Cells f l) (hc : c ∈ l) (h : Conn f l c d) : Conn f l d c := by
  induction h with
  | refl => exact .refl
  | step h a he ih =>
    have hd := h.mem hc
    exact (Conn.step .refl (adj_symm w (hC.lt _ hd) a) hd).trans ih
/-! ### the specification's rounds -/
def Sub (f : Vbsyae.Field) (m : List Nat) : Prop := m.Pairwise (· < ·) ∧ ∀ x ∈ m, x < Vbsyae.cells f
theorem round_sub (f : Vbsyae.Field) (l m : List Nat) : Sub f (Vbsyae.hangRound f l m) := by
  unfold Vbsyae.hangRound
  refine ⟨List.Pairwise.filter _ List.pairwise_lt_range, fun x hx => ?_⟩
  exact List.mem_range.mp (List.mem_filter.mp hx).1
theorem round_mem {f : Vbsyae.Field} {l m : List Nat} {x : Nat} : x ∈ Vbsyae.hangRound f l m ↔ x < Vbsyae.cells f ∧ (x ∈ m ∨ (x ∈ l ∧ ∃ d, adj f x d ∧ d ∈ m)) := by
  unfold Vbsyae.hangRound
  rw [List.mem_filter, List.mem_range]
  refine and_congr_right fun _ => ?_
  rw [Bool.or_eq_true, Bool.and_eq_true, List.contains_iff_mem, List.contains_iff_mem, List.any_eq_true]
  refine or_congr_right (and_congr_right fun _ => ?_)
  constructor
  · rintro ⟨s, hs, h⟩
    rw [Option.any_eq_true] at h
    obtain ⟨d, hd, h2⟩ := h
    exact ⟨d, ⟨s, List.mem_range.mp hs, hd⟩, List.contains_iff_mem.mp h2⟩
  · rintro ⟨d, ⟨s, hs, hd⟩, h2⟩
    exact ⟨s, List.mem_range.mpr hs, by rw [hd]; simpa using h2⟩
theorem sub_len {m n : List Nat} (h1 : m.Pairwise (· < ·)) (h2 : n.Pairwise (· < ·)) (h : ∀ x ∈ m, x ∈ n) : m.length ≤ n.length ∧ (m.length = n.length → m = n) := by
  have e : n.filter (fun x => m.contains x) = m := by
    refine pair_ext (List.Pairwise.filter _ h2) h1 fun x => ?_
    rw [List.mem_filter]
    constructor
    · intro z
      simpa using z.2
    · intro z
      exact ⟨h x z, by simpa using z⟩
  have hl := List.length_filter_le (fun x => m.contains x) n
  rw [e] at hl
  refine ⟨hl, fun hl2 => ?_⟩
  have h3 : (n.filter (fun x => m.contains x)).length = n.length := by rw [e]; exact hl2
  rw [← e]
  exact List.filter_eq_self.mpr (List.length_filter_eq_length_iff.mp h3)
theorem hang_succ (f : Vbsyae.Field) (l : List Nat) : ∀ (k : Nat) (m : List Nat), Vbsyae.hang f l (k + 1) m = Vbsyae.hangRound f l (Vbsyae.hang f l k m)
  | 0, m => rfl
  | k + 1, m => by
    show Vbsyae.hang f l (k + 1) (Vbsyae.hangRound f l m) = _
    rw [hang_succ f l k]
    rfl
theorem hang_sub {f : Vbsyae.Field} {l : List Nat} {c : Nat} (hc : c < Vbsyae.cells f) : ∀ k, Sub f (Vbsyae.hang f l k [c])
  | 0 => ⟨List.pairwise_singleton _ _, fun x hx => by rw [List.mem_singleton.mp hx]; exact hc⟩
  | k + 1 => by
    rw [hang_succ]
    exact round_sub _ _ _
theorem hang_grow {f : Vbsyae.Field} {l : List Nat} {c : Nat} (hc : c < Vbsyae.cells f) : ∀ k, Vbsyae.hangRound f l (Vbsyae.hang f l k [c]) = Vbsyae.hang f l k [c] ∨ k + 1 ≤ (Vbsyae.hang f l k [c]).length
  | 0 => .inr (Nat.le_refl _)
  | k + 1 => by
    have hs := hang_sub (l := l) hc k
    have hs2 := round_sub f l (Vbsyae.hang f l k [c])
    have sub : ∀ x ∈ Vbsyae.hang f l k [c], x ∈ Vbsyae.hangRound f l (Vbsyae.hang f l k [c]) := fun x hx => round_mem.mpr ⟨hs.2 x hx, .inl hx⟩
    obtain ⟨hl, he⟩ := sub_len hs.1 hs2.1 sub
    rw [hang_succ]
    rcases hang_grow hc k with z | z
    · left
      rw [z, z]
    · by_cases c1 : (Vbsyae.hang f l k [c]).length = (Vbsyae.hangRound f l (Vbsyae.hang f l k [c])).length
      · left
        rw [← he c1, ← he c1]
      · right
        omega
theorem hang_closed {f : Vbsyae.Field} {l : List Nat} {c : Nat} (hc : c < Vbsyae.cells f) : Vbsyae.hangRound f l (Vbsyae.hang f l (Vbsyae.cells f) [c]) = Vbsyae.hang f l (Vbsyae.cells f) [c] := by
  rcases hang_grow (l := l) hc (Vbsyae.cells f) with z | z
  · exact z
  · have hs := hang_sub (l := l) hc (Vbsyae.cells f)
    have := (sub_len hs.1 (n := List.range (Vbsyae.cells f)) List.pairwise_lt_range fun x hx => List.mem_range.mpr (hs.2 x hx)).1
    rw [List.length_range] at this
    omega
theorem hang_mem {f : Vbsyae.Field} {l : List Nat} {c x : Nat} (w : Wf f) (hC : Cells f l) (hc : c ∈ l) : x ∈ Vbsyae.hang f l (Vbsyae.cells f) [c] ↔ Conn f l c x := by
  have hcl := hC.lt c hc
  constructor
  · have key : ∀ k x, x ∈ Vbsyae.hang f l k [c] → Conn f l c x := by
      intro k
      induction k with
      | zero =>
        intro x hx
        have hx' : x ∈ [c] := hx
        rw [List.mem_singleton.mp hx']
        exact .refl
      | succ k ih =>
        intro x hx
        rw [hang_succ] at hx
        rcases (round_mem.mp hx).2 with z | ⟨z, d, ha, hd⟩
        · exact ih x z
        · have hcd := ih d hd
          exact .step hcd (adj_symm w (hC.lt x z) ha) z
    exact key _ x
  · intro h
    induction h with
    | refl =>
      have key : ∀ k, c ∈ Vbsyae.hang f l k [c] := by
        intro k
        induction k with
        | zero => exact List.mem_singleton.mpr rfl
        | succ k ih =>
          rw [hang_succ]
          exact round_mem.mpr ⟨hcl, .inl ih⟩
      exact key _
    | step h a he ih =>
      rw [← hang_closed hcl]
      exact round_mem.mpr ⟨hC.lt _ he, .inr ⟨he, _, adj_symm w (hC.lt _ (h.mem hc)) a, ih⟩⟩
/-- the first of its part -/
def isFirst (f : Vbsyae.Field) (l : List Nat) (c : Nat) : Bool := (Vbsyae.hang f l (Vbsyae.cells f) [c]).all fun d => decide (c ≤ d)
theorem first_iff {f : Vbsyae.Field} {l : List Nat} {c : Nat} (w : Wf f) (hC : Cells f l) (hc : c ∈ l) : isFirst f l c = true ↔ ∀ d, Conn f l c d → c ≤ d := by
  unfold isFirst
  rw [List.all_eq_true]
  constructor
  · intro h d hd
    simpa using h d ((hang_mem w hC hc).mpr hd)
  · intro h d hd
    simpa using h d ((hang_mem w hC hc).mp hd)
theorem parts_eq {f : Vbsyae.Field} {l : List Nat} (hC : Cells f l) : Vbsyae.parts f l = (l.filter (isFirst f l)).length := by
  unfold Vbsyae.parts
  have e : (List.range (Vbsyae.cells f)).filter (fun c => l.contains c && isFirst f l c) = l.filter (isFirst f l) := by
    rw [show (fun c => l.contains c && isFirst f l c) = fun c => isFirst f l c && l.contains c from funext fun c => Bool.and_comm _ _, ← List.filter_filter, filter_cells hC]
  exact congrArg List.length e
end HF
namespace HF
open PySem PySem.Spec PyProof.Rows L2
abbrev s_part_from : Stmt := top 14
theorem sc_part_from : FnScope ["field", "cells", "start", "part", "waiting", "cell", "side", "other"] ["field", "cells", "start"] (defScope s_part_from) := ⟨rfl, rfl, rfl, by decide +kernel, rfl, by decide +kernel, by decide +kernel⟩
section
variable {P : Program} {w : World} {K : PySem.W.Frag} {mg : Str → Option Value} {base : Heap} {A : Ad}
theorem nodup_len : ∀ {P l : List Nat}, P.Nodup → (∀ x ∈ P, x ∈ l) → P.length ≤ l.length
  | [], _, _, _ => Nat.zero_le _
  | x :: P, l, hn, h => by
    obtain ⟨h1, h2⟩ := List.nodup_cons.mp hn
    have hx := h x (by simp)
    have ih := nodup_len (l := l.erase x) h2 fun y hy => by
      have hne : y ≠ x := fun z => h1 (z ▸ hy)
      exact (List.mem_erase_of_ne hne).mpr (h y (List.mem_cons_of_mem _ hy))
    rw [List.length_erase_of_mem hx] at ih
    have : 0 < l.length := List.length_pos_of_mem hx
    rw [List.length_cons]
    omega
/-- what holds of the part and of what waits: d is the cell that is looked at, its sides below j are done -/
structure FJ (f : Vbsyae.Field) (l : List Nat) (c : Nat) (P W : List Nat) (d : Nat) (j : Nat) : Prop where
  np : P.Nodup
  nw : W.Nodup
  sub : ∀ x ∈ W, x ∈ P
  start : c ∈ P
  dp : d ∈ P
  dw : d ∉ W
  conn : ∀ x ∈ P, Conn f l c x
  done : ∀ x ∈ P, x ∉ W → x ≠ d → ∀ e, adj f x e → e ∈ l → e ∈ P
  part : ∀ s, s < j → ∀ e, Vbsyae.beyond f d s = some e → e ∈ l → e ∈ P
structure FI (f : Vbsyae.Field) (l : List Nat) (c : Nat) (P W : List Nat) : Prop where
  np : P.Nodup
  nw : W.Nodup
  sub : ∀ x ∈ W, x ∈ P
  start : c ∈ P
  conn : ∀ x ∈ P, Conn f l c x
  done : ∀ x ∈ P, x ∉ W → ∀ e, adj f x e → e ∈ l → e ∈ P
theorem FI.pop {f : Vbsyae.Field} {l : List Nat} {c d : Nat} {P W : List Nat} (h : FI f l c P (W ++ [d])) : FJ f l c P W d 0 := by
  obtain ⟨n1, n2, n3⟩ := List.nodup_append.mp h.nw
  refine ⟨h.np, n1, fun x hx => h.sub x (List.mem_append_left _ hx), h.start, h.sub d (by simp), fun z => n3 d z d (by simp) rfl, h.conn, fun x hx hw hne => h.done x hx fun z => ?_, fun s hs => absurd hs (Nat.not_lt_zero _)⟩
  rcases List.mem_append.mp z with z | z
  · exact hw z
  · exact hne (List.mem_singleton.mp z)
theorem FJ.back {f : Vbsyae.Field} {l : List Nat} {c d : Nat} {P W : List Nat} (h : FJ f l c P W d 4) : FI f l c P W := by
  refine ⟨h.np, h.nw, h.sub, h.start, h.conn, fun x hx hw => ?_⟩
  by_cases hd : x = d
  · subst hd
    rintro e ⟨s, hs, hb⟩ he
    exact h.part s hs e hb he
  · exact h.done x hx hw hd
theorem FJ.skip {f : Vbsyae.Field} {l : List Nat} {c d j : Nat} {P W : List Nat} (h : FJ f l c P W d j) (hb : ∀ e, Vbsyae.beyond f d j = some e → e ∈ l → e ∈ P) : FJ f l c P W d (j + 1) := by
  refine ⟨h.np, h.nw, h.sub, h.start, h.dp, h.dw, h.conn, h.done, fun s hs e he hl => ?_⟩
  by_cases c1 : s = j
  · subst c1
    exact hb e he hl
  · exact h.part s (by omega) e he hl
theorem FJ.push {f : Vbsyae.Field} {l : List Nat} {c d j e : Nat} {P W : List Nat} (h : FJ f l c P W d j) (hj : j < 4) (hb : Vbsyae.beyond f d j = some e) (hl : e ∈ l) (hn : e ∉ P) : FJ f l c (P ++ [e]) (W ++ [e]) d (j + 1) := by
  have hew : e ∉ W := fun z => hn (h.sub e z)
  have hde : d ≠ e := fun z => hn (z ▸ h.dp)
  refine ⟨?_, ?_, fun x hx => ?_, List.mem_append_left _ h.start, List.mem_append_left _ h.dp, fun z => ?_, fun x hx => ?_, fun x hx hw hne y hy hyl => ?_, fun s hs y hy hyl => ?_⟩
  · exact List.nodup_append.mpr ⟨h.np, by simp, fun x hx y hy z => by rw [List.mem_singleton.mp hy] at z; exact hn (z ▸ hx)⟩
  · exact List.nodup_append.mpr ⟨h.nw, by simp, fun x hx y hy z => by rw [List.mem_singleton.mp hy] at z; exact hew (z ▸ hx)⟩
  · rcases List.mem_append.mp hx with z | z
    · exact List.mem_append_left _ (h.sub x z)
    · exact List.mem_append_right _ z
  · rcases List.mem_append.mp z with z | z
    · exact h.dw z
    · exact hde (List.mem_singleton.mp z)
  · rcases List.mem_append.mp hx with z | z
    · exact h.conn x z
    · rw [List.mem_singleton.mp z]
      exact .step (h.conn d h.dp) ⟨j, hj, hb⟩ hl
  · rcases List.mem_append.mp hx with z | z
    · exact List.mem_append_left _ (h.done x z (fun q => hw (List.mem_append_left _ q)) hne y hy hyl)
    · exact absurd (List.mem_append_right _ z) hw
  · by_cases c1 : s = j
    · subst c1
      rw [hb] at hy
      cases hy
      exact List.mem_append_right _ (by simp)
    · exact List.mem_append_left _ (h.part s (by omega) y hy hyl)
theorem FI.all {f : Vbsyae.Field} {l : List Nat} {c : Nat} {P : List Nat} (h : FI f l c P []) (x : Nat) : x ∈ P ↔ Conn f l c x := by
  refine ⟨h.conn x, fun z => ?_⟩
  induction z with
  | refl => exact h.start
  | step _ a he ih => exact h.done _ ih (by simp) _ a he
def sp_part_from (A : Ad) (K : PySem.W.Frag) : Sp := fun vs H Q _ => ∃ (a p : Addr) (f : Vbsyae.Field) (l : List Nat) (c : Nat), vs = [.ref a, .ref p, .int c] ∧ FieldAt A.cField H a f ∧ SqL K H p (natsV l) ∧ Cells f l ∧ c ∈ l ∧
  ∀ (H' : Hp) (r : Addr) (P : List Nat), Same H H' → H r = none → H' r = some (.lst (natsV P)) → (∀ x, x ∈ P ↔ Conn f l c x) → P.length ≤ 64 → Q (.ref r) H'
theorem nats_last (W : List Nat) (d : Nat) : (natsV (W ++ [d]))[(natsV (W ++ [d])).length - 1]? = some (.int d) ∧ (natsV (W ++ [d])).dropLast = natsV W := by
  unfold natsV
  rw [List.map_append]
  refine ⟨?_, by simp⟩
  rw [List.length_append, List.length_map]
  simp
theorem ok_part_from {f : Addr} {fd : FuncData} (F : Fun K "part_from" "part_from" s_part_from f fd) (T : Txt K mg A) (c_cell_beyond : Cal P w K mg base CX0 1 "cell_beyond" ["field", "cell", "side"] (sp_cell_beyond A)) : FnOk P w K mg base CX0 2 f fd ["field", "cells", "start"] (sp_part_from A K) := by
  refine F.ok sc_part_from (fun vs H Q E h => ?_) (fun cdv B outer s H vs Q E hr h => ?_)
  · obtain ⟨a, p, f, l, c, rfl, _⟩ := h
    rfl
  · obtain ⟨a, p, fl, l, c, rfl, hF, hp, hC, hc, q⟩ := h
    refine ⟨_, (pss_cons (ps_set (i := 3) sc_part_from.nd rfl (Or.inl rfl) (pe_lst (pa_cons (pv 2) pa_nil)))
      (pss_cons (ps_set (i := 4) sc_part_from.nd rfl (Or.inl rfl) (pe_lst (pa_cons (pv 2) pa_nil)))
      (pss_cons (ps_while PassesOwn.never (pt_cmpR op_gt (pe_callB call_len_seq (by rfl) T.len PySem.boot_len (pa_cons (pv 4) pa_nil)) pe_int (nomark _))
      (pss_cons (ps_set (i := 5) sc_part_from.nd rfl (Or.inl rfl) (pe_bm0 PySem.F.plainAttrs_list PySem.F.slot_list_pop PySem.F.type_list_pop mt_pop (pv 4)))
      (pss_one (ps_for PassesOwn.never rfl (pi_range1 (by rfl) T.range (pa_cons (pe_callB call_len_seq (by rfl) T.len PySem.boot_len (pa_cons (pe_gr T.SIDE_WORDS (by rfl)) pa_nil)) pa_nil)) (pg_name (i := 6) sc_part_from.nd rfl (Or.inl rfl))
      (pss_cons (ps_set (i := 7) sc_part_from.nd rfl (Or.inl rfl) (pe_cal c_cell_beyond hr (by rfl) pass0 (pa_cons (pv 0) (pa_cons (pv 5) (pa_cons (pv 6) pa_nil)))))
      (pss_one (ps_if (PW.pt (pw_and (pt_cmpR op_notN (pv 7) pe_non (nomark _)) (pw_and (pt_cmpR op_in_seq (pv 7) (pv 1) (by rfl)) (pw_and1 (pt_cmpR op_notIn_seq (pv 7) (pv 3) (by rfl)))))) (pss_cons (ps_expr (pe_bm PySem.F.plainAttrs_list PySem.F.slot_list_append PySem.F.type_list_append mt_append (pv 3) (pa_cons (pv 7) pa_nil)))
      (pss_one (ps_expr (pe_bm PySem.F.plainAttrs_list PySem.F.slot_list_append PySem.F.type_list_append mt_append (pv 4) (pa_cons (pv 7) pa_nil))))) pss_nil)))))))
      (pss_one (ps_ret (pv 3)))))), ?_⟩
    have h64 := cells_len hF.wf hC
    simp only [tSeq, tIfS, tB, tVar, tRet, tRetN, tDrop, tAsg, gName, tOp, tC, tUn, rU, rI, rI0, tNext, tIf, tTest, tAnd, tOr, tNot, tAndV, tOrV, tNotV, tCons, tNil, tCal, tCalM, tCalC, tBase, tFld, sFld, sFldAug, L2.rAdd, tIsN, tNotN, rEq, rNe, scal_ii, scal_bb, scal_ss, scal_sn, scal_ns, scal_in, scal_ni, cxK, cxK2, tAug, ipI, L2.start, List.map_cons, List.map_nil, List.cons_append, List.nil_append, List.length_cons, List.length_nil, Nat.reduceAdd, Nat.reduceSub, List.replicate_zero, List.replicate_succ, List.append_nil, List.set_cons_zero, List.set_cons_succ, List.getElem?_cons_zero, List.getElem?_cons_succ, Option.some.injEq, exists_eq_left', exists_eq_left, exists_eq_right, exists_eq', V.int.injEq, V.bl.injEq, V.ref.injEq, V.str.injEq, HO.ins.injEq, and_assoc, true_and, and_true, exists_and_left, List.cons.injEq, exists_const, ne_eq, reduceCtorEq, not_false_eq_true, decide_true, decide_false, if_true, if_false, false_and, false_or, Bool.not_true, Bool.not_false, Bool.false_eq_true, tLst]
    refine ⟨by decide, fun r nr => ⟨by decide, fun w nw => ?_⟩⟩
    have nrw : r ≠ w := fun z => by
      rw [← z, upd_same] at nw
      cases nw
    have nwH : H w = none := by
      rw [upd_ne (Ne.symm nrw)] at nw
      exact nw
    have s1 : Same H (upd (upd H r (.lst [.int c])) w (.lst [.int c])) := (same_new nr).trans (same_new nw)
    have hr1 : (upd (upd H r (.lst [.int c])) w (.lst [.int c])) r = some (.lst (natsV [c])) := (upd_ne nrw).trans upd_same
    have hw1 : (upd (upd H r (.lst [.int c])) w (.lst [.int c])) w = some (.lst (natsV [c])) := upd_same
    generalize upd (upd H r (.lst [.int c])) w (.lst [.int c]) = H1 at *
    have plen : ∀ {P W : List Nat} {d j : Nat}, FJ fl l c P W d j → P.length ≤ l.length := fun h => nodup_len h.np fun x hx => (h.conn x hx).mem hc
    have wlen : ∀ {P W : List Nat} {d j : Nat}, FJ fl l c P W d j → W.length ≤ l.length := fun h => nodup_len h.nw fun x hx => (h.conn x (h.sub x hx)).mem hc
    obtain ⟨Pw, hPw⟩ : ∃ Pw : Nat → L2.St → Hp → Prop, ∀ m σ Hc, Pw m σ Hc ↔ ∃ (P W : List Nat) (y5 y6 y7 : Option V), σ = [some (.ref a), some (.ref p), some (.int c), some (.ref r), some (.ref w), y5, y6, y7] ∧ Same H Hc ∧ Hc r = some (.lst (natsV P)) ∧ Hc w = some (.lst (natsV W)) ∧ FI fl l c P W ∧ m = 2 * (l.length - P.length) + W.length := ⟨_, fun _ _ _ => Iff.rfl⟩
    refine ⟨Pw, ⟨_, (hPw _ _ _).mpr ⟨[c], [c], none, none, none, rfl, s1, hr1, hw1, ⟨by simp, by simp, fun x hx => hx, by simp, fun x hx => by rw [List.mem_singleton.mp hx]; exact .refl, fun x hx hn => absurd hx hn⟩, rfl⟩⟩, fun m σ Hc hW => ?_⟩
    obtain ⟨P, W, y5, y6, y7, rfl, s2, hr2, hw2, I2, rfl⟩ := (hPw _ _ _).mp hW
    simp only [tSeq, tIfS, tB, tVar, tRet, tRetN, tDrop, tAsg, gName, tOp, tC, tUn, rU, rI, rI0, tNext, tIf, tTest, tAnd, tOr, tNot, tAndV, tOrV, tNotV, tCons, tNil, tCal, tCalM, tCalC, tBase, tFld, sFld, sFldAug, L2.rAdd, tIsN, tNotN, rEq, rNe, scal_ii, scal_bb, scal_ss, scal_sn, scal_ns, scal_in, scal_ni, cxK, cxK2, tAug, ipI, L2.start, List.map_cons, List.map_nil, List.cons_append, List.nil_append, List.length_cons, List.length_nil, Nat.reduceAdd, Nat.reduceSub, List.replicate_zero, List.replicate_succ, List.append_nil, List.set_cons_zero, List.set_cons_succ, List.getElem?_cons_zero, List.getElem?_cons_succ, Option.some.injEq, exists_eq_left', exists_eq_left, exists_eq_right, exists_eq', V.int.injEq, V.bl.injEq, V.ref.injEq, V.str.injEq, HO.ins.injEq, and_assoc, true_and, and_true, exists_and_left, List.cons.injEq, exists_const, ne_eq, reduceCtorEq, not_false_eq_true, decide_true, decide_false, if_true, if_false, false_and, false_or, Bool.not_true, Bool.not_false, Bool.false_eq_true, tCB]
    refine ⟨_, .inl (SqL.of hw2), ?_⟩
    have hwl : (natsV W).length = W.length := by unfold natsV; rw [List.length_map]
    rw [hwl]
    rcases List.eq_nil_or_concat W with z | ⟨W', d, z⟩
    · subst z
      refine iteF ?_
      have hp64 : P.length ≤ l.length := nodup_len I2.np fun x hx => (I2.conn x hx).mem hc
      exact q Hc r P s2 nr hr2 I2.all (by omega)
    · rw [List.concat_eq_append] at z
      subst z
      have hpos : decide ((0 : Int) < (((W' ++ [d]).length : Nat) : Int)) = true := decide_eq_true (by rw [List.length_append, List.length_singleton]; omega)
      rw [hpos]
      refine iteT ⟨fun σ' H' => ∃ m', m' < 2 * (l.length - P.length) + (W' ++ [d]).length ∧ Pw m' σ' H', fun _ _ z => z, ?_⟩
      have J0 := I2.pop
      obtain ⟨hl1, hl2⟩ := nats_last W' d
      simp only [tBM0, tSeq, tIfS, tB, tVar, tRet, tRetN, tDrop, tAsg, gName, tOp, tC, tUn, rU, rI, rI0, tNext, tIf, tTest, tAnd, tOr, tNot, tAndV, tOrV, tNotV, tCons, tNil, tCal, tCalM, tCalC, tBase, tFld, sFld, sFldAug, L2.rAdd, tIsN, tNotN, rEq, rNe, scal_ii, scal_bb, scal_ss, scal_sn, scal_ns, scal_in, scal_ni, cxK, cxK2, tAug, ipI, L2.start, List.map_cons, List.map_nil, List.cons_append, List.nil_append, List.length_cons, List.length_nil, Nat.reduceAdd, Nat.reduceSub, List.replicate_zero, List.replicate_succ, List.append_nil, List.set_cons_zero, List.set_cons_succ, List.getElem?_cons_zero, List.getElem?_cons_succ, Option.some.injEq, exists_eq_left', exists_eq_left, exists_eq_right, exists_eq', V.int.injEq, V.bl.injEq, V.ref.injEq, V.str.injEq, HO.ins.injEq, and_assoc, true_and, and_true, exists_and_left, List.cons.injEq, exists_const, ne_eq, reduceCtorEq, not_false_eq_true, decide_true, decide_false, if_true, if_false, false_and, false_or, Bool.not_true, Bool.not_false, Bool.false_eq_true]
      refine ⟨.inl ⟨rfl, _, SqL.of hw2⟩, w, _, .int d, rfl, rfl, hw2, hl1, ?_⟩
      rw [hl2]
      have s3 : Same H (upd Hc w (.lst (natsV W'))) := same_mut s2 nwH
      have hr3 : (upd Hc w (.lst (natsV W'))) r = some (.lst (natsV P)) := (upd_ne nrw).trans hr2
      have hw3 : (upd Hc w (.lst (natsV W'))) w = some (.lst (natsV W')) := upd_same
      generalize upd Hc w (.lst (natsV W')) = H3 at *
      obtain ⟨Pj, hPj⟩ : ∃ Pj : Nat → L2.St → Hp → Prop, ∀ j σ H', Pj j σ H' ↔ ∃ (P2 W2 : List Nat) (y6 y7 : Option V), σ = [some (.ref a), some (.ref p), some (.int c), some (.ref r), some (.ref w), some (.int d), y6, y7] ∧ Same H H' ∧ H' r = some (.lst (natsV P2)) ∧ H' w = some (.lst (natsV W2)) ∧ FJ fl l c P2 W2 d j ∧ j ≤ 4 ∧
          2 * (l.length - P2.length) + W2.length ≤ 2 * (l.length - P.length) + W'.length := ⟨_, fun _ _ _ => Iff.rfl⟩
      refine q_forR 4 (by omega) Pj (fun R h => ?_) ((hPj _ _ _).mpr ⟨P, W', _, _, rfl, s3, hr3, hw3, J0, Nat.zero_le _, Nat.le_refl _⟩) (fun j σ H4 hj h6 => ?_) (fun σ H4 h6 => ?_)
      · simp only [tCB, tSeq, tIfS, tB, tVar, tRet, tRetN, tDrop, tAsg, gName, tOp, tC, tUn, rU, rI, rI0, tNext, tIf, tTest, tAnd, tOr, tNot, tAndV, tOrV, tNotV, tCons, tNil, tCal, tCalM, tCalC, tBase, tFld, sFld, sFldAug, L2.rAdd, tIsN, tNotN, rEq, rNe, scal_ii, scal_bb, scal_ss, scal_sn, scal_ns, scal_in, scal_ni, cxK, cxK2, tAug, ipI, L2.start, List.map_cons, List.map_nil, List.cons_append, List.nil_append, List.length_cons, List.length_nil, Nat.reduceAdd, Nat.reduceSub, List.replicate_zero, List.replicate_succ, List.append_nil, List.set_cons_zero, List.set_cons_succ, List.getElem?_cons_zero, List.getElem?_cons_succ, Option.some.injEq, exists_eq_left', exists_eq_left, exists_eq_right, exists_eq', V.int.injEq, V.bl.injEq, V.ref.injEq, V.str.injEq, HO.ins.injEq, and_assoc, true_and, and_true, exists_and_left, List.cons.injEq, exists_const, ne_eq, reduceCtorEq, not_false_eq_true, decide_true, decide_false, if_true, if_false, false_and, false_or, Bool.not_true, Bool.not_false, Bool.false_eq_true]
        exact ⟨_, .inr (T.sides H3), h⟩
      · obtain ⟨P2, W2, y6, y7, rfl, s4, hr4, hw4, J4, hj4, hm4⟩ := (hPj _ _ _).mp h6
        simp only [tSeq, tIfS, tB, tVar, tRet, tRetN, tDrop, tAsg, gName, tOp, tC, tUn, rU, rI, rI0, tNext, tIf, tTest, tAnd, tOr, tNot, tAndV, tOrV, tNotV, tCons, tNil, tCal, tCalM, tCalC, tBase, tFld, sFld, sFldAug, L2.rAdd, tIsN, tNotN, rEq, rNe, scal_ii, scal_bb, scal_ss, scal_sn, scal_ns, scal_in, scal_ni, cxK, cxK2, tAug, ipI, L2.start, List.map_cons, List.map_nil, List.cons_append, List.nil_append, List.length_cons, List.length_nil, Nat.reduceAdd, Nat.reduceSub, List.replicate_zero, List.replicate_succ, List.append_nil, List.set_cons_zero, List.set_cons_succ, List.getElem?_cons_zero, List.getElem?_cons_succ, Option.some.injEq, exists_eq_left', exists_eq_left, exists_eq_right, exists_eq', V.int.injEq, V.bl.injEq, V.ref.injEq, V.str.injEq, HO.ins.injEq, and_assoc, true_and, and_true, exists_and_left, List.cons.injEq, exists_const, ne_eq, reduceCtorEq, not_false_eq_true, decide_true, decide_false, if_true, if_false, false_and, false_or, Bool.not_true, Bool.not_false, Bool.false_eq_true]
        refine ⟨a, fl, d, j, rfl, hF.on s4, hj, ?_⟩
        simp only [tSeq, tIfS, tB, tVar, tRet, tRetN, tDrop, tAsg, gName, tOp, tC, tUn, rU, rI, rI0, tNext, tIf, tTest, tAnd, tOr, tNot, tAndV, tOrV, tNotV, tCons, tNil, tCal, tCalM, tCalC, tBase, tFld, sFld, sFldAug, L2.rAdd, tIsN, tNotN, rEq, rNe, scal_ii, scal_bb, scal_ss, scal_sn, scal_ns, scal_in, scal_ni, cxK, cxK2, tAug, ipI, L2.start, List.map_cons, List.map_nil, List.cons_append, List.nil_append, List.length_cons, List.length_nil, Nat.reduceAdd, Nat.reduceSub, List.replicate_zero, List.replicate_succ, List.append_nil, List.set_cons_zero, List.set_cons_succ, List.getElem?_cons_zero, List.getElem?_cons_succ, Option.some.injEq, exists_eq_left', exists_eq_left, exists_eq_right, exists_eq', V.int.injEq, V.bl.injEq, V.ref.injEq, V.str.injEq, HO.ins.injEq, and_assoc, true_and, and_true, exists_and_left, List.cons.injEq, exists_const, ne_eq, reduceCtorEq, not_false_eq_true, decide_true, decide_false, if_true, if_false, false_and, false_or, Bool.not_true, Bool.not_false, Bool.false_eq_true]
        cases hb : Vbsyae.beyond fl d j with
        | none =>
          have e1 : (!decide (optV none = V.non)) = false := rfl
          rw [e1]
          refine iteF ?_
          exact (hPj _ _ _).mpr ⟨P2, W2, _, _, rfl, s4, hr4, hw4, J4.skip (fun e he => by rw [hb] at he; cases he), hj, hm4⟩
        | some e =>
          have e1 : (!decide (optV (some e) = V.non)) = true := rfl
          rw [e1]
          refine iteT ?_
          refine ⟨p, natsV l, rfl, .inl (s4.seq hp), rfl, flat_nat l, ?_⟩
          simp only [tSeq, tIfS, tB, tVar, tRet, tRetN, tDrop, tAsg, gName, tOp, tC, tUn, rU, rI, rI0, tNext, tIf, tTest, tAnd, tOr, tNot, tAndV, tOrV, tNotV, tCons, tNil, tCal, tCalM, tCalC, tBase, tFld, sFld, sFldAug, L2.rAdd, tIsN, tNotN, rEq, rNe, scal_ii, scal_bb, scal_ss, scal_sn, scal_ns, scal_in, scal_ni, cxK, cxK2, tAug, ipI, L2.start, List.map_cons, List.map_nil, List.cons_append, List.nil_append, List.length_cons, List.length_nil, Nat.reduceAdd, Nat.reduceSub, List.replicate_zero, List.replicate_succ, List.append_nil, List.set_cons_zero, List.set_cons_succ, List.getElem?_cons_zero, List.getElem?_cons_succ, Option.some.injEq, exists_eq_left', exists_eq_left, exists_eq_right, exists_eq', V.int.injEq, V.bl.injEq, V.ref.injEq, V.str.injEq, HO.ins.injEq, and_assoc, true_and, and_true, exists_and_left, List.cons.injEq, exists_const, ne_eq, reduceCtorEq, not_false_eq_true, decide_true, decide_false, if_true, if_false, false_and, false_or, Bool.not_true, Bool.not_false, Bool.false_eq_true]
          have e2 : (if false = true then !inV (optV (some e)) (natsV l) else inV (optV (some e)) (natsV l)) = l.contains e := inV_nat e l
          have e2' : inV (optV (some e)) (natsV l) = l.contains e := inV_nat e l
          rw [e2']
          by_cases hel : l.contains e = true
          · rw [hel]
            refine iteT ?_
            refine ⟨r, natsV P2, rfl, .inl (SqL.of hr4), rfl, flat_nat P2, ?_⟩
            simp only [tSeq, tIfS, tB, tVar, tRet, tRetN, tDrop, tAsg, gName, tOp, tC, tUn, rU, rI, rI0, tNext, tIf, tTest, tAnd, tOr, tNot, tAndV, tOrV, tNotV, tCons, tNil, tCal, tCalM, tCalC, tBase, tFld, sFld, sFldAug, L2.rAdd, tIsN, tNotN, rEq, rNe, scal_ii, scal_bb, scal_ss, scal_sn, scal_ns, scal_in, scal_ni, cxK, cxK2, tAug, ipI, L2.start, List.map_cons, List.map_nil, List.cons_append, List.nil_append, List.length_cons, List.length_nil, Nat.reduceAdd, Nat.reduceSub, List.replicate_zero, List.replicate_succ, List.append_nil, List.set_cons_zero, List.set_cons_succ, List.getElem?_cons_zero, List.getElem?_cons_succ, Option.some.injEq, exists_eq_left', exists_eq_left, exists_eq_right, exists_eq', V.int.injEq, V.bl.injEq, V.ref.injEq, V.str.injEq, HO.ins.injEq, and_assoc, true_and, and_true, exists_and_left, List.cons.injEq, exists_const, ne_eq, reduceCtorEq, not_false_eq_true, decide_true, decide_false, if_true, if_false, false_and, false_or, Bool.not_true, Bool.not_false, Bool.false_eq_true]
            have e3 : inV (optV (some e)) (natsV P2) = P2.contains e := inV_nat e P2
            rw [e3]
            have hel' : e ∈ l := List.contains_iff_mem.mp hel
            by_cases hep : P2.contains e = true
            · rw [hep]
              refine iteF ?_
              exact (hPj _ _ _).mpr ⟨P2, W2, _, _, rfl, s4, hr4, hw4, J4.skip (fun y hy _ => by rw [hb] at hy; cases hy; exact List.contains_iff_mem.mp hep), hj, hm4⟩
            · have hep' : P2.contains e = false := by simpa using hep
              have hen : e ∉ P2 := fun z => hep (List.contains_iff_mem.mpr z)
              rw [hep']
              refine iteT ?_
              have J5 := J4.push hj hb hel' hen
              have pl := plen J5
              have wl := wlen J5
              rw [List.length_append, List.length_singleton] at pl wl
              simp only [tBM, tSeq, tIfS, tB, tVar, tRet, tRetN, tDrop, tAsg, gName, tOp, tC, tUn, rU, rI, rI0, tNext, tIf, tTest, tAnd, tOr, tNot, tAndV, tOrV, tNotV, tCons, tNil, tCal, tCalM, tCalC, tBase, tFld, sFld, sFldAug, L2.rAdd, tIsN, tNotN, rEq, rNe, scal_ii, scal_bb, scal_ss, scal_sn, scal_ns, scal_in, scal_ni, cxK, cxK2, tAug, ipI, L2.start, List.map_cons, List.map_nil, List.cons_append, List.nil_append, List.length_cons, List.length_nil, Nat.reduceAdd, Nat.reduceSub, List.replicate_zero, List.replicate_succ, List.append_nil, List.set_cons_zero, List.set_cons_succ, List.getElem?_cons_zero, List.getElem?_cons_succ, Option.some.injEq, exists_eq_left', exists_eq_left, exists_eq_right, exists_eq', V.int.injEq, V.bl.injEq, V.ref.injEq, V.str.injEq, HO.ins.injEq, and_assoc, true_and, and_true, exists_and_left, List.cons.injEq, exists_const, ne_eq, reduceCtorEq, not_false_eq_true, decide_true, decide_false, if_true, if_false, false_and, false_or, Bool.not_true, Bool.not_false, Bool.false_eq_true]
              have hP2l : (natsV P2).length < sizeLine := by
                unfold natsV
                rw [List.length_map]
                exact Nat.lt_of_le_of_lt (show _ ≤ 100 by omega) (by decide)
              have hW2l : (natsV W2).length < sizeLine := by
                unfold natsV
                rw [List.length_map]
                exact Nat.lt_of_le_of_lt (show _ ≤ 100 by omega) (by decide)
              refine ⟨.inl ⟨rfl, _, SqL.of hr4⟩, r, _, _, rfl, rfl, hr4, hP2l, ?_⟩
              have hw5 : (upd H4 r (.lst (natsV P2 ++ [optV (some e)]))) w = some (.lst (natsV W2)) := (upd_ne (Ne.symm nrw)).trans hw4
              refine ⟨.inl ⟨rfl, _, SqL.of hw5⟩, w, _, _, rfl, rfl, hw5, hW2l, ?_⟩
              refine (hPj _ _ _).mpr ⟨P2 ++ [e], W2 ++ [e], _, _, rfl, same_mut (same_mut s4 nr) nwH, ?_, ?_, J5, hj, ?_⟩
              · rw [upd_ne nrw, upd_same]
                unfold natsV
                rw [List.map_append]
                rfl
              · rw [upd_same]
                unfold natsV
                rw [List.map_append]
                rfl
              · rw [List.length_append, List.length_append, List.length_singleton]
                omega
          · have hel' : l.contains e = false := by simpa using hel
            rw [hel']
            refine iteF ?_
            refine (hPj _ _ _).mpr ⟨P2, W2, _, _, rfl, s4, hr4, hw4, J4.skip (fun y hy hyl => ?_), hj, hm4⟩
            rw [hb] at hy
            cases hy
            exact absurd (List.contains_iff_mem.mpr hyl) hel
      · obtain ⟨P2, W2, y6, y7, rfl, s4, hr4, hw4, J4, hj4, hm4⟩ := (hPj _ _ _).mp h6
        refine ⟨_, ?_, (hPw _ _ _).mpr ⟨P2, W2, _, _, _, rfl, s4, hr4, hw4, J4.back, rfl⟩⟩
        rw [List.length_append, List.length_singleton]
        omega
end
end HF
namespace HF
open PySem PySem.Spec PyProof.Rows L2
abbrev s_parts : Stmt := top 15
theorem sc_parts : FnScope ["field", "cells", "found", "reached", "cell", "part", "other"] ["field", "cells"] (defScope s_parts) := ⟨rfl, rfl, rfl, by decide +kernel, rfl, by decide +kernel, by decide +kernel⟩
abbrev s_answer_cost : Stmt := top 74
theorem sc_answer_cost : FnScope ["field", "given"] ["field", "given"] (defScope s_answer_cost) := ⟨rfl, rfl, rfl, by decide +kernel, rfl, by decide +kernel, by decide +kernel⟩
section
variable {P : Program} {w : World} {K : PySem.W.Frag} {mg : Str → Option Value} {base : Heap} {A : Ad}
/-- the keys of a dict of cells -/
def hasC (kvs : List (Key × V)) (n : Nat) : Prop := (valV kvs (Sum.inl (n : Int))).isSome = true
theorem hasC_put (kvs : List (Key × V)) (n m : Nat) (v : V) : hasC (putK kvs (Sum.inl (n : Int)) v) m ↔ m = n ∨ hasC kvs m := by
  unfold hasC
  rw [valV_put]
  by_cases c : m = n
  · subst c
    simp
  · have : ¬ ((Sum.inl (m : Int) : Key) = Sum.inl (n : Int)) := fun z => c (by have := Sum.inl.inj z; omega)
    rw [if_neg this]
    simp [c]
theorem take_lt {l : List Nat} {i c : Nat} (hr : Vbsyae.isRising l = true) (hc : l[i]? = some c) : ∀ d, d ∈ l → (d < c ↔ d ∈ l.take i) := by
  intro d hd
  have hp := rise_pairwise hr
  have hsplit : l = l.take i ++ c :: l.drop (i + 1) := by
    have h1 := List.take_append_drop i l
    have h2 : l.drop i = c :: l.drop (i + 1) := by
      obtain ⟨h1, h2⟩ := List.getElem?_eq_some_iff.mp hc
      rw [List.drop_eq_getElem_cons h1, h2]
    rw [h2] at h1
    exact h1.symm
  rw [hsplit] at hp
  obtain ⟨_, p2, p3⟩ := List.pairwise_append.mp hp
  obtain ⟨p4, _⟩ := List.pairwise_cons.mp p2
  constructor
  · intro hlt
    rw [hsplit] at hd
    rcases List.mem_append.mp hd with z | z
    · exact z
    · rcases List.mem_cons.mp z with z | z
      · omega
      · have := p4 d z
        omega
  · intro hm
    exact p3 d hm c (by simp)
def sp_parts (A : Ad) (K : PySem.W.Frag) : Sp := fun vs H Q _ => ∃ (a p : Addr) (f : Vbsyae.Field) (l : List Nat), vs = [.ref a, .ref p] ∧ FieldAt A.cField H a f ∧ SqL K H p (natsV l) ∧ Cells f l ∧
  ∀ (H' : Hp) (r : Addr) (vs : List V), Same H H' → H r = none → H' r = some (.lst vs) → vs.length = Vbsyae.parts f l → Q (.ref r) H'
theorem ok_parts {f : Addr} {fd : FuncData} (F : Fun K "parts" "parts" s_parts f fd) (T : Txt K mg A) (c_part_from : Cal P w K mg base CX0 2 "part_from" ["field", "cells", "start"] (sp_part_from A K)) : FnOk P w K mg base CX0 3 f fd ["field", "cells"] (sp_parts A K) := by
  refine F.ok sc_parts (fun vs H Q E h => ?_) (fun cdv B outer s H vs Q E hr h => ?_)
  · obtain ⟨a, p, f, l, rfl, _⟩ := h
    rfl
  · obtain ⟨a, p, fl, l, rfl, hF, hp, hC, q⟩ := h
    refine ⟨_, (pss_cons (ps_set (i := 2) sc_parts.nd rfl (Or.inl rfl) (pe_lst pa_nil))
      (pss_cons (ps_set (i := 3) sc_parts.nd rfl (Or.inl rfl) pe_dnewK)
      (pss_cons (ps_for PassesOwn.never rfl (pi_list (pv 1)) (pg_name (i := 4) sc_parts.nd rfl (Or.inl rfl))
      (pss_one (ps_if (pt_cmp (pc_dnotin (hu_of hr) (pv 4) (pv 3))) (pss_cons (ps_set (i := 5) sc_parts.nd rfl (Or.inl rfl) (pe_cal c_part_from hr (by rfl) pass0 (pa_cons (pv 0) (pa_cons (pv 1) (pa_cons (pv 4) pa_nil)))))
      (pss_cons (ps_expr (pe_bm PySem.F.plainAttrs_list PySem.F.slot_list_append PySem.F.type_list_append mt_append (pv 2) (pa_cons (pv 5) pa_nil)))
      (pss_one (ps_for PassesOwn.never rfl (pi_list (pv 5)) (pg_name (i := 6) sc_parts.nd rfl (Or.inl rfl))
      (pss_one (ps_dput (hu_of hr) (pv 3) (pv 6) pe_bl rfl)))))) pss_nil)))
      (pss_one (ps_ret (pv 2)))))), ?_⟩
    have wf := hF.wf
    have h64 := cells_len wf hC
    simp only [tSeq, tIfS, tB, tVar, tRet, tRetN, tDrop, tAsg, gName, tOp, tC, tUn, rU, rI, rI0, tNext, tIf, tTest, tAnd, tOr, tNot, tAndV, tOrV, tNotV, tCons, tNil, tCal, tCalM, tCalC, tBase, tFld, sFld, sFldAug, L2.rAdd, tIsN, tNotN, rEq, rNe, scal_ii, scal_bb, scal_ss, scal_sn, scal_ns, scal_in, scal_ni, cxK, cxK2, tAug, ipI, L2.start, List.map_cons, List.map_nil, List.cons_append, List.nil_append, List.length_cons, List.length_nil, Nat.reduceAdd, Nat.reduceSub, List.replicate_zero, List.replicate_succ, List.append_nil, List.set_cons_zero, List.set_cons_succ, List.getElem?_cons_zero, List.getElem?_cons_succ, Option.some.injEq, exists_eq_left', exists_eq_left, exists_eq_right, exists_eq', V.int.injEq, V.bl.injEq, V.ref.injEq, V.str.injEq, HO.ins.injEq, and_assoc, true_and, and_true, exists_and_left, List.cons.injEq, exists_const, ne_eq, reduceCtorEq, not_false_eq_true, decide_true, decide_false, if_true, if_false, false_and, false_or, Bool.not_true, Bool.not_false, Bool.false_eq_true, tLst, tDNewK]
    refine ⟨by decide, fun r nr => fun k nk => ?_⟩
    have nrk : r ≠ k := fun z => by
      rw [← z, upd_same] at nk
      cases nk
    have nkH : H k = none := by
      rw [upd_ne (Ne.symm nrk)] at nk
      exact nk
    have s1 : Same H (upd (upd H r (.lst [])) k (.dK [])) := (same_new nr).trans (same_new nk)
    have hr1 : (upd (upd H r (.lst [])) k (.dK [])) r = some (.lst []) := (upd_ne nrk).trans upd_same
    have hk1 : (upd (upd H r (.lst [])) k (.dK [])) k = some (.dK []) := upd_same
    generalize upd (upd H r (.lst [])) k (.dK []) = H1 at *
    obtain ⟨Pv, hPv⟩ : ∃ Pv : Nat → L2.St → Hp → Prop, ∀ i σ H', Pv i σ H' ↔ ∃ (vs : List V) (kvs : List (Key × V)) (y4 y5 y6 : Option V), σ = [some (.ref a), some (.ref p), some (.ref r), some (.ref k), y4, y5, y6] ∧ Same H H' ∧ H' r = some (.lst vs) ∧ H' k = some (.dK kvs) ∧ i ≤ l.length ∧ kvs.length ≤ 64 * i ∧
        vs.length = ((l.take i).filter (isFirst fl l)).length ∧ ∀ d, hasC kvs d ↔ ∃ c ∈ l.take i, Conn fl l c d := ⟨_, fun _ _ _ => Iff.rfl⟩
    refine q_forL (a := p) (xs := natsV l) Pv (fun R h => ⟨_, rfl, h⟩) ((hPv _ _ _).mpr ⟨[], [], none, none, none, rfl, s1, hr1, hk1, Nat.zero_le _, Nat.zero_le _, rfl, fun d => ?_⟩) (fun i σ H' _ h5 => ?_) (fun i v σ H' hi h5 => ?_) (fun σ H' h5 => ?_)
    · constructor
      · intro z
        cases z
      · rintro ⟨c, hc, _⟩
        simp at hc
    · obtain ⟨_, _, _, _, _, _, s5, _⟩ := (hPv _ _ _).mp h5
      exact s5.seq hp
    · obtain ⟨vs, kvs, y4, y5, y6, rfl, s5, hr5, hk5, hil, hkl, hvs, hkv⟩ := (hPv _ _ _).mp h5
      obtain ⟨c, hc, rfl⟩ := nats_get hi
      have hcl : c ∈ l := List.mem_of_getElem? hc
      have hilt : i < l.length := (List.getElem?_eq_some_iff.mp hc).1
      simp only [tDNotIn, tSeq, tIfS, tB, tVar, tRet, tRetN, tDrop, tAsg, gName, tOp, tC, tUn, rU, rI, rI0, tNext, tIf, tTest, tAnd, tOr, tNot, tAndV, tOrV, tNotV, tCons, tNil, tCal, tCalM, tCalC, tBase, tFld, sFld, sFldAug, L2.rAdd, tIsN, tNotN, rEq, rNe, scal_ii, scal_bb, scal_ss, scal_sn, scal_ns, scal_in, scal_ni, cxK, cxK2, tAug, ipI, L2.start, List.map_cons, List.map_nil, List.cons_append, List.nil_append, List.length_cons, List.length_nil, Nat.reduceAdd, Nat.reduceSub, List.replicate_zero, List.replicate_succ, List.append_nil, List.set_cons_zero, List.set_cons_succ, List.getElem?_cons_zero, List.getElem?_cons_succ, Option.some.injEq, exists_eq_left', exists_eq_left, exists_eq_right, exists_eq', V.int.injEq, V.bl.injEq, V.ref.injEq, V.str.injEq, HO.ins.injEq, and_assoc, true_and, and_true, exists_and_left, List.cons.injEq, exists_const, ne_eq, reduceCtorEq, not_false_eq_true, decide_true, decide_false, if_true, if_false, false_and, false_or, Bool.not_true, Bool.not_false, Bool.false_eq_true]
      refine ⟨_, DGet.k (k := Sum.inl (c : Int)) hk5, ?_⟩
      have hreach : hasC kvs c ↔ isFirst fl l c = false := by
        rw [hkv]
        constructor
        · rintro ⟨d, hd, hcn⟩
          have hdl : d ∈ l := List.mem_of_mem_take hd
          have hlt := (take_lt hC.rise hc d hdl).mpr hd
          cases z : isFirst fl l c with
          | false => rfl
          | true =>
            have := (first_iff wf hC hcl).mp z d (hcn.symm wf hC hdl)
            omega
        · intro z
          have hn : ¬ ∀ d, Conn fl l c d → c ≤ d := fun h => by
            rw [(first_iff wf hC hcl).mpr h] at z
            cases z
          obtain ⟨d, hd⟩ := Classical.not_forall.mp hn
          obtain ⟨hd1, hd2⟩ := Classical.not_imp.mp hd
          exact ⟨d, (take_lt hC.rise hc d (hd1.mem hcl)).mp (by omega), hd1.symm wf hC hcl⟩
      have htake : l.take (i + 1) = l.take i ++ [c] := take_get hc
      cases hv : valV kvs (Sum.inl (c : Int)) with
      | some x =>
        have hh : hasC kvs c := by
          unfold hasC
          rw [hv]
          rfl
        have hf := hreach.mp hh
        refine iteF ?_
        refine (hPv _ _ _).mpr ⟨vs, kvs, _, _, _, rfl, s5, hr5, hk5, hilt, by omega, ?_, fun d => ?_⟩
        · rw [htake, List.filter_append, List.length_append, hvs]
          simp [hf]
        · rw [hkv, htake]
          constructor
          · rintro ⟨e, he, hn⟩
            exact ⟨e, List.mem_append_left _ he, hn⟩
          · rintro ⟨e, he, hn⟩
            rcases List.mem_append.mp he with z | z
            · exact ⟨e, z, hn⟩
            · rw [List.mem_singleton.mp z] at hn
              obtain ⟨e2, he2, hn2⟩ := (hkv c).mp hh
              exact ⟨e2, he2, hn2.trans hn⟩
      | none =>
        have hh : ¬ hasC kvs c := by
          unfold hasC
          rw [hv]
          simp
        have hf : isFirst fl l c = true := by
          cases z : isFirst fl l c with
          | true => rfl
          | false => exact absurd (hreach.mpr z) hh
        refine iteT ?_
        refine ⟨a, p, fl, l, c, rfl, hF.on s5, s5.seq hp, hC, hcl, fun H6 t P s6 nt ht hP hPl => ?_⟩
        simp only [tBM, tSeq, tIfS, tB, tVar, tRet, tRetN, tDrop, tAsg, gName, tOp, tC, tUn, rU, rI, rI0, tNext, tIf, tTest, tAnd, tOr, tNot, tAndV, tOrV, tNotV, tCons, tNil, tCal, tCalM, tCalC, tBase, tFld, sFld, sFldAug, L2.rAdd, tIsN, tNotN, rEq, rNe, scal_ii, scal_bb, scal_ss, scal_sn, scal_ns, scal_in, scal_ni, cxK, cxK2, tAug, ipI, L2.start, List.map_cons, List.map_nil, List.cons_append, List.nil_append, List.length_cons, List.length_nil, Nat.reduceAdd, Nat.reduceSub, List.replicate_zero, List.replicate_succ, List.append_nil, List.set_cons_zero, List.set_cons_succ, List.getElem?_cons_zero, List.getElem?_cons_succ, Option.some.injEq, exists_eq_left', exists_eq_left, exists_eq_right, exists_eq', V.int.injEq, V.bl.injEq, V.ref.injEq, V.str.injEq, HO.ins.injEq, and_assoc, true_and, and_true, exists_and_left, List.cons.injEq, exists_const, ne_eq, reduceCtorEq, not_false_eq_true, decide_true, decide_false, if_true, if_false, false_and, false_or, Bool.not_true, Bool.not_false, Bool.false_eq_true]
        have hvl : vs.length < sizeLine := by
          rw [hvs]
          refine Nat.lt_of_le_of_lt (List.length_filter_le _ _) ?_
          rw [List.length_take]
          exact Nat.lt_of_le_of_lt (show _ ≤ 64 by omega) (by decide)
        refine ⟨.inl ⟨rfl, _, SqL.of (s6 _ _ hr5)⟩, r, _, _, rfl, rfl, s6 _ _ hr5, hvl, ?_⟩
        have s7 : Same H (upd H6 r (.lst (vs ++ [.ref t]))) := same_mut (s5.trans s6) nr
        have hr7 : (upd H6 r (.lst (vs ++ [.ref t]))) r = some (.lst (vs ++ [.ref t])) := upd_same
        have hk7 : (upd H6 r (.lst (vs ++ [.ref t]))) k = some (.dK kvs) := (upd_ne (Ne.symm nrk)).trans (s6 _ _ hk5)
        have ntr : t ≠ r := fun z => by
          rw [z, hr5] at nt
          cases nt
        have ntk : t ≠ k := fun z => by
          rw [z, hk5] at nt
          cases nt
        have ht7 : (upd H6 r (.lst (vs ++ [.ref t]))) t = some (.lst (natsV P)) := (upd_ne ntr).trans ht
        generalize upd H6 r (.lst (vs ++ [.ref t])) = H7 at *
        have ntH : H t = none := s5.free nt
        obtain ⟨Pj, hPj⟩ : ∃ Pj : Nat → L2.St → Hp → Prop, ∀ j σ H', Pj j σ H' ↔ ∃ (kvs2 : List (Key × V)) (y6 : Option V), σ = [some (.ref a), some (.ref p), some (.ref r), some (.ref k), some (.int c), some (.ref t), y6] ∧ Same H H' ∧ H' r = some (.lst (vs ++ [.ref t])) ∧ H' t = some (.lst (natsV P)) ∧ H' k = some (.dK kvs2) ∧ j ≤ P.length ∧ kvs2.length ≤ 64 * i + j ∧
            ∀ d, hasC kvs2 d ↔ d ∈ P.take j ∨ hasC kvs d := ⟨_, fun _ _ _ => Iff.rfl⟩
        refine q_forL (a := t) (xs := natsV P) Pj (fun R h => ⟨_, rfl, h⟩) ((hPj _ _ _).mpr ⟨kvs, _, rfl, s7, hr7, ht7, hk7, Nat.zero_le _, by omega, fun d => by simp⟩) (fun j σ H8 _ h8 => ?_) (fun j v σ H8 hj h8 => ?_) (fun σ H8 h8 => ?_)
        · obtain ⟨_, _, _, _, _, ht8, _⟩ := (hPj _ _ _).mp h8
          exact SqL.of ht8
        · obtain ⟨kvs2, y6, rfl, s8, hr8, ht8, hk8, hjl, hkl2, hkv2⟩ := (hPj _ _ _).mp h8
          obtain ⟨o, ho, rfl⟩ := nats_get hj
          have hjlt : j < P.length := (List.getElem?_eq_some_iff.mp ho).1
          refine ⟨_, rfl, _, rfl, k, _, rfl, DPut.k (k := Sum.inl (o : Int)) hk8 ?_, ?_⟩
          · exact Nat.lt_of_le_of_lt (show _ ≤ 10000 by omega) (by decide)
          · refine (hPj _ _ _).mpr ⟨putK kvs2 (Sum.inl (o : Int)) (.bl true), _, rfl, same_mut s8 nkH, (upd_ne nrk).trans hr8, (upd_ne ntk).trans ht8, upd_same, hjlt, ?_, fun d => ?_⟩
            · have := length_putK kvs2 (Sum.inl (o : Int)) (.bl true)
              omega
            · rw [hasC_put, hkv2, take_get ho, List.mem_append, List.mem_singleton]
              constructor
              · rintro (z | z | z)
                · exact .inl (.inr z)
                · exact .inl (.inl z)
                · exact .inr z
              · rintro ((z | z) | z)
                · exact .inr (.inl z)
                · exact .inl z
                · exact .inr (.inr z)
        · obtain ⟨kvs2, y6, rfl, s8, hr8, ht8, hk8, hjl, hkl2, hkv2⟩ := (hPj _ _ _).mp h8
          have hPn : (natsV P).length = P.length := by unfold natsV; rw [List.length_map]
          rw [hPn] at hkl2 hkv2
          refine (hPv _ _ _).mpr ⟨_, kvs2, _, _, _, rfl, s8, hr8, hk8, hilt, by omega, ?_, fun d => ?_⟩
          · rw [htake, List.filter_append, List.length_append, List.length_append, hvs]
            simp [hf]
          · rw [hkv2, List.take_length, hP, hkv, htake]
            constructor
            · rintro (z | ⟨e, he, hn⟩)
              · exact ⟨c, by simp, z⟩
              · exact ⟨e, List.mem_append_left _ he, hn⟩
            · rintro ⟨e, he, hn⟩
              rcases List.mem_append.mp he with z | z
              · exact .inr ⟨e, z, hn⟩
              · rw [List.mem_singleton.mp z] at hn
                exact .inl hn
    · obtain ⟨vs, kvs, y4, y5, y6, rfl, s5, hr5, hk5, hil, hkl, hvs, hkv⟩ := (hPv _ _ _).mp h5
      have hln : (natsV l).length = l.length := by unfold natsV; rw [List.length_map]
      rw [hln, List.take_length] at hvs
      simp only [tSeq, tIfS, tB, tVar, tRet, tRetN, tDrop, tAsg, gName, tOp, tC, tUn, rU, rI, rI0, tNext, tIf, tTest, tAnd, tOr, tNot, tAndV, tOrV, tNotV, tCons, tNil, tCal, tCalM, tCalC, tBase, tFld, sFld, sFldAug, L2.rAdd, tIsN, tNotN, rEq, rNe, scal_ii, scal_bb, scal_ss, scal_sn, scal_ns, scal_in, scal_ni, cxK, cxK2, tAug, ipI, L2.start, List.map_cons, List.map_nil, List.cons_append, List.nil_append, List.length_cons, List.length_nil, Nat.reduceAdd, Nat.reduceSub, List.replicate_zero, List.replicate_succ, List.append_nil, List.set_cons_zero, List.set_cons_succ, List.getElem?_cons_zero, List.getElem?_cons_succ, Option.some.injEq, exists_eq_left', exists_eq_left, exists_eq_right, exists_eq', V.int.injEq, V.bl.injEq, V.ref.injEq, V.str.injEq, HO.ins.injEq, and_assoc, true_and, and_true, exists_and_left, List.cons.injEq, exists_const, ne_eq, reduceCtorEq, not_false_eq_true, decide_true, decide_false, if_true, if_false, false_and, false_or, Bool.not_true, Bool.not_false, Bool.false_eq_true]
      exact q H' r vs s5 nr hr5 (by rw [parts_eq hC]; exact hvs)
def cCost : List Int → Option Vbsyae.Call := fun l => some (.cost l)
theorem ok_answer_cost {f : Addr} {fd : FuncData} (F : Fun K "answer_cost" "answer_cost" s_answer_cost f fd) (T : Txt K mg A) (c_check_cells : Cal P w K mg base (L2.CX P w) 4 "check_cells" ["field", "cells"] (sp_check_cells A K)) (c_hurdles : Cal P w K mg base CX0 3 "hurdles" ["field", "cells"] (sp_hurdles A K)) (c_parts : Cal P w K mg base CX0 3 "parts" ["field", "cells"] (sp_parts A K)) : FnOk P w K mg base (L2.CX P w) 5 f fd ["field", "given"] (sp_ans A K cCost) := by
  refine F.okX sc_answer_cost (fun vs H Q E h => ?_) (fun cdv B outer s H vs Q E hr h => ?_)
  · obtain ⟨F, a, g, f, l, c, rfl, _⟩ := h
    rfl
  · obtain ⟨Fr, a, g, fl, l, c, rfl, hF, hg, hl, hc, q, er⟩ := h
    cases hc
    refine ⟨_, (pss_cons (ps_expr (pe_cal c_check_cells hr (by rfl) (passes_call (takes_of rfl rfl rfl rfl) fun _ _ _ _ h => h) (pa_cons (pv 0) (pa_cons (pv 1) pa_nil))))
      (pss_one (ps_ret (pe_lst (pa_cons (pe_callB call_len_seq (by rfl) T.len PySem.boot_len (pa_cons (pe_cal c_hurdles (hr.mono (by decide)) (by rfl) pass0 (pa_cons (pv 0) (pa_cons (pv 1) pa_nil))) pa_nil)) (pa_cons (pe_callB call_len_seq (by rfl) T.len PySem.boot_len (pa_cons (pv 1) pa_nil)) (pa_cons (pe_callB call_len_seq (by rfl) T.len PySem.boot_len (pa_cons (pe_cal c_parts (hr.mono (by decide)) (by rfl) pass0 (pa_cons (pv 0) (pa_cons (pv 1) pa_nil))) pa_nil)) pa_nil))))))), ?_⟩
    refine ⟨_, rfl, _, rfl, a, g, fl, l, rfl, hF.at, hg, fun hb => ?_, fun hb => ?_⟩
    rotate_left
    · refine er (-4) ?_ A.cWrongList (by simp [errs])
      unfold Vbsyae.run
      dsimp only
      rw [cellsIn_bad hb]
      rfl
    obtain ⟨e1, hC⟩ := cells_of hb
    have hrun : Vbsyae.run fl (.cost l) = .ok (fl, VbsyCore.ints [Vbsyae.cost fl (l.map Int.toNat), (l.map Int.toNat).length, Vbsyae.parts fl (l.map Int.toNat)]) := by
      unfold Vbsyae.run
      dsimp only
      rw [cellsIn_ok hb]
      rfl
    rw [hrun] at q
    rw [e1] at hg
    generalize l.map Int.toNat = m at *
    have hcost : Vbsyae.cost fl m = (needAll fl m).length := by
      unfold Vbsyae.cost
      rw [sides_eq hC]
    rw [hcost] at q
    have h64 := cells_len hF.wf hC
    refine ⟨_, rfl, _, rfl, a, g, fl, m, rfl, hF.at, hg, h64, fun H1 r vs s1 nr hr hps => ?_⟩
    refine ⟨r, vs, rfl, .inl (SqL.of hr), ?_⟩
    refine ⟨_, rfl, g, _, rfl, .inl (s1.seq hg), ?_⟩
    refine ⟨_, rfl, _, rfl, a, g, fl, m, rfl, (hF.on s1).at, s1.seq hg, hC, fun H2 r2 us s2 nr2 hr2 hus => ?_⟩
    refine ⟨r2, us, rfl, .inl (SqL.of hr2), (by show 3 ≤ sizeLine; decide), fun p np => ?_⟩
    have hml : (natsV m).length = m.length := by unfold natsV; rw [List.length_map]
    rw [hps.len, hus, hml]
    obtain ⟨h4, h5⟩ := ((hF.on s1).on s2).new (o := .lst [.int (needAll fl m).length, .int m.length, .int (Vbsyae.parts fl m)]) np
    exact q _ _ rfl _ p h4 h5 upd_same
end
end HF
namespace HF
open PySem PySem.Spec PyProof.Rows L2
abbrev s_most_cells : Stmt := top 55
theorem sc_most_cells : FnScope ["field", "most_hurdles", "greatest"] ["field", "most_hurdles"] (defScope s_most_cells) := ⟨rfl, rfl, rfl, by decide +kernel, rfl, by decide +kernel, by decide +kernel⟩
abbrev s_answer_least : Stmt := top 78
theorem sc_answer_least : FnScope ["field", "given", "cheapest", "high", "wide"] ["field", "given"] (defScope s_answer_least) := ⟨rfl, rfl, rfl, by decide +kernel, rfl, by decide +kernel, by decide +kernel⟩
abbrev s_answer_curve : Stmt := top 79
theorem sc_answer_curve : FnScope ["field", "given", "most_hurdles", "found", "allowed"] ["field", "given"] (defScope s_answer_curve) := ⟨rfl, rfl, rfl, by decide +kernel, rfl, by decide +kernel, by decide +kernel⟩
section
variable {P : Program} {w : World} {K : PySem.W.Frag} {mg : Str → Option Value} {base : Heap} {A : Ad}
/-! ### what evaluates to what: calls of this text's own defs -/
theorem ex_same {H H' : Hp} (s : Same H H') : Evl.Ex H H' := s
theorem ev_cal {σ : L2.St} {H : Hp} {sp : Sp} {vs : List V} {E : XK} {t : TA} {z : V} (h : Evl.EvA t σ H vs) (hs : Evl.SpV sp vs H z) : Evl.Ev (tCal sp E t) σ H z := fun H1 e Q q =>
  h H1 e _ fun H2 e2 => hs H2 (e.trans e2) Q (fun H3 e3 => q H3 (e2.trans e3)) E
theorem ok_most_cells {f : Addr} {fd : FuncData} (F : Fun K "most_cells" "most_cells" s_most_cells f fd) (T : Txt K mg A) (c_greatest_rectangle : Cal P w K mg base CX0 4 "greatest_rectangle" ["field", "most_hurdles"] (sp_greatest A)) : FnOk P w K mg base CX0 5 f fd ["field", "most_hurdles"] (sp_most_cells A) := by
  refine F.ok sc_most_cells (fun vs H Q E h => ?_) (fun cdv B outer s H vs Q E hr h => ?_)
  · obtain ⟨a, f, h, rfl, _⟩ := h
    rfl
  · obtain ⟨a, fl, h, rfl, hF, q⟩ := h
    refine ⟨_, (pss_cons (ps_set (i := 2) sc_most_cells.nd rfl (Or.inl rfl) (pe_cal c_greatest_rectangle hr (by rfl) pass0 (pa_cons (pv 0) (pa_cons (pv 1) pa_nil))))
      (pss_cons (ps_if (pt_cmpR op_isN (pv 2) pe_non (nomark _)) (pss_one (ps_ret pe_int)) pss_nil)
      (pss_one (ps_ret (pe_op op_mul (pe_ix ix_tup (pv 2) pe_int (fun _ _ => rfl)) (pe_ix ix_tup (pv 2) pe_int (fun _ _ => rfl))))))), ?_⟩
    have wf := hF.wf
    have hr8 := wf.r8
    have hc8 := wf.c8
    refine ⟨_, rfl, _, rfl, a, fl, h, rfl, hF, fun hb H1 s1 => ?_, fun hb H1 t s1 ht => ?_⟩
    · simp only [tSeq, tIfS, tB, tVar, tRet, tRetN, tDrop, tAsg, gName, tOp, tC, tUn, rU, rI, rI0, tNext, tIf, tTest, tAnd, tOr, tNot, tAndV, tOrV, tNotV, tCons, tNil, tCal, tCalM, tCalC, tBase, tFld, sFld, sFldAug, L2.rAdd, tIsN, tNotN, rEq, rNe, scal_ii, scal_bb, scal_ss, scal_sn, scal_ns, scal_in, scal_ni, cxK, cxK2, tAug, ipI, L2.start, List.map_cons, List.map_nil, List.cons_append, List.nil_append, List.length_cons, List.length_nil, Nat.reduceAdd, Nat.reduceSub, List.replicate_zero, List.replicate_succ, List.append_nil, List.set_cons_zero, List.set_cons_succ, List.getElem?_cons_zero, List.getElem?_cons_succ, Option.some.injEq, exists_eq_left', exists_eq_left, exists_eq_right, exists_eq', V.int.injEq, V.bl.injEq, V.ref.injEq, V.str.injEq, HO.ins.injEq, and_assoc, true_and, and_true, exists_and_left, List.cons.injEq, exists_const, ne_eq, reduceCtorEq, not_false_eq_true, decide_true, decide_false, if_true, if_false, false_and, false_or, Bool.not_true, Bool.not_false, Bool.false_eq_true]
      have := q H1 s1
      rw [hb, Nat.zero_mul] at this
      exact this
    · obtain ⟨hb1, hb2⟩ := best_le hb
      simp only [tSeq, tIfS, tB, tVar, tRet, tRetN, tDrop, tAsg, gName, tOp, tC, tUn, rU, rI, rI0, tNext, tIf, tTest, tAnd, tOr, tNot, tAndV, tOrV, tNotV, tCons, tNil, tCal, tCalM, tCalC, tBase, tFld, sFld, sFldAug, L2.rAdd, tIsN, tNotN, rEq, rNe, scal_ii, scal_bb, scal_ss, scal_sn, scal_ns, scal_in, scal_ni, cxK, cxK2, tAug, ipI, L2.start, List.map_cons, List.map_nil, List.cons_append, List.nil_append, List.length_cons, List.length_nil, Nat.reduceAdd, Nat.reduceSub, List.replicate_zero, List.replicate_succ, List.append_nil, List.set_cons_zero, List.set_cons_succ, List.getElem?_cons_zero, List.getElem?_cons_succ, Option.some.injEq, exists_eq_left', exists_eq_left, exists_eq_right, exists_eq', V.int.injEq, V.bl.injEq, V.ref.injEq, V.str.injEq, HO.ins.injEq, and_assoc, true_and, and_true, exists_and_left, List.cons.injEq, exists_const, ne_eq, reduceCtorEq, not_false_eq_true, decide_true, decide_false, if_true, if_false, false_and, false_or, Bool.not_true, Bool.not_false, Bool.false_eq_true]
      refine st_ixT ht rfl ?_
      refine st_ixT ht rfl ?_
      refine ⟨_, rfl, _, rfl, Or.inl ⟨by omega, by omega⟩, ?_⟩
      have := q H1 s1
      simpa using this
def cLeast : List Int → Option Vbsyae.Call
  | [n] => some (.least n)
  | _ => none
theorem ok_answer_least {f : Addr} {fd : FuncData} (F : Fun K "answer_least" "answer_least" s_answer_least f fd) (T : Txt K mg A) (c_check_range : Cal P w K mg base (L2.CX P w) 4 "check_range" ["number", "least", "most"] (sp_check_range A)) (c_cheapest_rectangle : Cal P w K mg base CX0 4 "cheapest_rectangle" ["field", "least_cells"] (sp_cheapest A)) (c_rectangle_cost : Cal P w K mg base CX0 2 "rectangle_cost" ["field", "high", "wide"] (sp_rectangle_cost A)) (c_rectangle_put : Cal P w K mg base CX0 2 "rectangle_put" ["field", "high", "wide"] (sp_rectangle_put A)) : FnOk P w K mg base (L2.CX P w) 5 f fd ["field", "given"] (sp_ans A K cLeast) := by
  refine F.okX sc_answer_least (fun vs H Q E h => ?_) (fun cdv B outer s H vs Q E hr h => ?_)
  · obtain ⟨F, a, g, f, l, c, rfl, _⟩ := h
    rfl
  · obtain ⟨Fr, a, g, fl, l, c, rfl, hF, hg, hl, hc, q, er⟩ := h
    match l, hc with
    | [n], hc =>
    cases hc
    refine ⟨_, (pss_cons (ps_expr (pe_cal c_check_range hr (by rfl) (passes_call (takes_of rfl rfl rfl rfl) fun _ _ _ _ h => h) (pa_cons (pe_ix ix_list (pv 1) pe_int (fun _ _ => rfl)) (pa_cons pe_int (pa_cons (pe_gi T.MOST_CELLS (by rfl)) pa_nil)))))
      (pss_cons (ps_set (i := 2) sc_answer_least.nd rfl (Or.inl rfl) (pe_cal c_cheapest_rectangle hr (by rfl) pass0 (pa_cons (pv 0) (pa_cons (pe_ix ix_list (pv 1) pe_int (fun _ _ => rfl)) pa_nil))))
      (pss_cons (ps_if (pt_cmpR op_isN (pv 2) pe_non (nomark _)) (pss_one (ps_ret (pe_lst (pa_cons pe_int pa_nil)))) pss_nil)
      (pss_cons (ps_set (i := 3) sc_answer_least.nd rfl (Or.inl rfl) (pe_ix ix_tup (pv 2) pe_int (fun _ _ => rfl)))
      (pss_cons (ps_set (i := 4) sc_answer_least.nd rfl (Or.inl rfl) (pe_ix ix_tup (pv 2) pe_int (fun _ _ => rfl)))
      (pss_one (ps_ret (pe_op op_cat (pe_lst (pa_cons pe_int (pa_cons (pe_cal c_rectangle_cost (hr.mono (by decide)) (by rfl) pass0 (pa_cons (pv 0) (pa_cons (pv 3) (pa_cons (pv 4) pa_nil)))) (pa_cons (pe_op op_mul (pv 3) (pv 4)) pa_nil)))) (pe_cal c_rectangle_put (hr.mono (by decide)) (by rfl) pass0 (pa_cons (pv 0) (pa_cons (pv 3) (pa_cons (pv 4) pa_nil)))))))))))), ?_⟩
    refine ⟨_, rfl, g, _, 0, _, rfl, rfl, hg, rfl, n, 1, 64, rfl, fun hx => ?_, fun hb => ?_⟩
    rotate_left
    · refine er (-3) ?_ A.cOutOfRange (by simp [errs])
      show (do let a ← Vbsyae.ranged n 1 64; _) = _
      rw [ranged_bad hb]
      rfl
    have hrun : Vbsyae.run fl (.least n) = match Vbsyae.least fl n.toNat with
        | none => .ok (fl, [0])
        | some x => .ok (fl, VbsyCore.ints [1, Vbsyae.rectCost fl x.1 x.2, x.1 * x.2] ++ Vbsyae.foldRow (Vbsyae.putAt fl x.1 x.2)) := by
      show (do let a ← Vbsyae.ranged n 1 64; _) = _
      rw [ranged_ok hx]
      dsimp only [bind, Except.bind]
      cases Vbsyae.least fl n.toNat <;> rfl
    rw [hrun] at q er
    obtain ⟨k, rfl⟩ : ∃ k : Nat, n = (k : Int) := ⟨n.toNat, by omega⟩
    rw [Int.toNat_natCast] at q er
    refine ⟨_, rfl, _, rfl, g, _, 0, _, rfl, rfl, hg, rfl, a, fl, k, rfl, hF.at, fun hb H1 s1 => ?_, fun b hb hb1 hb2 H1 t s1 ht => ?_⟩
    · rw [hb] at q
      simp only [tSeq, tIfS, tB, tVar, tRet, tRetN, tDrop, tAsg, gName, tOp, tC, tUn, rU, rI, rI0, tNext, tIf, tTest, tAnd, tOr, tNot, tAndV, tOrV, tNotV, tCons, tNil, tCal, tCalM, tCalC, tBase, tFld, sFld, sFldAug, L2.rAdd, tIsN, tNotN, rEq, rNe, scal_ii, scal_bb, scal_ss, scal_sn, scal_ns, scal_in, scal_ni, cxK, cxK2, tAug, ipI, L2.start, List.map_cons, List.map_nil, List.cons_append, List.nil_append, List.length_cons, List.length_nil, Nat.reduceAdd, Nat.reduceSub, List.replicate_zero, List.replicate_succ, List.append_nil, List.set_cons_zero, List.set_cons_succ, List.getElem?_cons_zero, List.getElem?_cons_succ, Option.some.injEq, exists_eq_left', exists_eq_left, exists_eq_right, exists_eq', V.int.injEq, V.bl.injEq, V.ref.injEq, V.str.injEq, HO.ins.injEq, and_assoc, true_and, and_true, exists_and_left, List.cons.injEq, exists_const, ne_eq, reduceCtorEq, not_false_eq_true, decide_true, decide_false, if_true, if_false, false_and, false_or, Bool.not_true, Bool.not_false, Bool.false_eq_true, tLst]
      refine ⟨by decide, fun p np => ?_⟩
      obtain ⟨h4, h5⟩ := (hF.on s1).new (o := .lst [.int 0]) np
      exact q _ _ rfl _ p h4 h5 upd_same
    · rw [hb] at q
      obtain ⟨b1, b2⟩ := b
      dsimp only at *
      have wf := hF.wf
      have hr8 := wf.r8
      have hc8 := wf.c8
      simp only [tSeq, tIfS, tB, tVar, tRet, tRetN, tDrop, tAsg, gName, tOp, tC, tUn, rU, rI, rI0, tNext, tIf, tTest, tAnd, tOr, tNot, tAndV, tOrV, tNotV, tCons, tNil, tCal, tCalM, tCalC, tBase, tFld, sFld, sFldAug, L2.rAdd, tIsN, tNotN, rEq, rNe, scal_ii, scal_bb, scal_ss, scal_sn, scal_ns, scal_in, scal_ni, cxK, cxK2, tAug, ipI, L2.start, List.map_cons, List.map_nil, List.cons_append, List.nil_append, List.length_cons, List.length_nil, Nat.reduceAdd, Nat.reduceSub, List.replicate_zero, List.replicate_succ, List.append_nil, List.set_cons_zero, List.set_cons_succ, List.getElem?_cons_zero, List.getElem?_cons_succ, Option.some.injEq, exists_eq_left', exists_eq_left, exists_eq_right, exists_eq', V.int.injEq, V.bl.injEq, V.ref.injEq, V.str.injEq, HO.ins.injEq, and_assoc, true_and, and_true, exists_and_left, List.cons.injEq, exists_const, ne_eq, reduceCtorEq, not_false_eq_true, decide_true, decide_false, if_true, if_false, false_and, false_or, Bool.not_true, Bool.not_false, Bool.false_eq_true]
      refine st_ixT ht rfl ?_
      refine st_ixT ht rfl ?_
      simp only [tSeq, tIfS, tB, tVar, tRet, tRetN, tDrop, tAsg, gName, tOp, tC, tUn, rU, rI, rI0, tNext, tIf, tTest, tAnd, tOr, tNot, tAndV, tOrV, tNotV, tCons, tNil, tCal, tCalM, tCalC, tBase, tFld, sFld, sFldAug, L2.rAdd, tIsN, tNotN, rEq, rNe, scal_ii, scal_bb, scal_ss, scal_sn, scal_ns, scal_in, scal_ni, cxK, cxK2, tAug, ipI, L2.start, List.map_cons, List.map_nil, List.cons_append, List.nil_append, List.length_cons, List.length_nil, Nat.reduceAdd, Nat.reduceSub, List.replicate_zero, List.replicate_succ, List.append_nil, List.set_cons_zero, List.set_cons_succ, List.getElem?_cons_zero, List.getElem?_cons_succ, Option.some.injEq, exists_eq_left', exists_eq_left, exists_eq_right, exists_eq', V.int.injEq, V.bl.injEq, V.ref.injEq, V.str.injEq, HO.ins.injEq, and_assoc, true_and, and_true, exists_and_left, List.cons.injEq, exists_const, ne_eq, reduceCtorEq, not_false_eq_true, decide_true, decide_false, if_true, if_false, false_and, false_or, Bool.not_true, Bool.not_false, Bool.false_eq_true, tLst]
      refine ⟨a, fl, b1, b2, rfl, (hF.on s1).at, by omega, by omega, Or.inl ⟨by omega, by omega⟩, by decide, fun p1 n1 => ?_⟩
      have s2 := same_new (o := .lst [.int 1, .int (Vbsyae.rectCost fl b1 b2), .int ((b1 : Int) * (b2 : Int))]) n1
      refine ⟨a, fl, b1, b2, rfl, ((hF.on s1).on s2).at, hb1, hb2, fun H3 p2 s3 n2 h2 => ?_⟩
      refine ⟨p1, p2, _, _, rfl, rfl, s3 _ _ upd_same, h2, (by simp [Vbsyae.foldRow, VbsyCore.ints]; decide), fun p3 n3 => ?_⟩
      obtain ⟨h4, h5⟩ := (((hF.on s1).on s2).on s3).new (o := .lst ([.int 1, .int (Vbsyae.rectCost fl b1 b2), .int ((b1 : Int) * (b2 : Int))] ++ (Vbsyae.foldRow (Vbsyae.putAt fl b1 b2)).map V.int)) n3
      refine q _ _ rfl _ p3 h4 h5 (upd_same.trans ?_)
      unfold intsV VbsyCore.ints
      simp
def cCurve : List Int → Option Vbsyae.Call := fun _ => some .curve
theorem given_all (n : Nat) (v : Nat → V) : Evl.given n (fun _ => true) v = (List.range n).map v := by
  unfold Evl.given
  rw [List.filter_eq_self.mpr fun _ _ => rfl]
theorem ok_answer_curve {f : Addr} {fd : FuncData} (F : Fun K "answer_curve" "answer_curve" s_answer_curve f fd) (T : Txt K mg A) (c_most_cells : Cal P w K mg base CX0 5 "most_cells" ["field", "most_hurdles"] (sp_most_cells A)) : FnOk P w K mg base CX0 6 f fd ["field", "given"] (sp_ans A K cCurve) := by
  refine F.ok sc_answer_curve (fun vs H Q E h => ?_) (fun cdv B outer s H vs Q E hr h => ?_)
  · obtain ⟨F, a, g, f, l, c, rfl, _⟩ := h
    rfl
  · obtain ⟨Fr, a, g, fl, l, c, rfl, hF, hg, hl, hc, q, er⟩ := h
    cases hc
    refine ⟨_, (pss_cons (ps_set (i := 2) sc_answer_curve.nd rfl (Or.inl rfl) (pe_op op_mul pe_int (pe_op op_add (pe_fld (pv 0) rfl) (pe_fld (pv 0) rfl))))
      (pss_cons (ps_setLc (i := 3) (own := [("allowed", 4)]) (g := gName 4) (tt := tYes) (by rfl) sc_answer_curve.nd rfl rfl (sw_true rfl rfl rfl (by decide +kernel)) (pi_range1 (by rfl) T.range (pa_cons (pe_op op_add (pv 2) pe_int) pa_nil)) (blkOk_by (own := [("allowed", 4)]) (N := ["field", "given", "most_hurdles", "found", "allowed"]) (sc := defScope s_answer_curve) (by decide +kernel)) (fun _ _ _ _ _ => (pg_name (i := 4) sc_answer_curve.nd rfl (Or.inl rfl))) (fun _ _ _ _ _ => pts_nil) (fun _ _ _ _ _ => (pe_cal c_most_cells hr (by rfl) pass0 (pa_cons (pv 0) (pa_cons (pv 4) pa_nil)))))
      (pss_one (ps_ret (pe_op op_cat (pe_lst (pa_cons (pe_callB call_len_seq (by rfl) T.len PySem.boot_len (pa_cons (pv 3) pa_nil)) pa_nil)) (pv 3)))))), ?_⟩
    obtain ⟨dx, w, d, ds, X⟩ := FX.of hF
    have wf := hF.wf
    have hr8 := wf.r8
    have hc8 := wf.c8
    refine ⟨_, rfl, a, A.cField, dx, _, _, rfl, X.at_, T.clField, T.nRows, fF_rows _ _ _, _, rfl, a, A.cField, dx, _, _, rfl, X.at_, T.clField, T.nColumns, fF_cols _ _ _, _, _, rfl, rfl, _, _, rfl, rfl, Or.inl ⟨by decide, by decide⟩, ?_⟩
    have en : (2 : Int) * ((fl.rows : Int) + (fl.cols : Int)) + 1 = ((2 * (fl.rows + fl.cols) + 1 : Nat) : Int) := by omega
    have hrun : Vbsyae.run fl .curve = .ok (fl, Vbsyae.listRow ((List.range (2 * (fl.rows + fl.cols) + 1)).map fun h => (Vbsyae.best fl h).1 * (Vbsyae.best fl h).2)) := rfl
    rw [hrun] at q
    have hev : Evl.EvL (tLc (iRng1 (tCons (tOp (rI0 fun i j => V.int (i + j)) (tVar 2) (tC (V.int 1))) tNil)) (gName 4) tYes (tCal (sp_most_cells A) E0 (tCons (tVar 0) (tCons (tVar 4) tNil))) [4]) [some (.ref a), some (.ref g), some (.int (2 * ((fl.rows : Int) + (fl.cols : Int)))), none, none] H
        (Evl.given (2 * (fl.rows + fl.cols) + 1) (fun _ => true) fun h => V.int ((Vbsyae.best fl h).1 * (Vbsyae.best fl h).2 : Nat)) := by
      have := Evl.el_lcR1 (H := H) (σ := [some (.ref a), some (.ref g), some (.int (2 * ((fl.rows : Int) + (fl.cols : Int)))), none, none]) (ta := tCons (tOp (rI0 fun i j => V.int (i + j)) (tVar 2) (tC (V.int 1))) tNil) (t := tYes) (te := tCal (sp_most_cells A) E0 (tCons (tVar 0) (tCons (tVar 4) tNil))) (j := 4) (vs := [4]) (n := ((2 * (fl.rows + fl.cols) + 1 : Nat) : Int)) (fun _ => true) (fun h => V.int ((Vbsyae.best fl h).1 * (Vbsyae.best fl h).2 : Nat))
        (by rw [← en]; exact Evl.ea_cons (Evl.ev_op (Evl.ev_var rfl) Evl.ev_c Evl.rv_I0) Evl.ea_nil) (by omega) (fun x => rfl) (fun i H1 e hi => fun H2 e2 Q2 q2 => q2 H2 (Evl.Ex.refl H2))
        (fun i H1 e hi _ => ev_cal (Evl.ea_cons (Evl.ev_var rfl) (Evl.ea_cons (Evl.ev_var rfl) Evl.ea_nil)) fun H2 e2 Q2 q2 E2 => ⟨a, fl, i, rfl, (hF.on (e.trans e2)).at, fun H3 s3 => q2 H3 s3⟩)
      rw [Int.toNat_natCast] at this
      exact this
    rw [given_all] at hev
    dsimp only [gName, tSeq, tAsg, L2.start]
    refine hev H (Evl.Ex.refl H) _ fun p H2 np e2 h2 => ?_
    have hlen : ((List.range (2 * (fl.rows + fl.cols) + 1)).map fun h => V.int ((Vbsyae.best fl h).1 * (Vbsyae.best fl h).2 : Nat)).length = 2 * (fl.rows + fl.cols) + 1 := by
      rw [List.length_map, List.length_range]
    refine ⟨_, rfl, p, _, rfl, .inl (SqL.of h2), (by show 1 ≤ sizeLine; decide), fun p1 n1 => ?_⟩
    rw [hlen]
    have s3 := same_new (o := .lst [.int ((2 * (fl.rows + fl.cols) + 1 : Nat) : Int)]) n1
    refine ⟨_, rfl, p1, p, _, _, rfl, rfl, upd_same, s3 _ _ h2, ?_, fun p3 n3 => ?_⟩
    · rw [hlen]
      exact Nat.le_trans (show _ ≤ 100 by show 1 + _ ≤ 100; omega) (by decide)
    obtain ⟨h4, h5⟩ := ((hF.on e2).on s3).new (o := .lst ([.int ((2 * (fl.rows + fl.cols) + 1 : Nat) : Int)] ++ (List.range (2 * (fl.rows + fl.cols) + 1)).map fun h => V.int ((Vbsyae.best fl h).1 * (Vbsyae.best fl h).2 : Nat))) n3
    refine q _ _ rfl _ p3 h4 h5 (upd_same.trans ?_)
    unfold intsV Vbsyae.listRow VbsyCore.ints
    simp [List.map_map, Function.comp_def]
end
end HF
namespace HF
open PySem PySem.Spec PyProof.Rows L2
abbrev s_rounded_size : Stmt := top 56
theorem sc_rounded_size : FnScope ["field", "cells", "in_rows", "in_columns", "cell", "walls", "full_row", "full_column"] ["field", "cells"] (defScope s_rounded_size) := ⟨rfl, rfl, rfl, by decide +kernel, rfl, by decide +kernel, by decide +kernel⟩
abbrev s_answer_rounded : Stmt := top 80
theorem sc_answer_rounded : FnScope ["field", "given", "size"] ["field", "given"] (defScope s_answer_rounded) := ⟨rfl, rfl, rfl, by decide +kernel, rfl, by decide +kernel, by decide +kernel⟩
section
variable {P : Program} {w : World} {K : PySem.W.Frag} {mg : Str → Option Value} {base : Heap} {A : Ad}
theorem natsV_len (l : List Nat) : (natsV l).length = l.length := by
  unfold natsV
  rw [List.length_map]
theorem natsV_get {l : List Nat} {i x : Nat} (h : l[i]? = some x) : (natsV l)[i]? = some (.int x) := by
  unfold natsV
  rw [List.getElem?_map, h]
  rfl
theorem natsV_set (l : List Nat) (i x : Nat) : (natsV l).set i (.int x) = natsV (l.set i x) := by
  unfold natsV
  rw [List.map_set]
theorem rep_zero (n : Nat) : (List.replicate n ([V.int 0] : List V)).flatten = natsV (HFM.tally n []) := by
  rw [HFM.tally_nil]
  unfold natsV
  rw [List.map_replicate]
  induction n with
  | zero => rfl
  | succ n ih =>
    rw [List.replicate_succ, List.flatten_cons, ih]
    rfl
/-- l[i] += 1 of a tally -/
theorem st_tally {H : Hp} {r : Addr} {R : Nat} {m : List Nat} {q : Nat} {i : Int} {Q : Hp → Prop} (hr : H r = some (.lst (natsV (HFM.tally R m)))) (hi : i = (q : Int)) (hq : q < R) (k : Q (upd H r (.lst (natsV (HFM.tally R (m ++ [q])))))) :
    rIxL K (.ref r) (.int i) H fun x H3 => tC (V.int 1) [] H3 fun y H4 => ipI (fun i j => i + j) x y H4 fun z H5 => rSetL (.ref r) (.int i) z H5 Q := by
  subst hi
  have hg := HFM.tally_get (m := m) hq
  refine ⟨r, _, _, _, rfl, rfl, SqL.of hr, atI_nat (natsV_get hg), ?_⟩
  refine ⟨_, _, rfl, rfl, ?_⟩
  refine ⟨r, _, _, q, rfl, rfl, hr, Evl.ixN_nat (by rw [natsV_len, HFM.tally_len]; exact hq), ?_⟩
  have e : (natsV (HFM.tally R m)).set q (V.int (((m.count q : Nat) : Int) + 1)) = natsV (HFM.tally R (m ++ [q])) := by
    rw [HFM.tally_snoc hq, ← natsV_set]
    rfl
  rw [e]
  exact k
theorem ev_fld {σ : L2.St} {H : Hp} {ta : TE} {n : Str} {a C dx : Addr} {fs : List (Str × V)} {v : V} (h : Evl.Ev ta σ H (.ref a)) (ha : H a = some (.ins C dx fs)) (c : Cls K C) (no : NoAttr K C n) (l : fs.lookup n = some v) : Evl.Ev (tFld K ta n) σ H v := fun H1 e Q q =>
  h H1 e _ fun H2 e2 => ⟨a, C, dx, fs, v, rfl, e2 _ _ (e _ _ ha), c, no, l, q H2 e2⟩
def natI (l : List Nat) : List Int := l.map fun (n : Nat) => (n : Int)
theorem natI_V (l : List Nat) : (natI l).map V.int = natsV l := by
  unfold natI natsV
  rw [List.map_map]
  rfl
theorem natI_count (l : List Nat) : (natI l).count 0 = l.count 0 := by
  unfold natI
  induction l with
  | nil => rfl
  | cons x l ih =>
    rw [List.map_cons, List.count_cons, List.count_cons, ih]
    congr 1
    by_cases c : x = 0
    · subst c; rfl
    · have c' : ¬ (x : Int) = 0 := by omega
      simp [c]
theorem ev_count {σ : L2.St} {H : Hp} {ta te : TE} {r : Addr} {l : List Nat} {k : Int} (hr : H r = some (.lst (natsV l))) (h : Evl.Ev ta σ H (.ref r)) (he : Evl.Ev te σ H (.int k)) : Evl.Ev (tBM K "list" (rCntI K) ta (tCons te tNil)) σ H (.int ((natI l).count k : Nat)) := fun H1 e Q q =>
  h H1 e _ fun H2 e2 => ⟨.inl ⟨rfl, _, SqL.of (e2 _ _ (e _ _ hr))⟩, he H2 (e.trans e2) _ fun H3 e3 => ⟨r, natI l, k, rfl, rfl, by rw [natI_V]; exact SqL.of (e3 _ _ (e2 _ _ (e _ _ hr))), q H3 (e2.trans e3)⟩⟩
theorem wv_sum (b c : Bool) (x : Int) (h : x = (if b = true then 1 else 0) + if c = true then 1 else 0) : decide (x = 2) = (b && c) := by
  subst h
  cases b <;> cases c <;> rfl
def sp_rounded_size (A : Ad) (K : PySem.W.Frag) : Sp := fun vs H Q _ => ∃ (a p : Addr) (f : Vbsyae.Field) (l : List Nat), vs = [.ref a, .ref p] ∧ FieldAt A.cField H a f ∧ SqL K H p (natsV l) ∧ Cells f l ∧
  ∀ (H' : Hp) (t : Addr), Same H H' → H' t = some (.tup [.int (Vbsyae.rounded f l).1, .int (Vbsyae.rounded f l).2]) → Q (.ref t) H'
theorem ok_rounded_size {f : Addr} {fd : FuncData} (F : Fun K "rounded_size" "rounded_size" s_rounded_size f fd) (T : Txt K mg A) : FnOk P w K mg base CX0 1 f fd ["field", "cells"] (sp_rounded_size A K) := by
  refine F.ok sc_rounded_size (fun vs H Q E h => ?_) (fun cdv B outer s H vs Q E hr h => ?_)
  · obtain ⟨a, p, f, l, rfl, _⟩ := h
    rfl
  · obtain ⟨a, p, fl, l, rfl, hF, hp, hC, q⟩ := h
    refine ⟨_, (pss_cons (ps_set (i := 2) sc_rounded_size.nd rfl (Or.inl rfl) (pe_op op_rep (pe_lst (pa_cons pe_int pa_nil)) (pe_fld (pv 0) rfl)))
      (pss_cons (ps_set (i := 3) sc_rounded_size.nd rfl (Or.inl rfl) (pe_op op_rep (pe_lst (pa_cons pe_int pa_nil)) (pe_fld (pv 0) rfl)))
      (pss_cons (ps_for PassesOwn.never rfl (pi_list (pv 1)) (pg_name (i := 4) sc_rounded_size.nd rfl (Or.inl rfl))
      (pss_cons (ps_augS (pv 2) (pe_op op_fdivN (pv 4) (pe_fld (pv 0) rfl)) get_list pe_int ip_add set_list)
      (pss_one (ps_augS (pv 3) (pe_op op_modN (pv 4) (pe_fld (pv 0) rfl)) get_list pe_int ip_add set_list))))
      (pss_cons (ps_set (i := 5) sc_rounded_size.nd rfl (Or.inl rfl) (pe_fld (pv 0) rfl))
      (pss_cons (ps_set (i := 6) sc_rounded_size.nd rfl (Or.inl rfl) (pe_and (pe_cmpR op_eq (pe_op op_add (pe_ix ix_list (pv 5) (pe_gi T.RIGHT (by rfl)) (fun _ _ => rfl)) (pe_ix ix_list (pv 5) (pe_gi T.LEFT (by rfl)) (fun _ _ => rfl))) pe_int (nomark _)) (pe_one (pe_cmpR op_in_seq (pe_fld (pv 0) rfl) (pv 2) (by rfl)))))
      (pss_cons (ps_set (i := 7) sc_rounded_size.nd rfl (Or.inl rfl) (pe_and (pe_cmpR op_eq (pe_op op_add (pe_ix ix_list (pv 5) (pe_gi T.ABOVE (by rfl)) (fun _ _ => rfl)) (pe_ix ix_list (pv 5) (pe_gi T.BELOW (by rfl)) (fun _ _ => rfl))) pe_int (nomark _)) (pe_one (pe_cmpR op_in_seq (pe_fld (pv 0) rfl) (pv 3) (by rfl)))))
      (pss_cons (ps_if (PW.pt (pw_or (pt_val (pv 6)) (pw_or1 (pt_val (pv 7))))) (pss_one (ps_ret (pe_tup (pa_cons (pe_fld (pv 0) rfl) (pa_cons (pe_fld (pv 0) rfl) pa_nil))))) pss_nil)
      (pss_one (ps_ret (pe_tup (pa_cons (pe_op op_sub (pe_fld (pv 0) rfl) (pe_bm PySem.F.plainAttrs_list PySem.F.slot_list_count PySem.F.type_list_count mt_lcount (pv 2) (pa_cons pe_int pa_nil))) (pa_cons (pe_op op_sub (pe_fld (pv 0) rfl) (pe_bm PySem.F.plainAttrs_list PySem.F.slot_list_count PySem.F.type_list_count mt_lcount (pv 3) (pa_cons pe_int pa_nil))) pa_nil)))))))))))), ?_⟩
    have wf := hF.wf
    have hr8 := wf.r8
    have hc8 := wf.c8
    have hc1 := wf.c1
    have hpw := rise_pairwise hC.rise
    obtain ⟨dx, w, d, ds, X⟩ := FX.of hF
    refine ⟨(by show 1 ≤ sizeLine; decide), fun o1 n1 => ?_⟩
    have X1 := X.on (same_new (o := .lst [.int 0]) n1)
    refine ⟨_, rfl, a, A.cField, dx, _, _, rfl, X1.at_, T.clField, T.nRows, fF_rows _ _ _, o1, _, _, rfl, rfl, upd_same, by omega, by omega, ?_, fun r nr => ?_⟩
    · rw [Int.toNat_natCast]
      exact Nat.le_trans (show _ ≤ 8 by show 1 * _ ≤ 8; omega) (by decide)
    rw [Int.toNat_natCast, rep_zero]
    have s1 : Same H (upd (upd H o1 (.lst [.int 0])) r (.lst (natsV (HFM.tally fl.rows [])))) := (same_new n1).trans (same_new nr)
    have nrH : H r = none := (same_new n1).free nr
    have hr1 : (upd (upd H o1 (.lst [.int 0])) r (.lst (natsV (HFM.tally fl.rows [])))) r = some (.lst (natsV (HFM.tally fl.rows []))) := upd_same
    generalize upd (upd H o1 (.lst [.int 0])) r (.lst (natsV (HFM.tally fl.rows []))) = H1 at *
    have X2 := X.on s1
    refine ⟨(by show 1 ≤ sizeLine; decide), fun o2 n2 => ?_⟩
    have s2 := same_new (o := .lst [.int 0]) n2
    have X3 := X2.on s2
    refine ⟨_, rfl, a, A.cField, dx, _, _, rfl, X3.at_, T.clField, T.nColumns, fF_cols _ _ _, o2, _, _, rfl, rfl, upd_same, by omega, by omega, ?_, fun k nk => ?_⟩
    · rw [Int.toNat_natCast]
      exact Nat.le_trans (show _ ≤ 8 by show 1 * _ ≤ 8; omega) (by decide)
    rw [Int.toNat_natCast, rep_zero]
    have s3 : Same H1 (upd (upd H1 o2 (.lst [.int 0])) k (.lst (natsV (HFM.tally fl.cols [])))) := s2.trans (same_new nk)
    have nkH1 : H1 k = none := s2.free nk
    have nkH : H k = none := s1.free nkH1
    have nrk : r ≠ k := ne_of_none hr1 nkH1
    have hr3 := s3 _ _ hr1
    have hk3 : (upd (upd H1 o2 (.lst [.int 0])) k (.lst (natsV (HFM.tally fl.cols [])))) k = some (.lst (natsV (HFM.tally fl.cols []))) := upd_same
    have sH := s1.trans s3
    generalize upd (upd H1 o2 (.lst [.int 0])) k (.lst (natsV (HFM.tally fl.cols []))) = H3 at *
    dsimp only [gName, tSeq, L2.start]
    obtain ⟨Pv, hPv⟩ : ∃ Pv : Nat → L2.St → Hp → Prop, ∀ i σ H', Pv i σ H' ↔ ∃ (y4 : Option V), σ = [some (.ref a), some (.ref p), some (.ref r), some (.ref k), y4, none, none, none] ∧ Same H H' ∧ H' r = some (.lst (natsV (HFM.tally fl.rows ((l.take i).map (· / fl.cols))))) ∧ H' k = some (.lst (natsV (HFM.tally fl.cols ((l.take i).map (· % fl.cols))))) := ⟨_, fun _ _ _ => Iff.rfl⟩
    refine q_forL (a := p) (xs := natsV l) Pv (fun R h => ⟨_, rfl, h⟩) ((hPv _ _ _).mpr ⟨none, rfl, sH, hr3, hk3⟩) (fun i σ H' _ h5 => ?_) (fun i x σ H' hi h5 => ?_) (fun σ H' h5 => ?_)
    · obtain ⟨_, _, s5, _⟩ := (hPv _ _ _).mp h5
      exact s5.seq hp
    · obtain ⟨y4, rfl, s5, hr5, hk5⟩ := (hPv _ _ _).mp h5
      obtain ⟨c, hc, rfl⟩ := nats_get hi
      have hcl : c ∈ l := List.mem_of_getElem? hc
      have hlt := hC.lt c hcl
      have hq1 : c / fl.cols < fl.rows := Nat.div_lt_of_lt_mul (by unfold Vbsyae.cells at hlt; rw [Nat.mul_comm]; exact hlt)
      have hq2 : c % fl.cols < fl.cols := Nat.mod_lt _ (by omega)
      have X5 := X.on s5
      have et : l.take (i + 1) = l.take i ++ [c] := take_get hc
      refine ⟨_, rfl, _, rfl, _, rfl, a, A.cField, dx, _, _, rfl, X5.at_, T.clField, T.nColumns, fF_cols _ _ _, _, _, rfl, rfl, ⟨by omega, by omega⟩, ?_⟩
      refine st_tally (q := c / fl.cols) hr5 (fdiv_nat _ _) hq1 ?_
      have s6 : Same H (upd H' r (.lst (natsV (HFM.tally fl.rows ((l.take i).map (· / fl.cols) ++ [c / fl.cols]))))) := same_mut s5 nrH
      have hr6 : (upd H' r (.lst (natsV (HFM.tally fl.rows ((l.take i).map (· / fl.cols) ++ [c / fl.cols]))))) r = some (.lst (natsV (HFM.tally fl.rows ((l.take i).map (· / fl.cols) ++ [c / fl.cols])))) := upd_same
      have hk6 : (upd H' r (.lst (natsV (HFM.tally fl.rows ((l.take i).map (· / fl.cols) ++ [c / fl.cols]))))) k = some (.lst (natsV (HFM.tally fl.cols ((l.take i).map (· % fl.cols))))) := (upd_ne (Ne.symm nrk)).trans hk5
      generalize upd H' r (.lst (natsV (HFM.tally fl.rows ((l.take i).map (· / fl.cols) ++ [c / fl.cols])))) = H6 at *
      have X6 := X.on s6
      refine ⟨_, rfl, _, rfl, _, rfl, a, A.cField, dx, _, _, rfl, X6.at_, T.clField, T.nColumns, fF_cols _ _ _, _, _, rfl, rfl, by omega, ?_⟩
      refine st_tally (q := c % fl.cols) hk6 (fmod_nat _ _) hq2 ?_
      refine (hPv _ _ _).mpr ⟨_, rfl, same_mut s6 nkH, ?_, ?_⟩
      · rw [upd_ne nrk, hr6, et, List.map_append]
        rfl
      · rw [upd_same, et, List.map_append]
        rfl
    · obtain ⟨y4, rfl, s5, hr5, hk5⟩ := (hPv _ _ _).mp h5
      rw [natsV_len, List.take_length] at hr5 hk5
      have X5 := X.on s5
      have hW := X5.hw
      rw [walls4v wf] at hW
      have hfr : Vbsyae.fullRow fl l = ((Vbsyae.walled fl 1 && Vbsyae.walled fl 3) && (HFM.tally fl.rows (l.map (· / fl.cols))).contains fl.cols) := by
        rw [HFM.fullRow_eq (by omega) hpw, Bool.and_assoc]
      have hfc : Vbsyae.fullCol fl l = ((Vbsyae.walled fl 0 && Vbsyae.walled fl 2) && (HFM.tally fl.cols (l.map (· % fl.cols))).contains fl.rows) := by
        rw [HFM.fullCol_eq (by omega) hpw hC.lt, Bool.and_assoc]
      have hri := HFM.rowsIn (f := fl) (by omega) hpw
      have hci := HFM.colsIn (f := fl) (by omega) hpw hC.lt
      have hrz := (HFM.zeros fl.rows fun r => (l.map (· / fl.cols)).count r).2
      have hcz := (HFM.zeros fl.cols fun r => (l.map (· % fl.cols)).count r).2
      have hro : Vbsyae.rounded fl l = if Vbsyae.fullRow fl l = true ∨ Vbsyae.fullCol fl l = true then (fl.rows, fl.cols) else (fl.rows - (HFM.tally fl.rows (l.map (· / fl.cols))).count 0, fl.cols - (HFM.tally fl.cols (l.map (· % fl.cols))).count 0) := by
        rw [hri, hci]
        rfl
      rw [hro] at q
      have hrz' : (HFM.tally fl.rows (l.map (· / fl.cols))).count 0 ≤ fl.rows := hrz
      have hcz' : (HFM.tally fl.cols (l.map (· % fl.cols))).count 0 ≤ fl.cols := hcz
      have hrl : (HFM.tally fl.rows (l.map (· / fl.cols))).length = fl.rows := HFM.tally_len _ _
      generalize HFM.tally fl.rows (l.map (· / fl.cols)) = tr at *
      generalize HFM.tally fl.cols (l.map (· % fl.cols)) = tc at *
      show tSeq _ _ _ _ _
      refine Evl.q_asg (ev_fld (Evl.ev_var rfl) X5.at_ T.clField T.nWalls (fF_walls _ _ _)) fun H6 e6 => ?_
      have X6 := X5.on e6
      have hr6 := e6 _ _ hr5
      have hk6 := e6 _ _ hk5
      have hW6 := e6 _ _ hW
      refine Evl.q_asg (v := .bl (Vbsyae.fullRow fl l)) (Evl.ev_is (Evl.ev_andV (a := Vbsyae.walled fl 1 && Vbsyae.walled fl 3) (b := tr.contains fl.cols) (Evl.ev_is (Evl.ev_op (Evl.ev_op (Evl.ev_op (Evl.ev_var rfl) Evl.ev_c (Evl.rv_ixL (SqL.of hW6) rfl)) (Evl.ev_op (Evl.ev_var rfl) Evl.ev_c (Evl.rv_ixL (SqL.of hW6) rfl)) Evl.rv_I0) Evl.ev_c (Evl.rv_eq rfl)) ?_) fun _ => Evl.ev_is (Evl.ev_op (ev_fld (Evl.ev_var rfl) X6.at_ T.clField T.nColumns (fF_cols _ _ _)) (Evl.ev_var rfl) (Evl.rv_isL (SqL.of hr6) rfl (flat_nat _))) ?_) (by rw [hfr])) fun H7 e7 => ?_
      · exact congrArg V.bl ((by cases Vbsyae.walled fl 1 <;> cases Vbsyae.walled fl 3 <;> rfl))
      · exact congrArg V.bl (inV_nat _ _)
      have X7 := X6.on e7
      have hr7 := e7 _ _ hr6
      have hk7 := e7 _ _ hk6
      have hW7 := e7 _ _ hW6
      refine Evl.q_asg (v := .bl (Vbsyae.fullCol fl l)) (Evl.ev_is (Evl.ev_andV (a := Vbsyae.walled fl 0 && Vbsyae.walled fl 2) (b := tc.contains fl.rows) (Evl.ev_is (Evl.ev_op (Evl.ev_op (Evl.ev_op (Evl.ev_var rfl) Evl.ev_c (Evl.rv_ixL (SqL.of hW7) rfl)) (Evl.ev_op (Evl.ev_var rfl) Evl.ev_c (Evl.rv_ixL (SqL.of hW7) rfl)) Evl.rv_I0) Evl.ev_c (Evl.rv_eq rfl)) ?_) fun _ => Evl.ev_is (Evl.ev_op (ev_fld (Evl.ev_var rfl) X7.at_ T.clField T.nRows (fF_rows _ _ _)) (Evl.ev_var rfl) (Evl.rv_isL (SqL.of hk7) rfl (flat_nat _))) ?_) (by rw [hfc])) fun H8 e8 => ?_
      · exact congrArg V.bl ((by cases Vbsyae.walled fl 0 <;> cases Vbsyae.walled fl 2 <;> rfl))
      · exact congrArg V.bl (inV_nat _ _)
      have X8 := X7.on e8
      have hr8' := e8 _ _ hr7
      have hk8 := e8 _ _ hk7
      have s8 : Same H H8 := ((s5.trans e6).trans e7).trans e8
      clear hfr hfc
      refine Evl.q_when (b := Vbsyae.fullRow fl l || Vbsyae.fullCol fl l) (Evl.et_or (Evl.et_B (Evl.ev_var rfl)) fun _ => Evl.et_B (Evl.ev_var rfl)) (fun hb H9 e9 => ?_) (fun hb H9 e9 => ?_)
      · have X9 := X8.on e9
        rw [if_pos (by simpa using hb)] at q
        refine Evl.s_retU (Evl.eu_tup (Evl.ea_cons (ev_fld (Evl.ev_var rfl) X9.at_ T.clField T.nRows (fF_rows _ _ _)) (Evl.ea_cons (ev_fld (Evl.ev_var rfl) X9.at_ T.clField T.nColumns (fF_cols _ _ _)) Evl.ea_nil)) (by show 2 ≤ 100000; omega)) fun t HA nt eA ht => ?_
        exact q HA t ((s8.trans e9).trans eA) ht
      · have X9 := X8.on e9
        have hb' : ¬ (Vbsyae.fullRow fl l = true ∨ Vbsyae.fullCol fl l = true) := by
          rw [← Bool.or_eq_true, hb]
          exact Bool.false_ne_true
        rw [if_neg hb'] at q
        refine Evl.s_retU (Evl.eu_tup (vs := [.int ((fl.rows : Int) - ((natI tr).count 0 : Nat)), .int ((fl.cols : Int) - ((natI tc).count 0 : Nat))]) (Evl.ea_cons (Evl.ev_op (ev_fld (Evl.ev_var rfl) X9.at_ T.clField T.nRows (fF_rows _ _ _)) (ev_count (e9 _ _ hr8') (Evl.ev_var rfl) Evl.ev_c) Evl.rv_I0) (Evl.ea_cons (Evl.ev_op (ev_fld (Evl.ev_var rfl) X9.at_ T.clField T.nColumns (fF_cols _ _ _)) (ev_count (e9 _ _ hk8) (Evl.ev_var rfl) Evl.ev_c) Evl.rv_I0) Evl.ea_nil)) (by show 2 ≤ 100000; omega)) fun t HA nt eA ht => ?_
        refine q HA t ((s8.trans e9).trans eA) ?_
        rw [ht, natI_count, natI_count]
        dsimp only
        rw [Int.ofNat_sub hrz', Int.ofNat_sub hcz']
def cRounded : List Int → Option Vbsyae.Call := fun l => some (.rounded l)
theorem ok_answer_rounded {f : Addr} {fd : FuncData} (F : Fun K "answer_rounded" "answer_rounded" s_answer_rounded f fd) (T : Txt K mg A) (c_check_cells : Cal P w K mg base (L2.CX P w) 4 "check_cells" ["field", "cells"] (sp_check_cells A K)) (c_rounded_size : Cal P w K mg base CX0 1 "rounded_size" ["field", "cells"] (sp_rounded_size A K)) (c_rectangle_cost : Cal P w K mg base CX0 2 "rectangle_cost" ["field", "high", "wide"] (sp_rectangle_cost A)) : FnOk P w K mg base (L2.CX P w) 5 f fd ["field", "given"] (sp_ans A K cRounded) := by
  refine F.okX sc_answer_rounded (fun vs H Q E h => ?_) (fun cdv B outer s H vs Q E hr h => ?_)
  · obtain ⟨F, a, g, f, l, c, rfl, _⟩ := h
    rfl
  · obtain ⟨Fr, a, g, fl, l, c, rfl, hF, hg, hl, hc, q, er⟩ := h
    cases hc
    refine ⟨_, (pss_cons (ps_expr (pe_cal c_check_cells hr (by rfl) (passes_call (takes_of rfl rfl rfl rfl) fun _ _ _ _ h => h) (pa_cons (pv 0) (pa_cons (pv 1) pa_nil))))
      (pss_cons (ps_set (i := 2) sc_answer_rounded.nd rfl (Or.inl rfl) (pe_cal c_rounded_size (hr.mono (by decide)) (by rfl) pass0 (pa_cons (pv 0) (pa_cons (pv 1) pa_nil))))
      (pss_one (ps_ret (pe_lst (pa_cons (pe_ix ix_tup (pv 2) pe_int (fun _ _ => rfl)) (pa_cons (pe_ix ix_tup (pv 2) pe_int (fun _ _ => rfl)) (pa_cons (pe_cal c_rectangle_cost (hr.mono (by decide)) (by rfl) pass0 (pa_cons (pv 0) (pa_cons (pe_ix ix_tup (pv 2) pe_int (fun _ _ => rfl)) (pa_cons (pe_ix ix_tup (pv 2) pe_int (fun _ _ => rfl)) pa_nil)))) pa_nil)))))))), ?_⟩
    refine ⟨_, rfl, _, rfl, a, g, fl, l, rfl, hF.at, hg, fun hb => ?_, fun hb => ?_⟩
    rotate_left
    · refine er (-4) ?_ A.cWrongList (by simp [errs])
      unfold Vbsyae.run
      dsimp only
      rw [cellsIn_bad hb]
      rfl
    obtain ⟨e1, hC⟩ := cells_of hb
    have hrun : Vbsyae.run fl (.rounded l) = .ok (fl, VbsyCore.ints [(Vbsyae.rounded fl (l.map Int.toNat)).1, (Vbsyae.rounded fl (l.map Int.toNat)).2, Vbsyae.rectCost fl (Vbsyae.rounded fl (l.map Int.toNat)).1 (Vbsyae.rounded fl (l.map Int.toNat)).2]) := by
      unfold Vbsyae.run
      dsimp only
      rw [cellsIn_ok hb]
      rfl
    rw [hrun] at q
    rw [e1] at hg
    generalize l.map Int.toNat = m at *
    have hle := HFM.rounded_le (f := fl) m
    have hr8 := hF.wf.r8
    have hc8 := hF.wf.c8
    refine ⟨_, rfl, _, rfl, a, g, fl, m, rfl, hF.at, hg, hC, fun H1 t s1 ht => ?_⟩
    generalize Vbsyae.rounded fl m = bb at *
    obtain ⟨b1, b2⟩ := bb
    dsimp only at *
    simp only [tSeq, tIfS, tB, tVar, tRet, tRetN, tDrop, tAsg, gName, tOp, tC, tUn, rU, rI, rI0, tNext, tIf, tTest, tAnd, tOr, tNot, tAndV, tOrV, tNotV, tCons, tNil, tCal, tCalM, tCalC, tBase, tFld, sFld, sFldAug, L2.rAdd, tIsN, tNotN, rEq, rNe, scal_ii, scal_bb, scal_ss, scal_sn, scal_ns, scal_in, scal_ni, cxK, cxK2, tAug, ipI, L2.start, List.map_cons, List.map_nil, List.cons_append, List.nil_append, List.length_cons, List.length_nil, Nat.reduceAdd, Nat.reduceSub, List.replicate_zero, List.replicate_succ, List.append_nil, List.set_cons_zero, List.set_cons_succ, List.getElem?_cons_zero, List.getElem?_cons_succ, Option.some.injEq, exists_eq_left', exists_eq_left, exists_eq_right, exists_eq', V.int.injEq, V.bl.injEq, V.ref.injEq, V.str.injEq, HO.ins.injEq, and_assoc, true_and, and_true, exists_and_left, List.cons.injEq, exists_const, ne_eq, reduceCtorEq, not_false_eq_true, decide_true, decide_false, if_true, if_false, false_and, false_or, Bool.not_true, Bool.not_false, Bool.false_eq_true, tLst]
    refine st_ixT ht rfl ?_
    refine st_ixT ht rfl ?_
    refine st_ixT ht rfl ?_
    refine st_ixT ht rfl ?_
    refine ⟨a, fl, b1, b2, rfl, (hF.on s1).at, by omega, by omega, by decide, fun p np => ?_⟩
    obtain ⟨h4, h5⟩ := (hF.on s1).new (o := .lst [.int b1, .int b2, .int (Vbsyae.rectCost fl b1 b2)]) np
    exact q _ _ rfl _ p h4 h5 upd_same
end
end HF
namespace HF
open PySem PySem.Spec PyProof.Rows L2
abbrev s_day_cells : Stmt := top 17
theorem sc_day_cells : FnScope ["field", "day", "row", "column", "cells", "line", "along"] ["field", "day"] (defScope s_day_cells) := ⟨rfl, rfl, rfl, by decide +kernel, rfl, by decide +kernel, by decide +kernel⟩
abbrev s_place_told : Stmt := top 18
theorem sc_place_told : FnScope ["field", "cell", "side", "other"] ["field", "cell", "side"] (defScope s_place_told) := ⟨rfl, rfl, rfl, by decide +kernel, rfl, by decide +kernel, by decide +kernel⟩
abbrev s_day_places : Stmt := top 19
theorem sc_day_places : FnScope ["field", "day", "places", "cell", "side"] ["field", "day"] (defScope s_day_places) := ⟨rfl, rfl, rfl, by decide +kernel, rfl, by decide +kernel, by decide +kernel⟩
abbrev s_all_places : Stmt := top 20
theorem sc_all_places : FnScope ["field", "day"] ["field"] (defScope s_all_places) := ⟨rfl, rfl, rfl, by decide +kernel, rfl, by decide +kernel, by decide +kernel⟩
abbrev s_carried : Stmt := top 21
theorem sc_carried : FnScope ["standing", "needed", "place"] ["standing", "needed"] (defScope s_carried) := ⟨rfl, rfl, rfl, by decide +kernel, rfl, by decide +kernel, by decide +kernel⟩
abbrev s_carried_each : Stmt := top 22
theorem sc_carried_each : FnScope ["row_of_places", "found", "standing", "needed"] ["row_of_places"] (defScope s_carried_each) := ⟨rfl, rfl, rfl, by decide +kernel, rfl, by decide +kernel, by decide +kernel⟩
abbrev s_times_folded : Stmt := top 23
theorem sc_times_folded : FnScope ["field", "times", "day", "cell"] ["field"] (defScope s_times_folded) := ⟨rfl, rfl, rfl, by decide +kernel, rfl, by decide +kernel, by decide +kernel⟩
section
variable {P : Program} {w : World} {K : PySem.W.Frag} {mg : Str → Option Value} {base : Heap} {A : Ad}
theorem natsV_snoc (l : List Nat) (x : Nat) : natsV (l ++ [x]) = natsV l ++ [.int x] := by
  unfold natsV
  rw [List.map_append]
  rfl
/-! ### the cells of a day -/
/-- a day's fold within the field -/
def InF (f : Vbsyae.Field) (x : Vbsyae.Fold) : Prop := x.row + x.high ≤ f.rows ∧ x.col + x.wide ≤ f.cols
def sp_day_cells (A : Ad) : Sp := fun vs H Q _ => ∃ (a t : Addr) (f : Vbsyae.Field) (x : Vbsyae.Fold), vs = [.ref a, .ref t] ∧ FieldAt A.cField H a f ∧ H t = some (.tup (dayV x)) ∧ InF f x ∧
  ∀ (H' : Hp) (r : Addr), Same H H' → H r = none → H' r = some (.lst (natsV (HFM.dcells f x))) → Q (.ref r) H'
theorem ok_day_cells {f : Addr} {fd : FuncData} (F : Fun K "day_cells" "day_cells" s_day_cells f fd) (T : Txt K mg A) : FnOk P w K mg base CX0 1 f fd ["field", "day"] (sp_day_cells A) := by
  refine F.ok sc_day_cells (fun vs H Q E h => ?_) (fun cdv B outer s H vs Q E hr h => ?_)
  · obtain ⟨a, t, f, x, rfl, _⟩ := h
    rfl
  · obtain ⟨a, t, fl, x, rfl, hF, ht, ⟨hin1, hin2⟩, q⟩ := h
    refine ⟨_, (pss_cons (ps_set (i := 2) sc_day_cells.nd rfl (Or.inl rfl) (pe_ix ix_tup (pv 1) pe_int (fun _ _ => rfl)))
      (pss_cons (ps_set (i := 3) sc_day_cells.nd rfl (Or.inl rfl) (pe_ix ix_tup (pv 1) pe_int (fun _ _ => rfl)))
      (pss_cons (ps_set (i := 4) sc_day_cells.nd rfl (Or.inl rfl) (pe_lst pa_nil))
      (pss_cons (ps_for PassesOwn.never rfl (pi_range2 (by rfl) T.range (pa_cons (pv 2) (pa_cons (pe_op op_add (pv 2) (pe_ix ix_tup (pv 1) pe_int (fun _ _ => rfl))) pa_nil))) (pg_name (i := 5) sc_day_cells.nd rfl (Or.inl rfl))
      (pss_one (ps_for PassesOwn.never rfl (pi_range2 (by rfl) T.range (pa_cons (pv 3) (pa_cons (pe_op op_add (pv 3) (pe_ix ix_tup (pv 1) pe_int (fun _ _ => rfl))) pa_nil))) (pg_name (i := 6) sc_day_cells.nd rfl (Or.inl rfl))
      (pss_one (ps_expr (pe_bm PySem.F.plainAttrs_list PySem.F.slot_list_append PySem.F.type_list_append mt_append (pv 4) (pa_cons (pe_op op_add (pe_op op_mul (pv 5) (pe_fld (pv 0) rfl)) (pv 6)) pa_nil)))))))
      (pss_one (ps_ret (pv 4))))))), ?_⟩
    have wf := hF.wf
    have hr8 := wf.r8
    have hc8 := wf.c8
    obtain ⟨dx, w, d, ds, X⟩ := FX.of hF
    refine Evl.q_asg (Evl.ev_op (Evl.ev_var rfl) Evl.ev_c (Evl.rv_ixT (Evl.st_of ht) rfl)) fun H1 e1 => ?_
    refine Evl.q_asg (Evl.ev_op (Evl.ev_var rfl) Evl.ev_c (Evl.rv_ixT (Evl.st_of (e1 _ _ ht)) rfl)) fun H2 e2 => ?_
    refine Evl.q_asgL (Evl.el_lst Evl.ea_nil (by show 0 ≤ 100000; omega)) fun r H3 nr2 e3 h3 => ?_
    have s3 : Same H H3 := (e1.trans e2).trans e3
    have nr : H r = none := Evl.fresh_back (e1.trans e2) nr2
    have ht3 := s3 _ _ ht
    obtain ⟨Pv, hPv⟩ : ∃ Pv : Nat → L2.St → Hp → Prop, ∀ i σ H', Pv i σ H' ↔ ∃ (y5 y6 : Option V), σ = [some (.ref a), some (.ref t), some (.int x.row), some (.int x.col), some (.ref r), y5, y6] ∧ i ≤ x.high ∧ Same H H' ∧ H' r = some (.lst (natsV ((List.range i).flatMap fun i => HFM.lineC fl x i))) := ⟨_, fun _ _ _ => Iff.rfl⟩
    have el : ∀ i, (HFM.lineC fl x i).length ≤ x.wide := fun i => by unfold HFM.lineC; rw [List.length_map, List.length_range]; exact Nat.le_refl _
    dsimp only [tSeq]
    refine q_forR2 x.row (x.row + x.high) (by omega) (by omega) Pv (fun R h => ?_) ((hPv _ _ _).mpr ⟨none, none, rfl, Nat.zero_le _, s3, h3⟩) (fun i σ H' hi h5 => ?_) (fun σ H' h5 => ?_)
    · refine ⟨_, rfl, _, rfl, _, rfl, t, _, _, _, rfl, rfl, Evl.st_of ht3, rfl, _, _, rfl, rfl, ?_⟩
      exact h
    · obtain ⟨y5, y6, rfl, hih, s5, hr5⟩ := (hPv _ _ _).mp h5
      have ht5 := s5 _ _ ht
      obtain ⟨Pj, hPj⟩ : ∃ Pj : Nat → L2.St → Hp → Prop, ∀ j σ H', Pj j σ H' ↔ ∃ (y6 : Option V), σ = [some (.ref a), some (.ref t), some (.int x.row), some (.int x.col), some (.ref r), some (.int ((x.row + i : Nat) : Int)), y6] ∧ j ≤ x.wide ∧ Same H H' ∧ H' r = some (.lst (natsV (((List.range i).flatMap fun i => HFM.lineC fl x i) ++ (List.range j).map fun j => (x.row + i) * fl.cols + (x.col + j)))) := ⟨_, fun _ _ _ => Iff.rfl⟩
      refine q_forR2 x.col (x.col + x.wide) (by omega) (by omega) Pj (fun R h => ?_) ((hPj _ _ _).mpr ⟨_, rfl, Nat.zero_le _, s5, by simpa using hr5⟩) (fun j σ H2 hj h6 => ?_) (fun σ H2 h6 => ?_)
      · refine ⟨_, rfl, _, rfl, _, rfl, t, _, _, _, rfl, rfl, Evl.st_of ht5, rfl, _, _, rfl, rfl, ?_⟩
        exact h
      · obtain ⟨y6, rfl, hjw, s6, hr6⟩ := (hPj _ _ _).mp h6
        have X6 := X.on s6
        have hlen : (natsV (((List.range i).flatMap fun i => HFM.lineC fl x i) ++ (List.range j).map fun j => (x.row + i) * fl.cols + (x.col + j))).length ≤ 72 := by
          rw [natsV_len, List.length_append, List.length_map, List.length_range]
          have h1 : ((List.range i).flatMap fun i => HFM.lineC fl x i).length ≤ x.wide * (List.range i).length := flat_len el
          rw [List.length_range] at h1
          have h2 : x.wide * i ≤ 8 * 8 := Nat.mul_le_mul (by omega) (by omega)
          omega
        refine ⟨_, rfl, .inl ⟨rfl, _, SqL.of hr6⟩, _, rfl, _, rfl, a, A.cField, dx, _, _, rfl, X6.at_, T.clField, T.nColumns, fF_cols _ _ _, _, _, rfl, rfl, Or.inl ⟨by omega, by omega⟩, _, rfl, _, _, rfl, rfl, r, _, _, rfl, rfl, hr6, Nat.lt_of_le_of_lt hlen (by decide), ?_⟩
        refine (hPj _ _ _).mpr ⟨_, rfl, by omega, same_mut s6 nr, upd_same.trans ?_⟩
        have en : (((x.row + i : Nat) : Int) * (fl.cols : Int) + ((x.col + j : Nat) : Int)) = (((x.row + i) * fl.cols + (x.col + j) : Nat) : Int) := by simp
        dsimp only
        rw [en, List.range_succ, List.map_append, ← List.append_assoc]
        exact congrArg (fun z => some (HO.lst z)) (natsV_snoc _ _).symm
      · obtain ⟨y6, rfl, hjw, s6, hr6⟩ := (hPj _ _ _).mp h6
        refine (hPv _ _ _).mpr ⟨_, _, rfl, by omega, s6, hr6.trans ?_⟩
        rw [Nat.add_sub_cancel_left, List.range_succ, List.flatMap_append, List.flatMap_singleton]
        rfl
    · obtain ⟨y5, y6, rfl, hih, s5, hr5⟩ := (hPv _ _ _).mp h5
      rw [Nat.add_sub_cancel_left] at hr5
      exact ⟨_, rfl, q H' r s5 nr hr5⟩
/-! ### places -/
def sp_place_told (A : Ad) : Sp := fun vs H Q _ => ∃ (a : Addr) (f : Vbsyae.Field) (c s : Nat), vs = [.ref a, .int c, .int s] ∧ FieldAt A.cField H a f ∧ s < 4 ∧
  ∀ (H' : Hp) (t : Addr), Same H H' → H t = none → H' t = some (.tup [.int (HFM.told f (c, s)).1, .int (HFM.told f (c, s)).2]) → Q (.ref t) H'
theorem ok_place_told {f : Addr} {fd : FuncData} (F : Fun K "place_told" "place_told" s_place_told f fd) (T : Txt K mg A) (c_cell_beyond : Cal P w K mg base CX0 1 "cell_beyond" ["field", "cell", "side"] (sp_cell_beyond A)) : FnOk P w K mg base CX0 2 f fd ["field", "cell", "side"] (sp_place_told A) := by
  refine F.ok sc_place_told (fun vs H Q E h => ?_) (fun cdv B outer s H vs Q E hr h => ?_)
  · obtain ⟨a, f, c, x, rfl, _⟩ := h
    rfl
  · obtain ⟨a, fl, c, sd, rfl, hF, hs, q⟩ := h
    refine ⟨_, (pss_cons (ps_set (i := 3) sc_place_told.nd rfl (Or.inl rfl) (pe_cal c_cell_beyond hr (by rfl) pass0 (pa_cons (pv 0) (pa_cons (pv 1) (pa_cons (pv 2) pa_nil)))))
      (pss_cons (ps_if (PW.pt (pw_and (pt_cmpR op_eq (pv 2) (pe_gi T.RIGHT (by rfl)) (nomark _)) (pw_and1 (pt_cmpR op_notN (pv 3) pe_non (nomark _))))) (pss_one (ps_ret (pe_tup (pa_cons (pv 3) (pa_cons (pe_gi T.LEFT (by rfl)) pa_nil))))) pss_nil)
      (pss_cons (ps_if (PW.pt (pw_and (pt_cmpR op_eq (pv 2) (pe_gi T.BELOW (by rfl)) (nomark _)) (pw_and1 (pt_cmpR op_notN (pv 3) pe_non (nomark _))))) (pss_one (ps_ret (pe_tup (pa_cons (pv 3) (pa_cons (pe_gi T.ABOVE (by rfl)) pa_nil))))) pss_nil)
      (pss_one (ps_ret (pe_tup (pa_cons (pv 1) (pa_cons (pv 2) pa_nil)))))))), ?_⟩
    simp only [tSeq, tIfS, tB, tVar, tRet, tRetN, tDrop, tAsg, gName, tOp, tC, tUn, rU, rI, rI0, tNext, tIf, tTest, tAnd, tOr, tNot, tAndV, tOrV, tNotV, tCons, tNil, tCal, tCalM, tCalC, tBase, tFld, sFld, sFldAug, L2.rAdd, tIsN, tNotN, rEq, rNe, scal_ii, scal_bb, scal_ss, scal_sn, scal_ns, scal_in, scal_ni, cxK, cxK2, tAug, ipI, L2.start, List.map_cons, List.map_nil, List.cons_append, List.nil_append, List.length_cons, List.length_nil, Nat.reduceAdd, Nat.reduceSub, List.replicate_zero, List.replicate_succ, List.append_nil, List.set_cons_zero, List.set_cons_succ, List.getElem?_cons_zero, List.getElem?_cons_succ, Option.some.injEq, exists_eq_left', exists_eq_left, exists_eq_right, exists_eq', V.int.injEq, V.bl.injEq, V.ref.injEq, V.str.injEq, HO.ins.injEq, and_assoc, true_and, and_true, exists_and_left, List.cons.injEq, exists_const, ne_eq, reduceCtorEq, not_false_eq_true, decide_true, decide_false, if_true, if_false, false_and, false_or, Bool.not_true, Bool.not_false, Bool.false_eq_true, tTup]
    refine ⟨a, fl, c, sd, rfl, hF, hs, ?_⟩
    have h4 : sd = 0 ∨ sd = 1 ∨ sd = 2 ∨ sd = 3 := by omega
    unfold HFM.told at q
    dsimp only at q
    rcases h4 with rfl | rfl | rfl | rfl
    · simp at q ⊢
      exact ⟨by decide, fun t nt => q _ t (same_new nt) nt upd_same⟩
    · cases hb : Vbsyae.beyond fl c 1 with
      | none =>
        rw [hb] at q
        simp [optV] at q ⊢
        exact ⟨by decide, fun t nt => q _ t (same_new nt) nt upd_same⟩
      | some d =>
        rw [hb] at q
        simp [optV] at q ⊢
        exact ⟨by decide, fun t nt => q _ t (same_new nt) nt upd_same⟩
    · cases hb : Vbsyae.beyond fl c 2 with
      | none =>
        rw [hb] at q
        simp [optV] at q ⊢
        exact ⟨by decide, fun t nt => q _ t (same_new nt) nt upd_same⟩
      | some d =>
        rw [hb] at q
        simp [optV] at q ⊢
        exact ⟨by decide, fun t nt => q _ t (same_new nt) nt upd_same⟩
    · simp at q ⊢
      exact ⟨by decide, fun t nt => q _ t (same_new nt) nt upd_same⟩
/-! ### the dict of a day's places -/
def keyT (p : Nat × Nat) : List Key := [Sum.inl (p.1 : Int), Sum.inl (p.2 : Int)]
def dictT (ps : List (Nat × Nat)) : List (List Key × V) := ps.map fun p => (keyT p, V.bl true)
theorem keyT_inj {p q : Nat × Nat} (h : keyT p = keyT q) : p = q := by
  obtain ⟨a, b⟩ := p
  obtain ⟨c, d⟩ := q
  unfold keyT at h
  injection h with h1 h2
  injection h2 with h2 h3
  have e1 := Sum.inl.inj h1
  have e2 := Sum.inl.inj h2
  dsimp only at e1 e2
  have : a = c := by omega
  have : b = d := by omega
  subst_vars
  rfl
theorem keyT_V (p : Nat × Nat) : (keyT p).map kV = [.int p.1, .int p.2] := rfl
theorem dictT_val (ps : List (Nat × Nat)) (p : Nat × Nat) : (valV (dictT ps) (keyT p)).isSome = ps.contains p := by
  rw [← valV_any]
  unfold dictT
  rw [List.any_map, Bool.eq_iff_iff, List.any_eq_true, List.contains_iff_mem]
  constructor
  · rintro ⟨x, hx, h⟩
    have : x = p := keyT_inj (of_decide_eq_true h)
    rw [← this]
    exact hx
  · intro h
    exact ⟨p, h, decide_eq_true rfl⟩
theorem dictT_put {ps : List (Nat × Nat)} {p : Nat × Nat} (h : p ∉ ps) : putK (dictT ps) (keyT p) (V.bl true) = dictT (ps ++ [p]) := by
  have hn : valV (dictT ps) (keyT p) = none := by
    rw [← Option.not_isSome_iff_eq_none, dictT_val]
    simpa using h
  rw [putK_new _ hn]
  unfold dictT
  rw [List.map_append]
  rfl
theorem pair_rise : ∀ {l : List Nat}, l.Pairwise (· < ·) → Vbsyae.isRising l = true
  | [], _ => rfl
  | a :: l, h => by
    obtain ⟨h1, h2⟩ := List.pairwise_cons.mp h
    exact rise_cons (pair_rise h2) h1
theorem dcells_cells {f : Vbsyae.Field} {x : Vbsyae.Fold} (w : Wf f) (hi : InF f x) : Cells f (HFM.dcells f x) := by
  have hk : 0 < f.cols := by have := w.c1; omega
  refine ⟨pair_rise (HFM.dcells_pair hi.2), fun c hc => ?_⟩
  rw [← HFM.dcells_eq hk hi.1 hi.2] at hc
  unfold Vbsyae.foldCells at hc
  exact List.mem_range.mp (List.mem_filter.mp hc).1
/-- the places of a day -/
def foldT (f : Vbsyae.Field) (x : Vbsyae.Fold) : List (Nat × Nat) := HFM.tolds f (HFM.dcells f x)
theorem foldT_len {f : Vbsyae.Field} {x : Vbsyae.Fold} (w : Wf f) (hi : InF f x) : (foldT f x).length ≤ 256 := by
  have hC := dcells_cells w hi
  unfold foldT HFM.tolds
  rw [List.length_map, sides_eq hC]
  have h1 : (needAll f (HFM.dcells f x)).length ≤ 4 * (HFM.dcells f x).length := flat_len fun c => needAt_len f _ c
  have h2 := cells_len w hC
  omega
def sp_day_places (A : Ad) : Sp := fun vs H Q _ => ∃ (a t : Addr) (f : Vbsyae.Field) (x : Vbsyae.Fold), vs = [.ref a, .ref t] ∧ FieldAt A.cField H a f ∧ H t = some (.tup (dayV x)) ∧ InF f x ∧
  ∀ (H' : Hp) (r : Addr), Same H H' → H r = none → H' r = some (.dT (dictT (foldT f x))) → Q (.ref r) H'
theorem ok_day_places {f : Addr} {fd : FuncData} (F : Fun K "day_places" "day_places" s_day_places f fd) (T : Txt K mg A) (c_hurdles : Cal P w K mg base CX0 3 "hurdles" ["field", "cells"] (sp_hurdles A K)) (c_day_cells : Cal P w K mg base CX0 1 "day_cells" ["field", "day"] (sp_day_cells A)) (c_place_told : Cal P w K mg base CX0 2 "place_told" ["field", "cell", "side"] (sp_place_told A)) : FnOk P w K mg base CX0 4 f fd ["field", "day"] (sp_day_places A) := by
  refine F.ok sc_day_places (fun vs H Q E h => ?_) (fun cdv B outer s H vs Q E hr h => ?_)
  · obtain ⟨a, t, f, x, rfl, _⟩ := h
    rfl
  · obtain ⟨a, t, fl, x, rfl, hF, ht, hin, q⟩ := h
    refine ⟨_, (pss_cons (ps_set (i := 2) sc_day_places.nd rfl (Or.inl rfl) pe_dnewT)
      (pss_cons (ps_for PassesOwn.never rfl (pi_list (pe_cal c_hurdles hr (by rfl) pass0 (pa_cons (pv 0) (pa_cons (pe_cal c_day_cells (hr.mono (by decide)) (by rfl) pass0 (pa_cons (pv 0) (pa_cons (pv 1) pa_nil))) pa_nil)))) (pg_tup rfl (pgs_cons (pg_name (i := 3) sc_day_places.nd rfl (Or.inl rfl)) (pgs_cons (pg_name (i := 4) sc_day_places.nd rfl (Or.inl rfl)) pgs_nil)))
      (pss_one (ps_dput (hu_of hr) (pv 2) (pe_cal c_place_told (hr.mono (by decide)) (by rfl) pass0 (pa_cons (pv 0) (pa_cons (pv 3) (pa_cons (pv 4) pa_nil)))) pe_bl rfl)))
      (pss_one (ps_ret (pv 2))))), ?_⟩
    have wf := hF.wf
    have hk : 0 < fl.cols := by have := wf.c1; omega
    have hC := dcells_cells wf hin
    have hcl := cells_len wf hC
    intro r nr
    have s1 : Same H (upd H r (.dT [])) := same_new nr
    dsimp only [gName, tSeq, L2.start]
    refine ⟨_, rfl, _, rfl, _, rfl, a, t, fl, x, rfl, hF.on s1, s1 _ _ ht, hin, fun H1 c s2 nc hc => ?_⟩
    refine ⟨a, c, fl, _, rfl, (hF.on s1).on s2, SqL.of hc, hcl, fun H2 e es s3 ne he hes => ?_⟩
    rw [← sides_eq hC] at hes
    have hndT := HFM.tolds_nodup hk (HFM.dcells fl x)
    have hsl : (Vbsyae.sides fl (HFM.dcells fl x)).length ≤ 256 := by
      have := foldT_len wf hin
      unfold foldT HFM.tolds at this
      rw [List.length_map] at this
      exact this
    have hmem : ∀ z ∈ Vbsyae.sides fl (HFM.dcells fl x), z.2 < 4 := fun z hz => (HFM.mem_sides.mp hz).2.1
    unfold HFM.tolds at hndT
    have hfT : foldT fl x = (Vbsyae.sides fl (HFM.dcells fl x)).map (HFM.told fl) := rfl
    rw [hfT] at q
    generalize Vbsyae.sides fl (HFM.dcells fl x) = S at *
    have hr2 : H2 r = some (.dT []) := s3 _ _ (s2 _ _ upd_same)
    have nre : r ≠ e := fun z => by
      rw [← z, s2 _ _ upd_same] at ne
      cases ne
    obtain ⟨Pv, hPv⟩ : ∃ Pv : Nat → L2.St → Hp → Prop, ∀ i σ H', Pv i σ H' ↔ ∃ (y3 y4 : Option V), σ = [some (.ref a), some (.ref t), some (.ref r), y3, y4] ∧ Same H H' ∧ H' r = some (.dT (dictT ((S.take i).map (HFM.told fl)))) ∧ H' e = some (.lst es) ∧ PairsAt H' es S := ⟨_, fun _ _ _ => Iff.rfl⟩
    refine ⟨e, rfl, ⟨es, SqL.of he⟩, for_list (xs := es) Pv ((hPv _ _ _).mpr ⟨none, none, rfl, (s1.trans s2).trans s3, hr2, he, hes⟩) (fun i σ H' _ h5 => ?_) (fun i v σ H' hi h5 => ?_) (fun σ H' h5 => ?_)⟩
    · obtain ⟨_, _, _, _, _, he5, _⟩ := (hPv _ _ _).mp h5
      exact SqL.of he5
    · obtain ⟨y3, y4, rfl, s5, hr5, he5, hes5⟩ := (hPv _ _ _).mp h5
      obtain ⟨t0, z, rfl, hz, ht0⟩ := hes5.get hi
      have hzm := List.mem_of_getElem? hz
      have hil : i < S.length := (List.getElem?_eq_some_iff.mp hz).1
      refine ⟨t0, _, rfl, Or.inl (Or.inl ht0), rfl, _, _, rfl, _, _, rfl, rfl, ?_⟩
      refine ⟨_, rfl, _, rfl, _, rfl, _, rfl, a, fl, z.1, z.2, rfl, hF.on s5, hmem z hzm, fun H6 p s6 np hp6 => ?_⟩
      have hr6 := s6 _ _ hr5
      have hnot : HFM.told fl z ∉ (S.take i).map (HFM.told fl) := by
        have hsp : S.map (HFM.told fl) = (S.take i).map (HFM.told fl) ++ HFM.told fl z :: (S.drop (i + 1)).map (HFM.told fl) := by
          have h1 := List.take_append_drop i S
          have h2 : S.drop i = z :: S.drop (i + 1) := by
            obtain ⟨h1, h2⟩ := List.getElem?_eq_some_iff.mp hz
            rw [List.drop_eq_getElem_cons h1, h2]
          rw [h2] at h1
          conv => lhs; rw [← h1]
          rw [List.map_append, List.map_cons]
        rw [hsp] at hndT
        obtain ⟨_, _, h3⟩ := List.pairwise_append.mp hndT
        intro hm
        exact h3 _ hm _ (by simp) rfl
      refine ⟨r, _, rfl, DPut.t (k := keyT (HFM.told fl z)) hr6 (hp6.trans rfl) ?_, ?_⟩
      · unfold dictT
        rw [List.length_map, List.length_map, List.length_take]
        exact Nat.lt_of_le_of_lt (show _ ≤ 1000 by omega) (by decide)
      · rw [dictT_put hnot]
        have keep : ∀ b xs, H' b = some (.tup xs) → (upd H6 r (.dT (dictT ((S.take i).map (HFM.told fl) ++ [HFM.told fl z])))) b = some (.tup xs) := fun b xs e => by
          rw [upd_ne (ne_of (s6 _ _ e) hr6 (by intro q; cases q))]
          exact s6 _ _ e
        refine (hPv _ _ _).mpr ⟨_, _, rfl, same_mut (s5.trans s6) nr, upd_same.trans ?_, (upd_ne (Ne.symm nre)).trans (s6 _ _ he5), hes5.imp keep⟩
        rw [take_get hz, List.map_append]
        rfl
    · obtain ⟨y3, y4, rfl, s5, hr5, he5, hes5⟩ := (hPv _ _ _).mp h5
      rw [hes5.len, List.take_length] at hr5
      exact ⟨_, rfl, q H' r s5 nr hr5⟩
/-! ### the dicts of all days -/
def DictsAt (H : Hp) : List V → List (List (Nat × Nat)) → Prop
  | [], [] => True
  | v :: vs, x :: xs => (∃ t, v = .ref t ∧ H t = some (.dT (dictT x))) ∧ DictsAt H vs xs
  | _, _ => False
theorem DictsAt.len {H : Hp} : ∀ {vs : List V} {xs : List (List (Nat × Nat))}, DictsAt H vs xs → vs.length = xs.length
  | [], [], _ => rfl
  | v :: vs, x :: xs, h => congrArg (· + 1) (DictsAt.len h.2)
  | [], _ :: _, h => h.elim
  | _ :: _, [], h => h.elim
theorem DictsAt.imp {H H' : Hp} (k : ∀ t x, H t = some (.dT x) → H' t = some (.dT x)) : ∀ {vs : List V} {xs : List (List (Nat × Nat))}, DictsAt H vs xs → DictsAt H' vs xs
  | [], [], _ => trivial
  | v :: vs, x :: xs, h => ⟨let ⟨t, e, q⟩ := h.1; ⟨t, e, k _ _ q⟩, DictsAt.imp k h.2⟩
  | [], _ :: _, h => h.elim
  | _ :: _, [], h => h.elim
theorem DictsAt.on {H H' : Hp} {vs : List V} {xs : List (List (Nat × Nat))} (h : DictsAt H vs xs) (s : Same H H') : DictsAt H' vs xs := h.imp fun _ _ e => s _ _ e
theorem DictsAt.snoc {H : Hp} {t : Addr} {x : List (Nat × Nat)} (ht : H t = some (.dT (dictT x))) : ∀ {vs : List V} {xs : List (List (Nat × Nat))}, DictsAt H vs xs → DictsAt H (vs ++ [.ref t]) (xs ++ [x])
  | [], [], _ => ⟨⟨t, rfl, ht⟩, trivial⟩
  | v :: vs, y :: xs, h => ⟨h.1, DictsAt.snoc ht h.2⟩
  | [], _ :: _, h => h.elim
  | _ :: _, [], h => h.elim
theorem DictsAt.get {H : Hp} : ∀ {vs : List V} {xs : List (List (Nat × Nat))} {i : Nat} {x : List (Nat × Nat)}, DictsAt H vs xs → xs[i]? = some x → ∃ t, vs[i]? = some (.ref t) ∧ H t = some (.dT (dictT x))
  | [], [], i, x, _, e => by simp at e
  | v :: vs, y :: xs, 0, x, h, e => by
    obtain ⟨⟨t, rfl, q⟩, _⟩ := h
    cases e
    exact ⟨t, rfl, q⟩
  | v :: vs, y :: xs, i + 1, x, h, e => DictsAt.get (i := i) h.2 (by simpa using e)
  | [], _ :: _, _, _, h, _ => h.elim
  | _ :: _, [], _, _, h, _ => h.elim
theorem DictsAt.get2 {H : Hp} {vs : List V} {xs : List (List (Nat × Nat))} {i : Nat} {v : V} (h : DictsAt H vs xs) (e : vs[i]? = some v) : ∃ t x, v = .ref t ∧ xs[i]? = some x ∧ H t = some (.dT (dictT x)) := by
  have hi : i < xs.length := by rw [← h.len]; exact (List.getElem?_eq_some_iff.mp e).1
  have hx : xs[i]? = some xs[i] := List.getElem?_eq_getElem hi
  obtain ⟨t, h1, h2⟩ := h.get hx
  rw [e] at h1
  exact ⟨t, _, Option.some.inj h1, hx, h2⟩
def sp_all_places (A : Ad) : Sp := fun vs H Q _ => ∃ (a : Addr) (f : Vbsyae.Field), vs = [.ref a] ∧ FieldAt A.cField H a f ∧
  ∀ (H' : Hp) (r : Addr) (vs : List V), Same H H' → H r = none → H' r = some (.lst vs) → DictsAt H' vs (f.days.map (foldT f)) → Q (.ref r) H'
theorem ok_all_places {f : Addr} {fd : FuncData} (F : Fun K "all_places" "all_places" s_all_places f fd) (T : Txt K mg A) (c_day_places : Cal P w K mg base CX0 4 "day_places" ["field", "day"] (sp_day_places A)) : FnOk P w K mg base CX0 5 f fd ["field"] (sp_all_places A) := by
  refine F.ok sc_all_places (fun vs H Q E h => ?_) (fun cdv B outer s H vs Q E hr h => ?_)
  · obtain ⟨a, f, rfl, _⟩ := h
    rfl
  · obtain ⟨a, fl, rfl, hF, q⟩ := h
    refine ⟨_, (pss_one (ps_ret (pe_lc (own := [("day", 1)]) (g := gName 1) (tt := tYes) (by rfl) sc_all_places.nd (pi_list (pe_fld (pv 0) rfl)) (blkOk_by (own := [("day", 1)]) (N := ["field", "day"]) (sc := defScope s_all_places) (by decide +kernel)) (fun _ _ _ _ _ => (pg_name (i := 1) sc_all_places.nd rfl (Or.inl rfl))) (fun _ _ _ _ _ => pts_nil) (fun _ _ _ _ _ => (pe_cal c_day_places hr (by rfl) pass0 (pa_cons (pv 0) (pa_cons (pv 1) pa_nil))))))), ?_⟩
    have wf := hF.wf
    have hd20 := wf.d20
    obtain ⟨dx, w, d, ds, X⟩ := FX.of hF
    refine ⟨_, rfl, a, A.cField, dx, _, _, rfl, X.at_, T.clField, T.nDays, fF_days _ _ _, d, rfl, ⟨ds, SqL.of X.hd⟩, fun D nD => ?_⟩
    obtain ⟨Pv, hPv⟩ : ∃ Pv : Nat → Hp → Prop, ∀ i H', Pv i H' ↔ ∃ vs : List V, i ≤ fl.days.length ∧ Same H H' ∧ H' D = some (.lst vs) ∧ DictsAt H' vs ((fl.days.take i).map (foldT fl)) := ⟨_, fun _ _ => Iff.rfl⟩
    refine lc_list (xs := ds) Pv ((hPv _ _).mpr ⟨[], Nat.zero_le _, same_new nD, upd_same, trivial⟩) (fun i H' _ h5 => ?_) (fun i v H' hi h5 => ?_) (fun H' h5 => ?_)
    · obtain ⟨_, _, s5, _⟩ := (hPv _ _).mp h5
      exact SqL.of (s5 _ _ X.hd)
    · obtain ⟨vs, hil, s5, hD5, hds⟩ := (hPv _ _).mp h5
      have hilt : i < fl.days.length := by rw [← X.hds.len]; exact (List.getElem?_eq_some_iff.mp hi).1
      have hx : fl.days[i]? = some fl.days[i] := List.getElem?_eq_getElem hilt
      obtain ⟨t, ht1, ht2⟩ := X.hds.get hx
      rw [hi] at ht1
      cases ht1
      have hin : InF fl fl.days[i] := by
        have := wf.inn _ (List.getElem_mem hilt)
        exact ⟨this.1, this.2.1⟩
      refine ⟨rfl, ?_⟩
      refine ⟨_, rfl, _, rfl, a, t, fl, _, rfl, hF.on s5, s5 _ _ ht2, hin, fun H6 r s6 nr hr6 => ?_⟩
      have hD6 := s6 _ _ hD5
      refine ⟨vs, hD6, ?_, ?_⟩
      · rw [hds.len, List.length_map, List.length_take]
        exact Nat.lt_of_le_of_lt (show _ ≤ 20 by omega) (by decide)
      · have nDr : D ≠ r := ne_of_none hD5 nr
        refine (hPv _ _).mpr ⟨vs ++ [.ref r], hilt, same_mut (s5.trans s6) nD, upd_same, ?_⟩
        rw [take_get hx, List.map_append]
        have keep : ∀ b x, H' b = some (.dT x) → (upd H6 D (.lst (vs ++ [.ref r]))) b = some (.dT x) := fun b x e => by
          rw [upd_ne (ne_of (s6 _ _ e) hD6 (by intro q; cases q))]
          exact s6 _ _ e
        exact (hds.imp keep).snoc (by rw [upd_ne (Ne.symm nDr)]; exact hr6)
    · obtain ⟨vs, hil, s5, hD5, hds⟩ := (hPv _ _).mp h5
      rw [X.hds.len, List.take_length] at hds
      exact q H' D vs s5 nD hD5 hds
end
end HF
namespace HF
open PySem PySem.Spec PyProof.Rows L2
section
variable {P : Program} {w : World} {K : PySem.W.Frag} {mg : Str → Option Value} {base : Heap} {A : Ad}
def sp_carried : Sp := fun vs H Q _ => ∃ (s n : Addr) (ps qs : List (Nat × Nat)), vs = [.ref s, .ref n] ∧ H s = some (.dT (dictT ps)) ∧ H n = some (.dT (dictT qs)) ∧ qs.length ≤ 256 ∧ ∀ H', Same H H' → Q (.int (HFM.cnt ps qs : Nat)) H'
theorem cnt_take {ps qs : List (Nat × Nat)} {i : Nat} {z : Nat × Nat} (h : qs[i]? = some z) : HFM.cnt ps (qs.take (i + 1)) = HFM.cnt ps (qs.take i) + (if ps.contains z = true then 0 else 1) := by
  unfold HFM.cnt
  rw [take_get h, List.filter_append, List.length_append]
  congr 1
  cases hz : ps.contains z <;> simp only [List.filter_cons, hz] <;> rfl
theorem ok_carried {f : Addr} {fd : FuncData} (F : Fun K "carried" "carried" s_carried f fd) (T : Txt K mg A) : FnOk P w K mg base CX0 1 f fd ["standing", "needed"] sp_carried := by
  refine F.ok sc_carried (fun vs H Q E h => ?_) (fun cdv B outer s H vs Q E hr h => ?_)
  · obtain ⟨s, n, ps, qs, rfl, _⟩ := h
    rfl
  · obtain ⟨sa, n, ps, qs, rfl, hs, hn, hq, q⟩ := h
    refine ⟨_, (pss_one (ps_ret (pe_callB call_len_seq (by rfl) T.len PySem.boot_len (pa_cons (pe_lock (pe_lc (own := [("place", 2)]) (g := gName 2) (by rfl) sc_carried.nd (pi_keys (pv 1)) (blkOk_by (own := [("place", 2)]) (N := ["standing", "needed", "place"]) (sc := defScope s_carried) (by decide +kernel)) (fun _ _ _ _ _ => (pg_name (i := 2) sc_carried.nd rfl (Or.inl rfl))) (fun _ _ _ _ _ => (pts_one (pt_cmp (pc_dnotin (hu_of hr) (pv 2) (pv 0))))) (fun _ _ _ _ _ => (pv 2)))) pa_nil)))), ?_⟩
    refine ⟨n, .dT (dictT qs), hn, trivial, fun od => ?_⟩
    have hs1 : Rd (upd H n (.frz od (.dT (dictT qs)))) sa (.dT (dictT ps)) := by
      by_cases c : sa = n
      · subst c
        rw [hs] at hn
        have e : HO.dT (dictT ps) = HO.dT (dictT qs) := Option.some.inj hn
        rw [e]
        exact .inr ⟨od, upd_same⟩
      · exact .inl ((upd_ne c).trans hs)
    have hn1 : (upd H n (.frz od (.dT (dictT qs)))) n = some (.frz od (.dT (dictT qs))) := upd_same
    have hold : ∀ b o, b ≠ n → H b = some o → (upd H n (.frz od (.dT (dictT qs)))) b = some o := fun b o hb e => (upd_ne hb).trans e
    generalize upd H n (.frz od (.dT (dictT qs))) = Hf at *
    refine ⟨_, rfl, n, od, rfl, .inr ⟨dictT qs, hn1, fun D nD => ?_⟩⟩
    have hlq : (dictT qs).length = qs.length := by unfold dictT; rw [List.length_map]
    obtain ⟨Pv, hPv⟩ : ∃ Pv : Nat → Hp → Prop, ∀ i H', Pv i H' ↔ ∃ acc : List V, acc.length = HFM.cnt ps (qs.take i) ∧ Same Hf H' ∧ H' D = some (.lst acc) := ⟨_, fun _ _ => Iff.rfl⟩
    refine lc_it (walk_keysT (d := n) (o := od) (kvs := dictT qs)) Pv ((hPv _ _).mpr ⟨[], rfl, same_new nD, upd_same⟩) (fun i H' _ h5 => ?_) (fun i x H' H2 hi h5 hy => ?_) (fun H' h5 => ?_)
    · obtain ⟨_, _, s5, _⟩ := (hPv _ _).mp h5
      exact s5 _ _ hn1
    · obtain ⟨acc, hacc, s5, hD5⟩ := (hPv _ _).mp h5
      obtain ⟨rfl, k, v, t, hk, rfl, ht⟩ := hy
      rw [hlq] at hi
      have hz : qs[i]? = some qs[i] := List.getElem?_eq_getElem hi
      have hke : (dictT qs)[i]? = some (keyT qs[i], V.bl true) := by
        unfold dictT
        rw [List.getElem?_map, hz]
        rfl
      rw [hke] at hk
      cases hk
      refine ⟨rfl, ?_⟩
      have hs5 : Rd H2 sa (.dT (dictT ps)) := by
        rcases hs1 with z | ⟨o, z⟩
        · exact .inl (s5 _ _ z)
        · exact .inr ⟨o, s5 _ _ z⟩
      refine ⟨_, rfl, _, rfl, sa, _, rfl, .inr ⟨dictT ps, keyT qs[i], t, hs5, rfl, ht, rfl⟩, _, rfl, ?_⟩
      rw [dictT_val]
      have hct := cnt_take (ps := ps) hz
      have hle : HFM.cnt ps (qs.take i) ≤ 256 := by
        unfold HFM.cnt
        refine Nat.le_trans (List.length_filter_le _ _) ?_
        rw [List.length_take]
        omega
      cases hc : ps.contains qs[i] with
      | true =>
        rw [hc] at hct
        refine iteF ((hPv _ _).mpr ⟨acc, by rw [hct]; exact hacc, s5, hD5⟩)
      | false =>
        rw [hc] at hct
        refine iteT ⟨_, rfl, acc, hD5, Nat.lt_of_le_of_lt (show _ ≤ 256 by omega) (by decide), (hPv _ _).mpr ⟨acc ++ [.ref t], ?_, same_mut s5 nD, upd_same⟩⟩
        rw [List.length_append, hacc, hct]
        rfl
    · obtain ⟨acc, hacc, s5, hD5⟩ := (hPv _ _).mp h5
      rw [hlq, List.take_length] at hacc
      have hn5 := s5 _ _ hn1
      have nDn : D ≠ n := fun z => by
        rw [z, hn1] at nD
        cases nD
      refine ⟨hn5, D, acc, rfl, .inl (SqL.of ((upd_ne nDn).trans hD5)), ?_⟩
      rw [hacc]
      refine q _ fun b o e => ?_
      by_cases c : b = n
      · subst c
        rw [upd_same, ← e, hn]
      · rw [upd_ne c]
        exact s5 _ _ (hold b o c e)
/-! ### day by day -/
theorem each_snoc (m : List (Nat × Nat)) : ∀ (ms : List (List (Nat × Nat))) (s : List (Nat × Nat)), HFM.each s (ms ++ [m]) = HFM.each s ms ++ [HFM.cnt (ms.getLast?.getD s) m]
  | [], s => rfl
  | x :: ms, s => by
    show HFM.cnt s x :: HFM.each x (ms ++ [m]) = HFM.cnt s x :: (HFM.each x ms ++ [_])
    rw [each_snoc m ms x]
    congr 3
    cases ms with
    | nil => rfl
    | cons y ms => rw [List.getLast?_cons_cons]; cases h : (y :: ms).getLast? <;> simp_all
def sp_carried_each (K : PySem.W.Frag) : Sp := fun vs H Q _ => ∃ (r : Addr) (us : List V) (pss : List (List (Nat × Nat))), vs = [.ref r] ∧ H r = some (.lst us) ∧ DictsAt H us pss ∧ (∀ ps ∈ pss, ps.length ≤ 256) ∧ pss.length ≤ 2000 ∧
  ∀ (H' : Hp) (p : Addr), Same H H' → H p = none → H' p = some (.lst (natsV (HFM.each [] pss))) → Q (.ref p) H'
theorem ok_carried_each {f : Addr} {fd : FuncData} (F : Fun K "carried_each" "carried_each" s_carried_each f fd) (T : Txt K mg A) (c_carried : Cal P w K mg base CX0 1 "carried" ["standing", "needed"] sp_carried) : FnOk P w K mg base CX0 2 f fd ["row_of_places"] (sp_carried_each K) := by
  refine F.ok sc_carried_each (fun vs H Q E h => ?_) (fun cdv B outer s H vs Q E hr h => ?_)
  · obtain ⟨r, us, pss, rfl, _⟩ := h
    rfl
  · obtain ⟨r, us, pss, rfl, hr0, hds, hps, hpl, q⟩ := h
    refine ⟨_, (pss_cons (ps_set (i := 1) sc_carried_each.nd rfl (Or.inl rfl) (pe_lst pa_nil))
      (pss_cons (ps_set (i := 2) sc_carried_each.nd rfl (Or.inl rfl) pe_dnewT)
      (pss_cons (ps_for PassesOwn.never rfl (pi_list (pv 0)) (pg_name (i := 3) sc_carried_each.nd rfl (Or.inl rfl))
      (pss_cons (ps_expr (pe_bm PySem.F.plainAttrs_list PySem.F.slot_list_append PySem.F.type_list_append mt_append (pv 1) (pa_cons (pe_cal c_carried hr (by rfl) pass0 (pa_cons (pv 2) (pa_cons (pv 3) pa_nil))) pa_nil)))
      (pss_one (ps_set (i := 2) sc_carried_each.nd rfl (Or.inl rfl) (pv 3)))))
      (pss_one (ps_ret (pv 1)))))), ?_⟩
    refine ⟨(by show 0 ≤ sizeLine; decide), fun p np => fun st nst => ?_⟩
    have s1 := same_new (o := .lst []) np
    have s2 := same_new (o := .dT []) nst
    have hp2 : (upd (upd H p (.lst [])) st (.dT [])) p = some (.lst []) := s2 _ _ upd_same
    have hst2 : (upd (upd H p (.lst [])) st (.dT [])) st = some (.dT []) := upd_same
    have sH := s1.trans s2
    generalize upd (upd H p (.lst [])) st (.dT []) = H2 at *
    dsimp only [gName, tSeq, L2.start]
    obtain ⟨Pv, hPv⟩ : ∃ Pv : Nat → L2.St → Hp → Prop, ∀ i σ H', Pv i σ H' ↔ ∃ (st : Addr) (y3 : Option V), σ = [some (.ref r), some (.ref p), some (.ref st), y3] ∧ Same H H' ∧ H' p = some (.lst (natsV (HFM.each [] (pss.take i)))) ∧ H' st = some (.dT (dictT ((pss.take i).getLast?.getD []))) := ⟨_, fun _ _ _ => Iff.rfl⟩
    refine q_forL (a := r) (xs := us) Pv (fun R h => ⟨_, rfl, h⟩) ((hPv _ _ _).mpr ⟨st, none, rfl, sH, hp2, hst2⟩) (fun i σ H' _ h5 => ?_) (fun i v σ H' hi h5 => ?_) (fun σ H' h5 => ?_)
    · obtain ⟨_, _, _, s5, _⟩ := (hPv _ _ _).mp h5
      exact SqL.of (s5 _ _ hr0)
    · obtain ⟨st, y3, rfl, s5, hp5, hst5⟩ := (hPv _ _ _).mp h5
      obtain ⟨t, m, rfl, hm, ht⟩ := (hds.on s5).get2 hi
      have hil : i < pss.length := (List.getElem?_eq_some_iff.mp hm).1
      refine ⟨_, rfl, .inl ⟨rfl, _, SqL.of hp5⟩, _, rfl, _, rfl, st, t, _, m, rfl, hst5, ht, hps m (List.mem_of_getElem? hm), fun H6 s6 => ?_⟩
      refine ⟨p, _, _, rfl, rfl, s6 _ _ hp5, ?_, ?_⟩
      · rw [natsV_len, HFM.each_len, List.length_take]
        exact Nat.lt_of_le_of_lt (show _ ≤ 2000 by omega) (by decide)
      · refine ⟨_, rfl, ?_⟩
        have npt : t ≠ p := ne_of (s6 _ _ ht) (s6 _ _ hp5) (by intro z; cases z)
        refine (hPv _ _ _).mpr ⟨t, _, rfl, same_mut (s5.trans s6) np, upd_same.trans ?_, (upd_ne npt).trans ((s6 _ _ ht).trans ?_)⟩
        · rw [take_get hm, each_snoc, natsV_snoc]
        · rw [take_get hm, List.getLast?_append]
          rfl
    · obtain ⟨st, y3, rfl, s5, hp5, hst5⟩ := (hPv _ _ _).mp h5
      rw [hds.len, List.take_length] at hp5
      exact ⟨_, rfl, q H' p s5 np hp5⟩
/-! ### how often -/
def sp_times (A : Ad) : Sp := fun vs H Q _ => ∃ (a : Addr) (f : Vbsyae.Field), vs = [.ref a] ∧ FieldAt A.cField H a f ∧
  ∀ (H' : Hp) (r : Addr), Same H H' → H r = none → H' r = some (.lst (natsV (HFM.tally (Vbsyae.cells f) (f.days.flatMap (HFM.dcells f))))) → Q (.ref r) H'
theorem ok_times {f : Addr} {fd : FuncData} (F : Fun K "times_folded" "times_folded" s_times_folded f fd) (T : Txt K mg A) (c_day_cells : Cal P w K mg base CX0 1 "day_cells" ["field", "day"] (sp_day_cells A)) : FnOk P w K mg base CX0 2 f fd ["field"] (sp_times A) := by
  refine F.ok sc_times_folded (fun vs H Q E h => ?_) (fun cdv B outer s H vs Q E hr h => ?_)
  · obtain ⟨a, f, rfl, _⟩ := h
    rfl
  · obtain ⟨a, fl, rfl, hF, q⟩ := h
    refine ⟨_, (pss_cons (ps_set (i := 1) sc_times_folded.nd rfl (Or.inl rfl) (pe_op op_rep (pe_lst (pa_cons pe_int pa_nil)) (pe_op op_mul (pe_fld (pv 0) rfl) (pe_fld (pv 0) rfl))))
      (pss_cons (ps_for PassesOwn.never rfl (pi_list (pe_fld (pv 0) rfl)) (pg_name (i := 2) sc_times_folded.nd rfl (Or.inl rfl))
      (pss_one (ps_for PassesOwn.never rfl (pi_list (pe_cal c_day_cells hr (by rfl) pass0 (pa_cons (pv 0) (pa_cons (pv 2) pa_nil)))) (pg_name (i := 3) sc_times_folded.nd rfl (Or.inl rfl))
      (pss_one (ps_augS (pv 1) (pv 3) get_list pe_int ip_add set_list)))))
      (pss_one (ps_ret (pv 1))))), ?_⟩
    have wf := hF.wf
    have hr8 := wf.r8
    have hc8 := wf.c8
    have hcl : Vbsyae.cells fl ≤ 64 := Nat.mul_le_mul hr8 hc8
    have ecl : ((fl.rows : Int) * (fl.cols : Int)) = ((Vbsyae.cells fl : Nat) : Int) := by
      unfold Vbsyae.cells
      simp
    obtain ⟨dx, w, d, ds, X⟩ := FX.of hF
    refine ⟨(by show 1 ≤ sizeLine; decide), fun o1 n1 => ?_⟩
    have X1 := X.on (same_new (o := .lst [.int 0]) n1)
    refine ⟨_, rfl, a, A.cField, dx, _, _, rfl, X1.at_, T.clField, T.nRows, fF_rows _ _ _, _, rfl, a, A.cField, dx, _, _, rfl, X1.at_, T.clField, T.nColumns, fF_cols _ _ _, _, _, rfl, rfl, Or.inl ⟨by omega, by omega⟩, o1, _, _, rfl, rfl, upd_same, ?_, ?_, ?_, fun r nr => ?_⟩
    · rw [ecl]; omega
    · rw [ecl]; omega
    · rw [ecl, Int.toNat_natCast]
      exact Nat.le_trans (show _ ≤ 64 by show 1 * _ ≤ 64; omega) (by decide)
    rw [ecl, Int.toNat_natCast, rep_zero]
    have s1 : Same H (upd (upd H o1 (.lst [.int 0])) r (.lst (natsV (HFM.tally (Vbsyae.cells fl) [])))) := (same_new n1).trans (same_new nr)
    have nrH : H r = none := (same_new n1).free nr
    have hr1 : (upd (upd H o1 (.lst [.int 0])) r (.lst (natsV (HFM.tally (Vbsyae.cells fl) [])))) r = some (.lst (natsV (HFM.tally (Vbsyae.cells fl) []))) := upd_same
    generalize upd (upd H o1 (.lst [.int 0])) r (.lst (natsV (HFM.tally (Vbsyae.cells fl) []))) = H1 at *
    dsimp only [gName, tSeq, L2.start]
    have X2 := X.on s1
    obtain ⟨Pv, hPv⟩ : ∃ Pv : Nat → L2.St → Hp → Prop, ∀ i σ H', Pv i σ H' ↔ ∃ (y2 y3 : Option V), σ = [some (.ref a), some (.ref r), y2, y3] ∧ Same H H' ∧ H' r = some (.lst (natsV (HFM.tally (Vbsyae.cells fl) ((fl.days.take i).flatMap (HFM.dcells fl))))) := ⟨_, fun _ _ _ => Iff.rfl⟩
    refine q_forL (a := d) (xs := ds) Pv (fun R h => ?_) ((hPv _ _ _).mpr ⟨none, none, rfl, s1, hr1⟩) (fun i σ H' _ h5 => ?_) (fun i v σ H' hi h5 => ?_) (fun σ H' h5 => ?_)
    · exact ⟨_, rfl, a, A.cField, dx, _, _, rfl, X2.at_, T.clField, T.nDays, fF_days _ _ _, h⟩
    · obtain ⟨_, _, _, s5, _⟩ := (hPv _ _ _).mp h5
      exact SqL.of (s5 _ _ X.hd)
    · obtain ⟨y2, y3, rfl, s5, hr5⟩ := (hPv _ _ _).mp h5
      have hilt : i < fl.days.length := by rw [← X.hds.len]; exact (List.getElem?_eq_some_iff.mp hi).1
      have hx : fl.days[i]? = some fl.days[i] := List.getElem?_eq_getElem hilt
      obtain ⟨t, ht1, ht2⟩ := X.hds.get hx
      rw [hi] at ht1
      cases ht1
      have hin : InF fl fl.days[i] := by
        have := wf.inn _ (List.getElem_mem hilt)
        exact ⟨this.1, this.2.1⟩
      have hC := dcells_cells wf hin
      generalize fl.days[i] = x at *
      refine ⟨_, rfl, _, rfl, a, t, fl, _, rfl, hF.on s5, s5 _ _ ht2, hin, fun H6 c s6 nc hc => ?_⟩
      have hr6 := s6 _ _ hr5
      have nrc : r ≠ c := ne_of_none hr5 nc
      obtain ⟨Pj, hPj⟩ : ∃ Pj : Nat → L2.St → Hp → Prop, ∀ j σ H', Pj j σ H' ↔ ∃ (y3 : Option V), σ = [some (.ref a), some (.ref r), some (.ref t), y3] ∧ Same H H' ∧ H' c = some (.lst (natsV (HFM.dcells fl x))) ∧ H' r = some (.lst (natsV (HFM.tally (Vbsyae.cells fl) ((fl.days.take i).flatMap (HFM.dcells fl) ++ (HFM.dcells fl x).take j)))) := ⟨_, fun _ _ _ => Iff.rfl⟩
      refine ⟨c, rfl, ⟨_, SqL.of hc⟩, for_list (xs := natsV (HFM.dcells fl x)) Pj ((hPj _ _ _).mpr ⟨_, rfl, s5.trans s6, hc, by simpa using hr6⟩) (fun j σ H7 _ h7 => ?_) (fun j v σ H7 hj h7 => ?_) (fun σ H7 h7 => ?_)⟩
      · obtain ⟨_, _, _, hc7, _⟩ := (hPj _ _ _).mp h7
        exact SqL.of hc7
      · obtain ⟨y3, rfl, s7, hc7, hr7⟩ := (hPj _ _ _).mp h7
        obtain ⟨z, hz, rfl⟩ := nats_get hj
        have hzl := hC.lt z (List.mem_of_getElem? hz)
        refine ⟨_, rfl, _, rfl, ?_⟩
        refine st_tally (q := z) hr7 rfl hzl ?_
        refine (hPj _ _ _).mpr ⟨_, rfl, same_mut s7 nrH, (upd_ne (Ne.symm nrc)).trans hc7, upd_same.trans ?_⟩
        rw [take_get hz, List.append_assoc]
      · obtain ⟨y3, rfl, s7, hc7, hr7⟩ := (hPj _ _ _).mp h7
        refine (hPv _ _ _).mpr ⟨_, _, rfl, s7, hr7.trans ?_⟩
        rw [natsV_len, List.take_length, take_get hx, List.flatMap_append, List.flatMap_singleton]
    · obtain ⟨y2, y3, rfl, s5, hr5⟩ := (hPv _ _ _).mp h5
      rw [X.hds.len, List.take_length] at hr5
      exact ⟨_, rfl, q H' r s5 nrH hr5⟩
end
end HF
namespace HF
open PySem PySem.Spec PyProof.Rows L2
abbrev s_check_day : Stmt := top 64
theorem sc_check_day : FnScope ["field", "day"] ["field", "day"] (defScope s_check_day) := ⟨rfl, rfl, rfl, by decide +kernel, rfl, by decide +kernel, by decide +kernel⟩
abbrev s_check_order : Stmt := top 65
theorem sc_check_order : FnScope ["field", "days"] ["field", "days"] (defScope s_check_order) := ⟨rfl, rfl, rfl, by decide +kernel, rfl, by decide +kernel, by decide +kernel⟩
abbrev s_check_days_in_table : Stmt := top 66
theorem sc_check_days_in_table : FnScope ["field"] ["field"] (defScope s_check_days_in_table) := ⟨rfl, rfl, rfl, by decide +kernel, rfl, by decide +kernel, by decide +kernel⟩
abbrev s_answer_plan : Stmt := top 81
theorem sc_answer_plan : FnScope ["field", "given", "places", "moved", "answered", "day", "fold"] ["field", "given"] (defScope s_answer_plan) := ⟨rfl, rfl, rfl, by decide +kernel, rfl, by decide +kernel, by decide +kernel⟩
abbrev s_answer_covered : Stmt := top 82
theorem sc_answer_covered : FnScope ["field", "given", "cell", "times"] ["field", "given"] (defScope s_answer_covered) := ⟨rfl, rfl, rfl, by decide +kernel, rfl, by decide +kernel, by decide +kernel⟩
abbrev s_answer_order : Stmt := top 83
theorem sc_answer_order : FnScope ["field", "given", "places", "moved", "day", "needed"] ["field", "given"] (defScope s_answer_order) := ⟨rfl, rfl, rfl, by decide +kernel, rfl, by decide +kernel, by decide +kernel⟩
abbrev s_answer_between : Stmt := top 87
theorem sc_answer_between : FnScope ["field", "given", "standing", "needed", "moved"] ["field", "given"] (defScope s_answer_between) := ⟨rfl, rfl, rfl, by decide +kernel, rfl, by decide +kernel, by decide +kernel⟩
section
variable {P : Program} {w : World} {K : PySem.W.Frag} {mg : Str → Option Value} {base : Heap} {A : Ad}
/-- within a comprehension: the written part is the def's own -/
theorem fldK {X : Cx} {K : PySem.W.Frag} {e : Expr} {n : Str} {pos : Pos} {ta : TE} (hK : X.K = K) (he : PE X e ta) (hb : attributeBase e n X.env (eval e X.env) = eval e X.env) : PE X (.Attribute e n pos) (tFld K ta n) := by
  subst hK
  exact pe_fld he hb
def sp_check_day (A : Ad) : Sp := fun vs H Q E => ∃ (a : Addr) (f : Vbsyae.Field) (n : Int), vs = [.ref a, .int n] ∧ FieldAt A.cField H a f ∧ (0 ≤ n ∧ n ≤ 19 → n < f.days.length → Q .non H) ∧ (¬ (0 ≤ n ∧ n ≤ 19) → ErrC A.cOutOfRange (-3) H E) ∧ (0 ≤ n ∧ n ≤ 19 → f.days.length ≤ n → ErrC A.cNotThere (-5) H E)
theorem ok_check_day {f : Addr} {fd : FuncData} (F : Fun K "check_day" "check_day" s_check_day f fd) (T : Txt K mg A) (c_check_range : Cal P w K mg base (L2.CX P w) 4 "check_range" ["number", "least", "most"] (sp_check_range A)) (x_NotThere : CalX P w K mg base CX0 2 "NotThere" A.cNotThere ["self"] (sp_x0 K A.cNotThere (-5))) : FnOk P w K mg base (L2.CX P w) 5 f fd ["field", "day"] (sp_check_day A) := by
  refine F.okX sc_check_day (fun vs H Q E h => ?_) (fun cdv B outer s H vs Q E hr h => ?_)
  · obtain ⟨a, f, n, rfl, _⟩ := h
    rfl
  · obtain ⟨a, fl, n, rfl, hF, q, e3, e5⟩ := h
    refine ⟨_, (pss_cons (ps_expr (pe_cal c_check_range hr (by rfl) (passes_call (takes_of rfl rfl rfl rfl) fun _ _ _ _ h => h) (pa_cons (pv 1) (pa_cons pe_int (pa_cons (pe_op op_sub (pe_gi T.MOST_DAYS (by rfl)) pe_int) pa_nil)))))
      (pss_one (ps_if (pt_cmpR op_ge (pv 1) (pe_callB call_len_seq (by rfl) T.len PySem.boot_len (pa_cons (pe_fld (pv 0) rfl) pa_nil)) (nomark _)) (pss_one (ps_raise rfl (takes_of rfl rfl rfl rfl) (pmk_calX0 x_NotThere (hr.mono (by decide)) (by rfl) pass0))) pss_nil))), ?_⟩
    obtain ⟨x5, -, hno5, -⟩ := T.errs A.cNotThere (by simp)
    obtain ⟨dx, w, d, ds, X⟩ := FX.of hF
    refine ⟨_, rfl, _, _, rfl, rfl, n, 0, 20 - 1, rfl, fun hr20 => ?_, fun hb => e3 (by omega)⟩
    refine ⟨_, rfl, _, rfl, a, A.cField, dx, _, _, rfl, X.at_, T.clField, T.nDays, fF_days _ _ _, d, ds, rfl, .inl (SqL.of X.hd), _, _, rfl, rfl, _, rfl, ?_⟩
    rw [X.hds.len]
    by_cases c : (fl.days.length : Int) ≤ n
    · rw [decide_eq_true c]
      exact iteT (mk0_ok x5 hno5 (e5 (by omega) c))
    · rw [decide_eq_false c]
      exact iteF (q (by omega) (by omega))
abbrev orderB (f : Vbsyae.Field) (l : List Int) : Prop := (l.all fun d => VbsyCore.isBetween d 0 ((f.days.length : Int) - 1)) = true ∧ Vbsyae.isOrder f (l.map Int.toNat) = true
def sp_check_order (A : Ad) (K : PySem.W.Frag) : Sp := fun vs H Q E => ∃ (a p : Addr) (f : Vbsyae.Field) (l : List Int), vs = [.ref a, .ref p] ∧ FieldAt A.cField H a f ∧ SqL K H p (intsV l) ∧
  (orderB f l → ∀ H', Same H H' → Q .non H') ∧ (¬ orderB f l → ErrC A.cWrongList (-4) H E)
theorem dp_intL {H : Hp} {a : Addr} {l : List Int} (h : H a = some (.lst (intsV l))) : Dp K H (.ref a) (.list (l.map PyData.int)) := .lst (SqL.of h) (dp_ints l)
theorem eqv_ints : ∀ l m : List Int, PyData.eqvAll (l.map PyData.int) (m.map PyData.int) = (l == m)
  | [], [] => by simp [PyData.eqvAll]
  | [], _ :: _ => by simp [PyData.eqvAll]
  | _ :: _, [] => by simp [PyData.eqvAll]
  | x :: l, y :: m => by
    have ih := eqv_ints l m
    simp only [List.map_cons, PyData.eqvAll, PyData.eqv, ih, List.cons_beq_cons]
theorem rgV_upTo (n : Nat) : rgV 0 (n : Int) = intsV (HFM.upTo n) := by
  unfold rgV intsV HFM.upTo
  rw [Int.sub_zero, Int.toNat_natCast, List.map_map]
  refine List.map_congr_left fun i _ => ?_
  show V.int (0 + (i : Int)) = V.int (i : Int)
  rw [Int.zero_add]
theorem ok_check_order {f : Addr} {fd : FuncData} (F : Fun K "check_order" "check_order" s_check_order f fd) (T : Txt K mg A) (x_WrongList : CalX P w K mg base CX0 2 "WrongList" A.cWrongList ["self"] (sp_x0 K A.cWrongList (-4))) : FnOk P w K mg base (L2.CX P w) 4 f fd ["field", "days"] (sp_check_order A K) := by
  refine F.okX sc_check_order (fun vs H Q E h => ?_) (fun cdv B outer s H vs Q E hr h => ?_)
  · obtain ⟨a, p, f, l, rfl, _⟩ := h
    rfl
  · obtain ⟨a, p, fl, l, rfl, hF, hp, q, e4⟩ := h
    refine ⟨_, (pss_one (ps_if (pt_cmpR (op_neD hr.units) (pe_callB cr_sortedI (by rfl) T.sorted (by decide +kernel) (pa_cons (pv 1) pa_nil)) (pe_listRg rfl (by rfl) T.list (prg_1 (by rfl) T.range (pe_callB call_len_seq (by rfl) T.len PySem.boot_len (pa_cons (pe_fld (pv 0) rfl) pa_nil)))) (nomark _)) (pss_one (ps_raise rfl (takes_of rfl rfl rfl rfl) (pmk_calX0 x_WrongList hr (by rfl) pass0))) pss_nil)), ?_⟩
    obtain ⟨x4, -, hno4, -⟩ := T.errs A.cWrongList (by simp)
    obtain ⟨dx, w, d, ds, X⟩ := FX.of hF
    have hd20 := hF.wf.d20
    refine ⟨_, rfl, p, l, rfl, hp, fun ns r hperm hsort nr => ?_⟩
    have s1 := same_new (o := .lst (ns.map V.int)) nr
    have X1 := X.on s1
    refine ⟨_, rfl, a, A.cField, dx, _, _, rfl, X1.at_, T.clField, T.nDays, fF_days _ _ _, d, ds, rfl, .inl (SqL.of X1.hd), _, rfl, ?_⟩
    rw [X.hds.len]
    refine ⟨RgOk.of_le (by omega) (by omega) (by omega) (by omega), fun r2 nr2 => ?_⟩
    rw [rgV_upTo]
    have s2 := same_new (o := .lst (intsV (HFM.upTo fl.days.length))) nr2
    have hr2 := s2 _ _ (upd_same : (upd H r (.lst (ns.map V.int))) r = _)
    have hq2 : (upd (upd H r (.lst (ns.map V.int))) r2 (.lst (intsV (HFM.upTo fl.days.length)))) r2 = some (.lst (intsV (HFM.upTo fl.days.length))) := upd_same
    have sH := s1.trans s2
    generalize upd (upd H r (.lst (ns.map V.int))) r2 (.lst (intsV (HFM.upTo fl.days.length))) = H2 at *
    refine ⟨_, _, dp_intL hr2, dp_intL hq2, shaped_nats _, shaped_nats _, _, rfl, ?_⟩
    have ev : PyData.eqv (.list (ns.map PyData.int)) (.list ((HFM.upTo fl.days.length).map PyData.int)) = (ns == HFM.upTo fl.days.length) := by
      show PyData.eqvAll _ _ = _
      exact eqv_ints _ _
    rw [ev]
    have hiff := HFM.order_iff fl l ns hperm hsort
    by_cases c : ns = HFM.upTo fl.days.length
    · have : (ns == HFM.upTo fl.days.length) = true := by simpa using c
      rw [this]
      exact iteF (q (hiff.mp c) H2 sH)
    · have : (ns == HFM.upTo fl.days.length) = false := by simpa using c
      rw [this]
      exact iteT (mk0_ok x4 hno4 ((e4 fun z => c (hiff.mpr z)).mono sH))
def sp_check_few (A : Ad) : Sp := fun vs H Q E => ∃ (a : Addr) (f : Vbsyae.Field), vs = [.ref a] ∧ FieldAt A.cField H a f ∧ (f.days.length ≤ 7 → Q .non H) ∧ (¬ f.days.length ≤ 7 → ErrC A.cTooManyDays (-9) H E)
theorem ok_check_few {f : Addr} {fd : FuncData} (F : Fun K "check_days_in_table" "check_days_in_table" s_check_days_in_table f fd) (T : Txt K mg A) (x_TooManyDays : CalX P w K mg base CX0 2 "TooManyDays" A.cTooManyDays ["self"] (sp_x0 K A.cTooManyDays (-9))) : FnOk P w K mg base (L2.CX P w) 4 f fd ["field"] (sp_check_few A) := by
  refine F.okX sc_check_days_in_table (fun vs H Q E h => ?_) (fun cdv B outer s H vs Q E hr h => ?_)
  · obtain ⟨a, f, rfl, _⟩ := h
    rfl
  · obtain ⟨a, fl, rfl, hF, q, e9⟩ := h
    refine ⟨_, (pss_one (ps_if (pt_cmpR op_gt (pe_callB call_len_seq (by rfl) T.len PySem.boot_len (pa_cons (pe_fld (pv 0) rfl) pa_nil)) (pe_gi T.MOST_DAYS_IN_TABLE (by rfl)) (nomark _)) (pss_one (ps_raise rfl (takes_of rfl rfl rfl rfl) (pmk_calX0 x_TooManyDays hr (by rfl) pass0))) pss_nil)), ?_⟩
    obtain ⟨x9, -, hno9, -⟩ := T.errs A.cTooManyDays (by simp)
    obtain ⟨dx, w, d, ds, X⟩ := FX.of hF
    refine ⟨_, rfl, a, A.cField, dx, _, _, rfl, X.at_, T.clField, T.nDays, fF_days _ _ _, d, ds, rfl, .inl (SqL.of X.hd), _, _, rfl, rfl, _, rfl, ?_⟩
    rw [X.hds.len]
    by_cases c : fl.days.length ≤ 7
    · rw [decide_eq_false (show ¬ (7 : Int) < (fl.days.length : Int) by omega)]
      exact iteF (q c)
    · rw [decide_eq_true (show (7 : Int) < (fl.days.length : Int) by omega)]
      exact iteT (mk0_ok x9 hno9 (e9 c))
/-! ### the days by their numbers -/
theorem inF_of {f : Vbsyae.Field} (w : Wf f) {x : Vbsyae.Fold} (h : x ∈ f.days) : InF f x := ⟨(w.inn x h).1, (w.inn x h).2.1⟩
theorem dayCells_eq {f : Vbsyae.Field} (w : Wf f) {d : Nat} {x : Vbsyae.Fold} (h : f.days[d]? = some x) : Vbsyae.dayCells f d = HFM.dcells f x := by
  unfold Vbsyae.dayCells
  rw [h]
  have hin := inF_of w (List.mem_of_getElem? h)
  exact HFM.dcells_eq (by have := w.c1; omega) hin.1 hin.2
theorem dayT_eq {f : Vbsyae.Field} (w : Wf f) {d : Nat} {x : Vbsyae.Fold} (h : f.days[d]? = some x) : HFM.dayT f d = foldT f x := by
  unfold HFM.dayT foldT
  rw [dayCells_eq w h]
theorem days_T {f : Vbsyae.Field} (w : Wf f) : f.days.map (foldT f) = (List.range f.days.length).map (HFM.dayT f) := by
  refine List.ext_getElem? fun i => ?_
  rw [List.getElem?_map, List.getElem?_map]
  by_cases hi : i < f.days.length
  · have hx : f.days[i]? = some f.days[i] := List.getElem?_eq_getElem hi
    rw [hx, List.getElem?_range hi]
    exact congrArg some (dayT_eq w hx).symm
  · rw [List.getElem?_eq_none (by omega), List.getElem?_eq_none (by rw [List.length_range]; omega)]
    rfl
theorem days_len {f : Vbsyae.Field} (w : Wf f) : ∀ ps ∈ f.days.map (foldT f), ps.length ≤ 256 := fun ps hp => by
  obtain ⟨x, hx, rfl⟩ := List.mem_map.mp hp
  exact foldT_len w (inF_of w hx)
theorem dayT_len {f : Vbsyae.Field} (w : Wf f) {d : Nat} (h : d < f.days.length) : (HFM.dayT f d).length ≤ 256 := by
  rw [dayT_eq w (List.getElem?_eq_getElem h)]
  exact foldT_len w (inF_of w (List.getElem_mem h))
def cBetween : List Int → Option Vbsyae.Call
  | [a, b] => some (.between a b)
  | _ => none
theorem ok_answer_between {f : Addr} {fd : FuncData} (F : Fun K "answer_between" "answer_between" s_answer_between f fd) (T : Txt K mg A) (c_check_day : Cal P w K mg base (L2.CX P w) 5 "check_day" ["field", "day"] (sp_check_day A)) (c_day_places : Cal P w K mg base CX0 4 "day_places" ["field", "day"] (sp_day_places A)) (c_carried : Cal P w K mg base CX0 1 "carried" ["standing", "needed"] sp_carried) : FnOk P w K mg base (L2.CX P w) 6 f fd ["field", "given"] (sp_ans A K cBetween) := by
  refine F.okX sc_answer_between (fun vs H Q E h => ?_) (fun cdv B outer s H vs Q E hr h => ?_)
  · obtain ⟨F, a, g, f, l, c, rfl, _⟩ := h
    rfl
  · obtain ⟨Fr, a, g, fl, l, c, rfl, hF, hg, hl, hc, q, er⟩ := h
    match l, hc with
    | [x, y], hc =>
    cases hc
    refine ⟨_, (pss_cons (ps_expr (pe_cal c_check_day hr (by rfl) (passes_call (takes_of rfl rfl rfl rfl) fun _ _ _ _ h => h) (pa_cons (pv 0) (pa_cons (pe_ix ix_list (pv 1) pe_int (fun _ _ => rfl)) pa_nil))))
      (pss_cons (ps_expr (pe_cal c_check_day hr (by rfl) (passes_call (takes_of rfl rfl rfl rfl) fun _ _ _ _ h => h) (pa_cons (pv 0) (pa_cons (pe_ix ix_list (pv 1) pe_int (fun _ _ => rfl)) pa_nil))))
      (pss_cons (ps_set (i := 2) sc_answer_between.nd rfl (Or.inl rfl) (pe_cal c_day_places (hr.mono (by decide)) (by rfl) pass0 (pa_cons (pv 0) (pa_cons (pe_ix ix_list (pe_fld (pv 0) rfl) (pe_ix ix_list (pv 1) pe_int (fun _ _ => rfl)) (fun _ _ => rfl)) pa_nil))))
      (pss_cons (ps_set (i := 3) sc_answer_between.nd rfl (Or.inl rfl) (pe_cal c_day_places (hr.mono (by decide)) (by rfl) pass0 (pa_cons (pv 0) (pa_cons (pe_ix ix_list (pe_fld (pv 0) rfl) (pe_ix ix_list (pv 1) pe_int (fun _ _ => rfl)) (fun _ _ => rfl)) pa_nil))))
      (pss_cons (ps_set (i := 4) sc_answer_between.nd rfl (Or.inl rfl) (pe_cal c_carried (hr.mono (by decide)) (by rfl) pass0 (pa_cons (pv 2) (pa_cons (pv 3) pa_nil))))
      (pss_one (ps_ret (pe_lst (pa_cons (pv 4) (pa_cons (pe_op op_sub (pe_callB call_len_dT (by rfl) T.len PySem.boot_len (pa_cons (pv 3) pa_nil)) (pv 4)) pa_nil)))))))))), ?_⟩
    have wf := hF.wf
    have hk : 0 < fl.cols := by have := wf.c1; omega
    refine ⟨_, rfl, _, rfl, g, _, 0, _, rfl, rfl, hg, rfl, a, fl, x, rfl, hF.at, fun hx hx2 => ?_, fun hb => ?_, fun hx hx2 => ?_⟩
    rotate_left
    · refine er (-3) ?_ A.cOutOfRange (by simp [errs])
      show (do let a ← Vbsyae.ranged x 0 19; _) = _
      rw [ranged_bad hb]
      rfl
    · refine er (-5) ?_ A.cNotThere (by simp [errs])
      unfold Vbsyae.run
      dsimp only [bind, Except.bind]
      rw [ranged_ok hx]
      dsimp only
      rw [if_pos (by omega)]
    refine ⟨_, rfl, _, rfl, g, _, 1, _, rfl, rfl, hg, rfl, a, fl, y, rfl, hF.at, fun hy hy2 => ?_, fun hb => ?_, fun hy hy2 => ?_⟩
    rotate_left
    · refine er (-3) ?_ A.cOutOfRange (by simp [errs])
      unfold Vbsyae.run
      dsimp only [bind, Except.bind]
      rw [ranged_ok hx]
      dsimp only
      rw [if_neg (by omega), ranged_bad hb]
    · refine er (-5) ?_ A.cNotThere (by simp [errs])
      unfold Vbsyae.run
      dsimp only [bind, Except.bind]
      rw [ranged_ok hx]
      dsimp only
      rw [if_neg (by omega), ranged_ok hy]
      dsimp only
      rw [if_pos (by omega)]
    have hrun : Vbsyae.run fl (.between x y) = .ok (fl, VbsyCore.ints [Vbsyae.carry fl x.toNat y.toNat, ((Vbsyae.places fl y.toNat).filter fun z => (Vbsyae.places fl x.toNat).contains z).length]) := by
      unfold Vbsyae.run
      dsimp only [bind, Except.bind]
      rw [ranged_ok hx]
      dsimp only
      rw [if_neg (by omega), ranged_ok hy]
      dsimp only
      rw [if_neg (by omega)]
      rfl
    rw [hrun] at q
    obtain ⟨k, rfl⟩ : ∃ k : Nat, x = (k : Int) := ⟨x.toNat, by omega⟩
    obtain ⟨m, rfl⟩ : ∃ m : Nat, y = (m : Int) := ⟨y.toNat, by omega⟩
    rw [Int.toNat_natCast, Int.toNat_natCast] at q
    have hkn : k < fl.days.length := by omega
    have hmn : m < fl.days.length := by omega
    obtain ⟨dx, w, d, ds, X⟩ := FX.of hF
    have ek : fl.days[k]? = some fl.days[k] := List.getElem?_eq_getElem hkn
    have em : fl.days[m]? = some fl.days[m] := List.getElem?_eq_getElem hmn
    obtain ⟨t1, ht1, ht1'⟩ := X.hds.get ek
    obtain ⟨t2, ht2, ht2'⟩ := X.hds.get em
    have hst := HFM.stay_eq (f := fl) hk k m
    rw [HFM.carry_eq hk, hst.1, dayT_eq wf ek, dayT_eq wf em] at q
    have hle := hst.2
    rw [dayT_eq wf ek, dayT_eq wf em] at hle
    have hin1 := inF_of wf (List.getElem_mem hkn)
    have hin2 := inF_of wf (List.getElem_mem hmn)
    have hfl := foldT_len wf hin2
    refine ⟨_, rfl, _, rfl, a, A.cField, dx, _, _, rfl, X.at_, T.clField, T.nDays, fF_days _ _ _, _, rfl, g, _, 0, _, rfl, rfl, hg, rfl, d, ds, _, _, rfl, rfl, SqL.of X.hd, atI_nat ht1, a, t1, fl, _, rfl, hF.at, ht1', hin1, fun H1 p1 s1 n1 h1 => ?_⟩
    have X1 := X.on s1
    refine ⟨_, rfl, _, rfl, a, A.cField, dx, _, _, rfl, X1.at_, T.clField, T.nDays, fF_days _ _ _, _, rfl, g, _, 1, _, rfl, rfl, s1.seq hg, rfl, d, ds, _, _, rfl, rfl, SqL.of X1.hd, atI_nat ht2, a, t2, fl, _, rfl, (hF.on s1).at, s1 _ _ ht2', hin2, fun H2 p2 s2 n2 h2 => ?_⟩
    refine ⟨_, rfl, _, rfl, p1, p2, _, _, rfl, s2 _ _ h1, h2, hfl, fun H3 s3 => ?_⟩
    refine ⟨_, rfl, _, rfl, p2, _, rfl, s3 _ _ h2, _, rfl, _, _, rfl, rfl, (by show 2 ≤ sizeLine; decide), fun p np => ?_⟩
    have hld : (dictT (foldT fl fl.days[m])).length = (foldT fl fl.days[m]).length := by unfold dictT; rw [List.length_map]
    obtain ⟨h4, h5⟩ := (((hF.on s1).on s2).on s3).new (o := .lst [.int (HFM.cnt (foldT fl fl.days[k]) (foldT fl fl.days[m]) : Nat), .int (((foldT fl fl.days[m]).length : Nat) - (HFM.cnt (foldT fl fl.days[k]) (foldT fl fl.days[m]) : Nat))]) np
    dsimp only
    rw [hld]
    refine q _ _ rfl _ p h4 h5 (upd_same.trans ?_)
    unfold intsV VbsyCore.ints
    rw [List.map_map]
    show _ = some (HO.lst [.int _, .int _])
    dsimp only
    rw [Int.ofNat_sub hle]
def cCovered : List Int → Option Vbsyae.Call := fun _ => some .covered
theorem times_eq {f : Vbsyae.Field} (w : Wf f) (c : Nat) : Vbsyae.times f c = (f.days.flatMap (HFM.dcells f)).count c := by
  have e : f.days.flatMap (HFM.dcells f) = (List.range f.days.length).flatMap (Vbsyae.dayCells f) := by
    rw [List.flatMap_def, List.flatMap_def]
    congr 1
    refine List.ext_getElem? fun i => ?_
    rw [List.getElem?_map, List.getElem?_map]
    by_cases hi : i < f.days.length
    · have hx : f.days[i]? = some f.days[i] := List.getElem?_eq_getElem hi
      rw [hx, List.getElem?_range hi]
      exact congrArg some (dayCells_eq w hx).symm
    · rw [List.getElem?_eq_none (by omega), List.getElem?_eq_none (by rw [List.length_range]; omega)]
      rfl
  rw [e, HFM.count_flat]
  · rfl
  · intro d hd
    have hdn := List.mem_range.mp hd
    rw [dayCells_eq w (List.getElem?_eq_getElem hdn)]
    exact (HFM.dcells_pair (inF_of w (List.getElem_mem hdn)).2).imp fun h => Nat.ne_of_lt h
theorem ok_answer_covered {f : Addr} {fd : FuncData} (F : Fun K "answer_covered" "answer_covered" s_answer_covered f fd) (T : Txt K mg A) (c_times_folded : Cal P w K mg base CX0 2 "times_folded" ["field"] (sp_times A)) : FnOk P w K mg base CX0 3 f fd ["field", "given"] (sp_ans A K cCovered) := by
  refine F.ok sc_answer_covered (fun vs H Q E h => ?_) (fun cdv B outer s H vs Q E hr h => ?_)
  · obtain ⟨F, a, g, f, l, c, rfl, _⟩ := h
    rfl
  · obtain ⟨Fr, a, g, fl, l, c, rfl, hF, hg, hl, hc, q, er⟩ := h
    cases hc
    refine ⟨_, (pss_cons (ps_for PassesOwn.never rfl (pi_enum (by rfl) T.enumerate (pa_cons (pe_cal c_times_folded hr (by rfl) pass0 (pa_cons (pv 0) pa_nil)) pa_nil)) (pg_tup rfl (pgs_cons (pg_name (i := 2) sc_answer_covered.nd rfl (Or.inl rfl)) (pgs_cons (pg_name (i := 3) sc_answer_covered.nd rfl (Or.inl rfl)) pgs_nil)))
      (pss_one (ps_if (pt_cmpR op_ne (pv 3) pe_int (nomark _)) (pss_one (ps_ret (pe_lst (pa_cons pe_int (pa_cons (pv 2) (pa_cons (pv 3) pa_nil)))))) pss_nil)))
      (pss_one (ps_ret (pe_lst (pa_cons pe_int pa_nil))))), ?_⟩
    have wf := hF.wf
    have hrun : Vbsyae.run fl .covered = match (List.range (Vbsyae.cells fl)).find? fun c => Vbsyae.times fl c != 1 with
      | none => .ok (fl, [1])
      | some c => .ok (fl, VbsyCore.ints [0, c, Vbsyae.times fl c]) := rfl
    rw [hrun] at q
    dsimp only [tSeq]
    refine ⟨_, rfl, a, fl, rfl, hF.at, fun H1 r s1 nr hr => ?_⟩
    refine ⟨r, _, rfl, SqL.of hr, ?_⟩
    have hlen : (natsV (HFM.tally (Vbsyae.cells fl) (fl.days.flatMap (HFM.dcells fl)))).length = Vbsyae.cells fl := by rw [natsV_len, HFM.tally_len]
    obtain ⟨Pv, hPv⟩ : ∃ Pv : Nat → L2.St → Hp → Prop, ∀ i σ H', Pv i σ H' ↔ ∃ (y2 y3 : Option V), σ = [some (.ref a), some (.ref g), y2, y3] ∧ Same H1 H' ∧ ∀ j, j < i → Vbsyae.times fl j = 1 := ⟨_, fun _ _ _ => Iff.rfl⟩
    refine for_it (walk_enum (xs := natsV (HFM.tally (Vbsyae.cells fl) (fl.days.flatMap (HFM.dcells fl))))) Pv ((hPv _ _ _).mpr ⟨none, none, rfl, Same.refl _, fun j hj => by omega⟩) (fun i σ H' _ h5 => ?_) (fun i v σ H' H2 hi h5 y => ?_) (fun σ H' h5 => ?_)
    · obtain ⟨_, _, _, s5, _⟩ := (hPv _ _ _).mp h5
      exact SqL.of (s5 _ _ hr)
    · obtain ⟨y2, y3, rfl, s5, hall⟩ := (hPv _ _ _).mp h5
      rw [hlen] at hi
      obtain ⟨t, x, z, rfl, nt, rfl, e1, e2⟩ := y
      cases e1
      dsimp only at e2
      rw [natsV_get (HFM.tally_get hi)] at e2
      cases e2
      rw [← times_eq wf]
      have s6 := same_new (o := .tup [.int (i : Nat), .int (Vbsyae.times fl i : Nat)]) nt
      refine ⟨t, _, rfl, Or.inl (Or.inl upd_same), rfl, _, _, rfl, _, _, rfl, rfl, ?_⟩
      refine ⟨_, rfl, rfl, _, rfl, ?_⟩
      by_cases c : Vbsyae.times fl i = 1
      · have e : decide (V.int ((Vbsyae.times fl i : Nat) : Int) = V.int 1) = true := decide_eq_true (by rw [c]; rfl)
        rw [e]
        refine iteF ((hPv _ _ _).mpr ⟨_, _, rfl, s5.trans s6, fun j hj => ?_⟩)
        by_cases hji : j = i
        · rw [hji]; exact c
        · exact hall j (by omega)
      · have e : decide (V.int ((Vbsyae.times fl i : Nat) : Int) = V.int 1) = false := decide_eq_false (by intro z; have := V.int.inj z; omega)
        rw [e]
        have hf : ((List.range (Vbsyae.cells fl)).find? fun c => Vbsyae.times fl c != 1) = some i := by
          rw [List.find?_range_eq_some]
          refine ⟨by simpa using c, List.mem_range.mpr hi, fun j hj => ?_⟩
          rw [hall j hj]
          rfl
        rw [hf] at q
        refine iteT ⟨_, rfl, _, rfl, (by show 3 ≤ sizeLine; decide), fun p np => ?_⟩
        obtain ⟨h4, h5⟩ := (((hF.on s1).on s5).on s6).new (o := .lst [.int 0, .int (i : Nat), .int (Vbsyae.times fl i : Nat)]) np
        exact q _ _ rfl _ p h4 h5 upd_same
    · obtain ⟨y2, y3, rfl, s5, hall⟩ := (hPv _ _ _).mp h5
      rw [hlen] at hall
      have hf : ((List.range (Vbsyae.cells fl)).find? fun c => Vbsyae.times fl c != 1) = none := by
        rw [List.find?_eq_none]
        intro j hj
        rw [hall j (List.mem_range.mp hj)]
        simp
      rw [hf] at q
      refine ⟨(by show 1 ≤ sizeLine; decide), fun p np => ?_⟩
      obtain ⟨h4, h5⟩ := ((hF.on s1).on s5).new (o := .lst [.int 1]) np
      exact q _ _ rfl _ p h4 h5 upd_same
end
end HF
namespace HF
open PySem PySem.Spec PyProof.Rows L2
section
variable {P : Program} {w : World} {K : PySem.W.Frag} {mg : Str → Option Value} {base : Heap} {A : Ad}
def cPlan : List Int → Option Vbsyae.Call := fun _ => some .plan
/-- what plan tells of the day d -/
def planRow (f : Vbsyae.Field) (d : Nat) : List Int := VbsyCore.ints [(Vbsyae.dayCells f d).length, (Vbsyae.places f d).length, if d = 0 then (Vbsyae.places f d).length else Vbsyae.carry f (d - 1) d]
theorem intsV_app (l m : List Int) : intsV (l ++ m) = intsV l ++ intsV m := by
  unfold intsV
  rw [List.map_append]
theorem intsV_len (l : List Int) : (intsV l).length = l.length := by
  unfold intsV
  rw [List.length_map]
theorem ok_answer_plan {f : Addr} {fd : FuncData} (F : Fun K "answer_plan" "answer_plan" s_answer_plan f fd) (T : Txt K mg A) (c_all_places : Cal P w K mg base CX0 5 "all_places" ["field"] (sp_all_places A)) (c_carried_each : Cal P w K mg base CX0 2 "carried_each" ["row_of_places"] (sp_carried_each K)) : FnOk P w K mg base CX0 6 f fd ["field", "given"] (sp_ans A K cPlan) := by
  refine F.ok sc_answer_plan (fun vs H Q E h => ?_) (fun cdv B outer s H vs Q E hr h => ?_)
  · obtain ⟨F, a, g, f, l, c, rfl, _⟩ := h
    rfl
  · obtain ⟨Fr, a, g, fl, l, c, rfl, hF, hg, hl, hc, q, er⟩ := h
    cases hc
    refine ⟨_, (pss_cons (ps_set (i := 2) sc_answer_plan.nd rfl (Or.inl rfl) (pe_cal c_all_places hr (by rfl) pass0 (pa_cons (pv 0) pa_nil)))
      (pss_cons (ps_set (i := 3) sc_answer_plan.nd rfl (Or.inl rfl) (pe_cal c_carried_each (hr.mono (by decide)) (by rfl) pass0 (pa_cons (pv 2) pa_nil)))
      (pss_cons (ps_set (i := 4) sc_answer_plan.nd rfl (Or.inl rfl) (pe_lst (pa_cons (pe_callB call_len_seq (by rfl) T.len PySem.boot_len (pa_cons (pe_fld (pv 0) rfl) pa_nil)) pa_nil)))
      (pss_cons (ps_for PassesOwn.never rfl (pi_enum (by rfl) T.enumerate (pa_cons (pe_fld (pv 0) rfl) pa_nil)) (pg_tup rfl (pgs_cons (pg_name (i := 5) sc_answer_plan.nd rfl (Or.inl rfl)) (pgs_cons (pg_name (i := 6) sc_answer_plan.nd rfl (Or.inl rfl)) pgs_nil)))
      (pss_one (ps_expr (pe_bm PySem.F.plainAttrs_list PySem.F.slot_list_extend PySem.F.type_list_extend mt_extend (pv 4) (pa_cons (pe_lst (pa_cons (pe_op op_mul (pe_ix ix_tup (pv 6) pe_int (fun _ _ => rfl)) (pe_ix ix_tup (pv 6) pe_int (fun _ _ => rfl))) (pa_cons (pe_callB call_len_dT (by rfl) T.len PySem.boot_len (pa_cons (pe_ix ix_list (pv 2) (pv 5) (fun _ _ => rfl)) pa_nil)) (pa_cons (pe_ix ix_list (pv 3) (pv 5) (fun _ _ => rfl)) pa_nil)))) pa_nil)))))
      (pss_one (ps_ret (pv 4))))))), ?_⟩
    have wf := hF.wf
    have hd20 := wf.d20
    have hk : 0 < fl.cols := by have := wf.c1; omega
    have hrun : Vbsyae.run fl .plan = .ok (fl, (fl.days.length : Int) :: (List.range fl.days.length).flatMap (planRow fl)) := rfl
    rw [hrun] at q
    obtain ⟨dx, w, d, ds, X⟩ := FX.of hF
    refine ⟨_, rfl, a, fl, rfl, hF.at, fun H1 r us s1 nr hr hds => ?_⟩
    refine ⟨_, rfl, r, us, _, rfl, hr, hds, days_len wf, by rw [List.length_map]; omega, fun H2 m s2 nm hm => ?_⟩
    have X2 := (X.on s1).on s2
    refine ⟨_, rfl, a, A.cField, dx, _, _, rfl, X2.at_, T.clField, T.nDays, fF_days _ _ _, d, ds, rfl, .inl (SqL.of X2.hd), (by show 1 ≤ sizeLine; decide), fun o no => ?_⟩
    rw [X.hds.len]
    have s3 := same_new (o := .lst [.int (fl.days.length : Nat)]) no
    have X3 := X2.on s3
    have hds2 := hds.on s2
    have hr2 := s2 _ _ hr
    rw [days_T wf] at hds2 hm
    have hpl : ∀ d, (planRow fl d).length = 3 := fun d => rfl
    have hfl : ∀ i, ((List.range i).flatMap (planRow fl)).length = 3 * i := fun i => by
      induction i with
      | zero => rfl
      | succ i ih =>
        rw [List.range_succ, List.flatMap_append, List.length_append, ih, List.flatMap_singleton, hpl]
        omega
    dsimp only [gName, tSeq, L2.start]
    obtain ⟨Pv, hPv⟩ : ∃ Pv : Nat → L2.St → Hp → Prop, ∀ i σ H', Pv i σ H' ↔ ∃ (y5 y6 : Option V), σ = [some (.ref a), some (.ref g), some (.ref r), some (.ref m), some (.ref o), y5, y6] ∧ Same H2 H' ∧ H' o = some (.lst (intsV ((fl.days.length : Int) :: (List.range i).flatMap (planRow fl)))) := ⟨_, fun _ _ _ => Iff.rfl⟩
    refine q_forE (a := d) (xs := ds) Pv (fun R h => ?_) ((hPv _ _ _).mpr ⟨none, none, rfl, s3, upd_same⟩) (fun i σ H' _ h5 => ?_) (fun i v t σ H' hi nt h5 => ?_) (fun σ H' h5 => ?_)
    · exact ⟨_, rfl, a, A.cField, dx, _, _, rfl, X3.at_, T.clField, T.nDays, fF_days _ _ _, h⟩
    · obtain ⟨_, _, _, s5, _⟩ := (hPv _ _ _).mp h5
      exact SqL.of (s5 _ _ X2.hd)
    · obtain ⟨y5, y6, rfl, s5, ho⟩ := (hPv _ _ _).mp h5
      have hin : i < fl.days.length := by rw [← X.hds.len]; exact (List.getElem?_eq_some_iff.mp hi).1
      have hx : fl.days[i]? = some fl.days[i] := List.getElem?_eq_getElem hin
      obtain ⟨u, hu1, hu2⟩ := X2.hds.get hx
      rw [hi] at hu1
      cases hu1
      have hfold := inF_of wf (List.getElem_mem hin)
      obtain ⟨hf1, hf2⟩ := hfold
      have hr8 := wf.r8
      have hc8 := wf.c8
      have hPi : ((List.range fl.days.length).map (HFM.dayT fl))[i]? = some (HFM.dayT fl i) := by rw [List.getElem?_map, List.getElem?_range hin]; rfl
      obtain ⟨v, hv1, hv2⟩ := hds2.get hPi
      have hmi := HFM.each_get (s := []) hPi
      have hmv : (if i = 0 then ([] : List (Nat × Nat)) else (((List.range fl.days.length).map (HFM.dayT fl))[i - 1]?.getD [])) = if i = 0 then [] else HFM.dayT fl (i - 1) := by
        by_cases c : i = 0
        · rw [if_pos c, if_pos c]
        · rw [if_neg c, if_neg c, List.getElem?_map, List.getElem?_range (show i - 1 < fl.days.length by omega)]
          rfl
      rw [hmv] at hmi
      have s6 := same_new (o := .tup [.int (i : Nat), .ref u]) nt
      have hu6 := s6 _ _ (s5 _ _ hu2)
      have ho6 := s6 _ _ ho
      have hr6 := s6 _ _ (s5 _ _ hr2)
      have hv6 := s6 _ _ (s5 _ _ hv2)
      have hm6 := s6 _ _ (s5 _ _ hm)
      refine ⟨t, _, rfl, Or.inl (Or.inl upd_same), rfl, _, _, rfl, _, _, rfl, rfl, ?_⟩
      generalize upd H' t (.tup [.int (i : Nat), .ref u]) = H6 at *
      refine ⟨_, rfl, .inl ⟨rfl, _, SqL.of ho6⟩, ?_⟩
      refine ⟨_, rfl, u, _, _, _, rfl, rfl, Evl.st_of hu6, rfl, _, rfl, u, _, _, _, rfl, rfl, Evl.st_of hu6, rfl, _, _, rfl, rfl, Or.inl ⟨by omega, by omega⟩, ?_⟩
      refine ⟨_, rfl, _, rfl, r, us, _, _, rfl, rfl, SqL.of hr6, atI_nat hv1, v, _, rfl, hv6, ?_⟩
      refine ⟨_, rfl, _, rfl, m, _, _, _, rfl, rfl, SqL.of hm6, atI_nat (natsV_get hmi), (by show 3 ≤ sizeLine; decide), fun p np => ?_⟩
      have s7 := same_new (o := .lst [.int ((fl.days[i].high : Int) * (fl.days[i].wide : Int)), .int ((dictT (HFM.dayT fl i)).length : Nat), .int (HFM.cnt (if i = 0 then [] else HFM.dayT fl (i - 1)) (HFM.dayT fl i) : Nat)]) np
      refine ⟨o, p, _, _, rfl, rfl, s7 _ _ ho6, upd_same, ?_, ?_⟩
      · rw [intsV_len, List.length_cons, hfl]
        exact Nat.le_trans (show _ ≤ 100 by show 3 * i + 1 + 3 ≤ 100; omega) (by decide)
      · refine (hPv _ _ _).mpr ⟨_, _, rfl, same_mut ((s5.trans s6).trans s7) no, upd_same.trans ?_⟩
        have erow : intsV (planRow fl i) = [.int ((fl.days[i].high : Int) * (fl.days[i].wide : Int)), .int ((dictT (HFM.dayT fl i)).length : Nat), .int (HFM.cnt (if i = 0 then [] else HFM.dayT fl (i - 1)) (HFM.dayT fl i) : Nat)] := by
          unfold planRow
          rw [dayCells_eq wf hx, HFM.dcells_len, HFM.places_len]
          have e1 : (dictT (HFM.dayT fl i)).length = (HFM.dayT fl i).length := by unfold dictT; rw [List.length_map]
          have e2 : (if i = 0 then (HFM.dayT fl i).length else Vbsyae.carry fl (i - 1) i) = HFM.cnt (if i = 0 then [] else HFM.dayT fl (i - 1)) (HFM.dayT fl i) := by
            by_cases c : i = 0
            · rw [if_pos c, if_pos c, HFM.cnt_nil]
            · rw [if_neg c, if_neg c, HFM.carry_eq hk]
          rw [e1, e2]
          unfold intsV VbsyCore.ints
          simp
        rw [← erow, ← intsV_app, List.range_succ, List.flatMap_append, List.flatMap_singleton]
        rfl
    · obtain ⟨y5, y6, rfl, s5, ho⟩ := (hPv _ _ _).mp h5
      rw [X.hds.len] at ho
      refine ⟨_, rfl, ?_⟩
      exact q _ _ rfl _ o (((hF.on s1).on s2).on s5) (((hF.on s1).on s2).same.free no) ho
def cOrder : List Int → Option Vbsyae.Call := fun l => some (.order l)
theorem natI_sum (l : List Nat) : (natI l).sum = ((l.sum : Nat) : Int) := by
  unfold natI
  induction l with
  | nil => rfl
  | cons x l ih =>
    rw [List.map_cons, List.sum_cons, List.sum_cons, ih]
    simp
theorem ok_answer_order {f : Addr} {fd : FuncData} (F : Fun K "answer_order" "answer_order" s_answer_order f fd) (T : Txt K mg A) (c_check_order : Cal P w K mg base (L2.CX P w) 4 "check_order" ["field", "days"] (sp_check_order A K)) (c_all_places : Cal P w K mg base CX0 5 "all_places" ["field"] (sp_all_places A)) (c_carried_each : Cal P w K mg base CX0 2 "carried_each" ["row_of_places"] (sp_carried_each K)) : FnOk P w K mg base (L2.CX P w) 6 f fd ["field", "given"] (sp_ans A K cOrder) := by
  refine F.okX sc_answer_order (fun vs H Q E h => ?_) (fun cdv B outer s H vs Q E hr h => ?_)
  · obtain ⟨F, a, g, f, l, c, rfl, _⟩ := h
    rfl
  · obtain ⟨Fr, a, g, fl, l, c, rfl, hF, hg, hl, hc, q, er⟩ := h
    cases hc
    refine ⟨_, (pss_cons (ps_expr (pe_cal c_check_order (hr.mono (by decide)) (by rfl) (passes_call (takes_of rfl rfl rfl rfl) fun _ _ _ _ h => h) (pa_cons (pv 0) (pa_cons (pv 1) pa_nil))))
      (pss_cons (ps_set (i := 2) sc_answer_order.nd rfl (Or.inr rfl) (pe_cal c_all_places hr (by rfl) pass0 (pa_cons (pv 0) pa_nil)))
      (pss_cons (ps_set (i := 3) sc_answer_order.nd rfl (Or.inl rfl) (pe_cal c_carried_each (hr.mono (by decide)) (by rfl) pass0 (pa_cons (pe_lc (own := [("day", 4)]) (g := gName 4) (tt := tYes) (by rfl) sc_answer_order.nd (pi_list (pv 1)) (blkOk_by (own := [("day", 4)]) (N := ["field", "given", "places", "moved", "day", "needed"]) (sc := defScope s_answer_order) (by decide +kernel)) (fun _ _ _ _ _ => (pg_name (i := 4) sc_answer_order.nd rfl (Or.inl rfl))) (fun _ _ _ _ _ => pts_nil) (fun _ _ _ _ _ => (pe_ix (r := rIxL K) ix_list (pv 2) (pv 4) (fun _ _ => rfl)))) pa_nil)))
      (pss_one (ps_ret (pe_lst (pa_cons (pe_callB (cr_sum rfl) (by rfl) T.sum (by decide +kernel) (pa_cons (pv 3) pa_nil)) (pa_cons (pe_callBK (cr_maxD rfl hr.units) (by rfl) T.max (by decide +kernel) (pa_cons (pe_lc (own := [("needed", 5)]) (g := gName 5) (tt := tYes) (by rfl) sc_answer_order.nd (pi_list (pv 2)) (blkOk_by (own := [("needed", 5)]) (N := ["field", "given", "places", "moved", "day", "needed"]) (sc := defScope s_answer_order) (by decide +kernel)) (fun _ _ _ _ _ => (pg_name (i := 5) sc_answer_order.nd rfl (Or.inl rfl))) (fun _ _ _ _ _ => pts_nil) (fun _ _ _ _ _ => (pe_callB call_len_dT (by rfl) T.len PySem.boot_len (pa_cons (pv 5) pa_nil)))) pa_nil) (pk_cons pe_int pk_nil)) pa_nil)))))))), ?_⟩
    have wf := hF.wf
    have hd20 := wf.d20
    have hk : 0 < fl.cols := by have := wf.c1; omega
    have hrun : Vbsyae.run fl (.order l) = if orderB fl l then .ok (fl, VbsyCore.ints [Vbsyae.carries fl (l.map Int.toNat), Vbsyae.most fl]) else .error (-4) := rfl
    rw [hrun] at q er
    refine ⟨_, rfl, _, rfl, a, g, fl, l, rfl, hF.at, hg, fun hb H1 s1 => ?_, fun hb => ?_⟩
    rotate_left
    · rw [if_neg hb] at er
      exact er _ rfl A.cWrongList (by simp [errs])
    rw [if_pos hb] at q
    obtain ⟨hb1, hb2⟩ := hb
    have hlt : ∀ x ∈ l, 0 ≤ x ∧ x.toNat < fl.days.length := fun x hx => by
      have := List.all_eq_true.mp hb1 x hx
      unfold VbsyCore.isBetween at this
      simp at this
      omega
    refine ⟨_, rfl, a, fl, rfl, (hF.on s1).at, fun H2 r us s2 nr hr hds => ?_⟩
    rw [days_T wf] at hds
    have hg2 := s2.seq (s1.seq hg)
    refine ⟨_, rfl, g, rfl, ⟨_, hg2⟩, fun D nD => ?_⟩
    obtain ⟨Pv, hPv⟩ : ∃ Pv : Nat → Hp → Prop, ∀ i H', Pv i H' ↔ ∃ vs : List V, i ≤ l.length ∧ Same H2 H' ∧ H' D = some (.lst vs) ∧ DictsAt H' vs (((l.take i).map Int.toNat).map (HFM.dayT fl)) := ⟨_, fun _ _ => Iff.rfl⟩
    refine lc_list (xs := intsV l) Pv ((hPv _ _).mpr ⟨[], Nat.zero_le _, same_new nD, upd_same, trivial⟩) (fun i H' _ h5 => ?_) (fun i v H' hi h5 => ?_) (fun H3 h5 => ?_)
    · obtain ⟨_, _, s5, _⟩ := (hPv _ _).mp h5
      exact s5.seq hg2
    · obtain ⟨vs, hil, s5, hD5, hvs⟩ := (hPv _ _).mp h5
      obtain ⟨x, hx, rfl⟩ := ints_get hi
      have hxl := hlt x (List.mem_of_getElem? hx)
      have hilt : i < l.length := (List.getElem?_eq_some_iff.mp hx).1
      have hPi : ((List.range fl.days.length).map (HFM.dayT fl))[x.toNat]? = some (HFM.dayT fl x.toNat) := by rw [List.getElem?_map, List.getElem?_range hxl.2]; rfl
      obtain ⟨v, hv1, hv2⟩ := hds.get hPi
      refine ⟨rfl, ?_⟩
      refine ⟨_, rfl, _, rfl, r, us, x, .ref v, rfl, rfl, SqL.of (s5 _ _ hr), ?_, vs, hD5, ?_, ?_⟩
      · have := atI_nat hv1
        rw [Int.toNat_of_nonneg hxl.1] at this
        exact this
      · rw [hvs.len, List.length_map, List.length_map, List.length_take]
        exact Nat.lt_of_le_of_lt (show _ ≤ 2000 by omega) (by decide)
      · refine (hPv _ _).mpr ⟨vs ++ [.ref v], hilt, same_mut s5 nD, upd_same, ?_⟩
        rw [take_get hx, List.map_append, List.map_append]
        have keep : ∀ b x, H' b = some (.dT x) → (upd H' D (.lst (vs ++ [.ref v]))) b = some (.dT x) := fun b x e => by
          rw [upd_ne (ne_of e hD5 (by intro q; cases q))]
          exact e
        exact (hvs.imp keep).snoc (keep _ _ (s5 _ _ hv2))
    obtain ⟨vs, hil, s5, hD5, hvs⟩ := (hPv _ _).mp h5
    rw [intsV_len, List.take_length] at hvs
    have hml : (l.map Int.toNat).length ≤ 2000 := by rw [List.length_map]; exact hl
    have hmlt : ∀ d ∈ l.map Int.toNat, d < fl.days.length := fun d hd => by
      obtain ⟨x, hx, rfl⟩ := List.mem_map.mp hd
      exact (hlt x hx).2
    rw [HFM.carries_each hk, HFM.most_eq] at q
    clear er hrun hb2
    generalize l.map Int.toNat = m at q hml hmlt hvs
    refine ⟨D, vs, _, rfl, hD5, hvs, fun ps hps => ?_, by rw [List.length_map]; exact hml, fun H4 p s6 np hp => ?_⟩
    · obtain ⟨d, hd, rfl⟩ := List.mem_map.mp hps
      exact dayT_len wf (hmlt d hd)
    have hds4 := hds.on (s5.trans s6)
    have hr4 := s6 _ _ (s5 _ _ hr)
    refine ⟨_, rfl, p, natI (HFM.each [] (m.map (HFM.dayT fl))), rfl, by rw [natI_V]; exact SqL.of hp, ?_⟩
    rw [natI_sum]
    have husl : us.length = fl.days.length := by rw [hds.len, List.length_map, List.length_range]
    have hev := Evl.el_lcL (K := K) (H := H4) (σ := [some (.ref a), some (.ref g), some (.ref r), some (.ref p), none, none]) (a := r) (xs := us) (tl := tVar 2) (t := tYes) (te := tCB rLenT (tCons (tVar 5) tNil)) (j := 5) (vs := [5]) (fun _ => true) (fun i => V.int ((HFM.dayT fl i).length : Nat))
      (Evl.ev_var rfl) (SqL.of hr4) (by omega) (fun x => rfl) (fun i x H5 e hi => fun H6 e6 Q6 q6 => q6 H6 (Evl.Ex.refl H6))
      (fun i x H5 e hi _ => by
        obtain ⟨t, y, rfl, hy, ht⟩ := (hds4.on e).get2 hi
        have hin : i < fl.days.length := by rw [← husl]; exact (List.getElem?_eq_some_iff.mp hi).1
        rw [List.getElem?_map, List.getElem?_range hin] at hy
        have hy2 : HFM.dayT fl i = y := Option.some.inj hy
        subst hy2
        refine Evl.ev_cb (Evl.ea_cons (Evl.ev_var rfl) Evl.ea_nil) fun H6 e6 Q6 q6 => ⟨t, _, rfl, e6 _ _ ht, ?_⟩
        have e1 : (dictT (HFM.dayT fl i)).length = (HFM.dayT fl i).length := by unfold dictT; rw [List.length_map]
        rw [e1]
        exact q6 H6 (Evl.Ex.refl H6))
    rw [given_all, husl] at hev
    have hnat : (List.range fl.days.length).map (fun i => V.int ((HFM.dayT fl i).length : Nat)) = (natI ((List.range fl.days.length).map fun d => (HFM.dayT fl d).length)).map V.int := by
      rw [natI_V]
      unfold natsV
      rw [List.map_map]
      rfl
    rw [hnat] at hev
    dsimp only [tCons, tCKw, L2.start]
    refine hev H4 (Evl.Ex.refl H4) _ fun D2 H5 nD2 e5 hD2 => ?_
    refine ⟨D2, _, _, rfl, rfl, SqL.of hD2, fun e0 => ?_, fun mx hmx hle => ?_⟩
    · have e1 : (List.range fl.days.length).map (fun d => (HFM.dayT fl d).length) = [] := by
        unfold natI at e0
        exact List.map_eq_nil_iff.mp e0
      refine ⟨(by show 2 ≤ sizeLine; decide), fun p2 np2 => ?_⟩
      obtain ⟨h4, h5⟩ := (((((hF.on s1).on s2).on s5).on s6).on e5).new (o := .lst [.int ((HFM.each [] (m.map (HFM.dayT fl))).sum : Nat), .int 0]) np2
      refine q _ _ rfl _ p2 h4 h5 (upd_same.trans ?_)
      rw [e1]
      rfl
    · unfold natI at hmx hle
      obtain ⟨k, hk1, rfl⟩ := List.mem_map.mp hmx
      have hmax := HFM.max_is hk1 fun x hx => by
        have := hle (x : Int) (List.mem_map.mpr ⟨x, hx, rfl⟩)
        omega
      refine ⟨(by show 2 ≤ sizeLine; decide), fun p2 np2 => ?_⟩
      obtain ⟨h4, h5⟩ := (((((hF.on s1).on s2).on s5).on s6).on e5).new (o := .lst [.int ((HFM.each [] (m.map (HFM.dayT fl))).sum : Nat), .int (k : Nat)]) np2
      refine q _ _ rfl _ p2 h4 h5 (upd_same.trans ?_)
      rw [hmax]
      rfl
end
end HF
namespace HF
open PySem PySem.Spec PyProof.Rows L2
abbrev s_Table___init__ : Stmt := inClass (top 45) 0
theorem sc_Table___init__ : FnScope ["self", "field", "places", "needed", "standing", "number"] ["self", "field"] (defScope s_Table___init__) := ⟨rfl, rfl, rfl, by decide +kernel, rfl, by decide +kernel, by decide +kernel⟩
abbrev s_Table_line_of : Stmt := inClass (top 45) 1
theorem sc_Table_line_of : FnScope ["self", "number", "day"] ["self", "number"] (defScope s_Table_line_of) := ⟨rfl, rfl, rfl, by decide +kernel, rfl, by decide +kernel, by decide +kernel⟩
abbrev s_Table_least_ending : Stmt := inClass (top 45) 2
theorem sc_Table_least_ending : FnScope ["self", "number", "day", "rest", "line", "other"] ["self", "number", "day"] (defScope s_Table_least_ending) := ⟨rfl, rfl, rfl, by decide +kernel, rfl, by decide +kernel, by decide +kernel⟩
abbrev s_Table_last_day : Stmt := inClass (top 45) 3
theorem sc_Table_last_day : FnScope ["self", "number", "onward", "ranked", "day", "least"] ["self", "number", "onward"] (defScope s_Table_last_day) := ⟨rfl, rfl, rfl, by decide +kernel, rfl, by decide +kernel, by decide +kernel⟩
abbrev s_Table_best_order : Stmt := inClass (top 45) 4
theorem sc_Table_best_order : FnScope ["self", "backward", "onward", "number", "day", "step"] ["self"] (defScope s_Table_best_order) := ⟨rfl, rfl, rfl, by decide +kernel, rfl, by decide +kernel, by decide +kernel⟩
abbrev s_Table_fewest : Stmt := inClass (top 45) 5
theorem sc_Table_fewest : FnScope ["self"] ["self"] (defScope s_Table_fewest) := ⟨rfl, rfl, rfl, by decide +kernel, rfl, by decide +kernel, by decide +kernel⟩
section
variable {P : Program} {w : World} {K : PySem.W.Frag} {mg : Str → Option Value} {base : Heap} {A : Ad}
/-! ### rows of things at addresses -/
def RefsAt {α : Type} (g : α → HO) (H : Hp) : List V → List α → Prop
  | [], [] => True
  | v :: vs, x :: xs => (∃ t, v = .ref t ∧ H t = some (g x)) ∧ RefsAt g H vs xs
  | _, _ => False
section
variable {α : Type} {g : α → HO}
theorem RefsAt.len {H : Hp} : ∀ {vs : List V} {xs : List α}, RefsAt g H vs xs → vs.length = xs.length
  | [], [], _ => rfl
  | v :: vs, x :: xs, h => congrArg (· + 1) (RefsAt.len h.2)
  | [], _ :: _, h => h.elim
  | _ :: _, [], h => h.elim
theorem RefsAt.on {H H' : Hp} (s : Same H H') : ∀ {vs : List V} {xs : List α}, RefsAt g H vs xs → RefsAt g H' vs xs
  | [], [], _ => trivial
  | v :: vs, x :: xs, h => ⟨let ⟨t, e, q⟩ := h.1; ⟨t, e, s _ _ q⟩, RefsAt.on s h.2⟩
  | [], _ :: _, h => h.elim
  | _ :: _, [], h => h.elim
/-- a thing that is none of them may change -/
theorem RefsAt.put {H : Hp} {p : Addr} {o : HO} : ∀ {vs : List V} {xs : List α}, RefsAt g H vs xs → V.ref p ∉ vs → RefsAt g (upd H p o) vs xs
  | [], [], _, _ => trivial
  | v :: vs, x :: xs, h, n => by
    obtain ⟨⟨t, e, q⟩, h2⟩ := h
    refine ⟨⟨t, e, ?_⟩, RefsAt.put h2 fun z => n (List.mem_cons_of_mem _ z)⟩
    have : t ≠ p := fun z => n (by rw [e, z]; simp)
    rw [upd_ne this]
    exact q
  | [], _ :: _, h, _ => h.elim
  | _ :: _, [], h, _ => h.elim
theorem RefsAt.snoc {H : Hp} {t : Addr} {x : α} (ht : H t = some (g x)) : ∀ {vs : List V} {xs : List α}, RefsAt g H vs xs → RefsAt g H (vs ++ [.ref t]) (xs ++ [x])
  | [], [], _ => ⟨⟨t, rfl, ht⟩, trivial⟩
  | v :: vs, y :: xs, h => ⟨h.1, RefsAt.snoc ht h.2⟩
  | [], _ :: _, h => h.elim
  | _ :: _, [], h => h.elim
theorem RefsAt.get {H : Hp} : ∀ {vs : List V} {xs : List α} {i : Nat} {x : α}, RefsAt g H vs xs → xs[i]? = some x → ∃ t, vs[i]? = some (.ref t) ∧ H t = some (g x)
  | [], [], i, x, _, e => by simp at e
  | v :: vs, y :: xs, 0, x, h, e => by
    obtain ⟨⟨t, rfl, q⟩, _⟩ := h
    cases e
    exact ⟨t, rfl, q⟩
  | v :: vs, y :: xs, i + 1, x, h, e => RefsAt.get (i := i) h.2 (by simpa using e)
  | [], _ :: _, _, _, h, _ => h.elim
  | _ :: _, [], _, _, h, _ => h.elim
theorem RefsAt.get2 {H : Hp} {vs : List V} {xs : List α} {i : Nat} {v : V} (h : RefsAt g H vs xs) (e : vs[i]? = some v) : ∃ t x, v = .ref t ∧ xs[i]? = some x ∧ H t = some (g x) := by
  have hi : i < xs.length := by rw [← h.len]; exact (List.getElem?_eq_some_iff.mp e).1
  have hx : xs[i]? = some xs[i] := List.getElem?_eq_getElem hi
  obtain ⟨t, h1, h2⟩ := h.get hx
  rw [e] at h1
  exact ⟨t, _, Option.some.inj h1, hx, h2⟩
/-- what is not tracked is none of them -/
theorem RefsAt.fresh {H : Hp} {p : Addr} (n : H p = none) : ∀ {vs : List V} {xs : List α}, RefsAt g H vs xs → V.ref p ∉ vs
  | [], _, _ => by simp
  | v :: vs, x :: xs, h => by
    obtain ⟨⟨t, rfl, q⟩, h2⟩ := h
    intro z
    rcases List.mem_cons.mp z with z | z
    · cases z
      rw [n] at q
      cases q
    · exact RefsAt.fresh n h2 z
  | _ :: _, [], h => h.elim
end
def natL (l : List Nat) : HO := .lst (natsV l)
def optsV (l : List (Option Nat)) : List V := l.map optV
def optL (l : List (Option Nat)) : HO := .lst (optsV l)
theorem optsV_get {l : List (Option Nat)} {i : Nat} {x : Option Nat} (h : l[i]? = some x) : (optsV l)[i]? = some (optV x) := by
  unfold optsV
  rw [List.getElem?_map, h]
  rfl
theorem optsV_len (l : List (Option Nat)) : (optsV l).length = l.length := by
  unfold optsV
  rw [List.length_map]
/-! ### the table in the heap -/
def tF (n : Nat) (af ast ab al : Addr) : List (Str × V) := [("first", .ref af), ("steps", .ref ast), ("bits", .ref ab), ("sets", .int (2 ^ n : Nat)), ("lines", .ref al)]
theorem ne_fs : (("steps" : Str) == "first") = false := by decide +kernel
theorem ne_fb : (("bits" : Str) == "first") = false := by decide +kernel
theorem ne_sb : (("bits" : Str) == "steps") = false := by decide +kernel
theorem ne_fe : (("sets" : Str) == "first") = false := by decide +kernel
theorem ne_se : (("sets" : Str) == "steps") = false := by decide +kernel
theorem ne_be : (("sets" : Str) == "bits") = false := by decide +kernel
theorem ne_fl : (("lines" : Str) == "first") = false := by decide +kernel
theorem ne_sl : (("lines" : Str) == "steps") = false := by decide +kernel
theorem ne_bl : (("lines" : Str) == "bits") = false := by decide +kernel
theorem ne_el : (("lines" : Str) == "sets") = false := by decide +kernel
theorem tF_first (n : Nat) (af ast ab al : Addr) : (tF n af ast ab al).lookup ("first" : Str) = some (.ref af) := by
  unfold tF
  simp [List.lookup]
theorem tF_steps (n : Nat) (af ast ab al : Addr) : (tF n af ast ab al).lookup ("steps" : Str) = some (.ref ast) := by
  unfold tF
  simp [List.lookup, ne_fs]
theorem tF_bits (n : Nat) (af ast ab al : Addr) : (tF n af ast ab al).lookup ("bits" : Str) = some (.ref ab) := by
  unfold tF
  simp [List.lookup, ne_fb, ne_sb]
theorem tF_sets (n : Nat) (af ast ab al : Addr) : (tF n af ast ab al).lookup ("sets" : Str) = some (.int (2 ^ n : Nat)) := by
  unfold tF
  simp [List.lookup, ne_fe, ne_se, ne_be]
theorem tF_lines (n : Nat) (af ast ab al : Addr) : (tF n af ast ab al).lookup ("lines" : Str) = some (.ref al) := by
  unfold tF
  simp [List.lookup, ne_fl, ne_sl, ne_bl, ne_el]
/-- no field of that name -/
theorem tF_none (n : Nat) (af ast ab al : Addr) {m : Str} (h1 : (m == "first") = false) (h2 : (m == "steps") = false) (h3 : (m == "bits") = false) (h4 : (m == "sets") = false) (h5 : (m == "lines") = false) : (tF n af ast ab al).lookup m = none := by
  unfold tF
  simp [List.lookup, h1, h2, h3, h4, h5]
/-- the table of f at a, with k lines -/
structure TX (C : Addr) (H : Hp) (a : Addr) (f : Vbsyae.Field) (k : Nat) (dx af ast ab al : Addr) (ss ls : List V) : Prop where
  few : f.days.length ≤ 7
  at_ : H a = some (.ins C dx (tF f.days.length af ast ab al))
  hf : H af = some (.lst (natsV ((List.range f.days.length).map fun d => (Vbsyae.places f d).length)))
  hs : H ast = some (.lst ss)
  hss : RefsAt natL H ss ((List.range f.days.length).map fun i => (List.range f.days.length).map fun j => Vbsyae.carry f i j)
  hb : H ab = some (.lst (natsV ((List.range f.days.length).map fun d => 2 ^ d)))
  hl : H al = some (.lst ls)
  hls : RefsAt optL H ls (HFM.fLines f k)
theorem TX.on {C : Addr} {H H' : Hp} {a : Addr} {f : Vbsyae.Field} {k : Nat} {dx af ast ab al : Addr} {ss ls : List V} (h : TX C H a f k dx af ast ab al ss ls) (s : Same H H') : TX C H' a f k dx af ast ab al ss ls :=
  ⟨h.few, s _ _ h.at_, s _ _ h.hf, s _ _ h.hs, h.hss.on s, s _ _ h.hb, s _ _ h.hl, h.hls.on s⟩
theorem range_get {α : Type} {n i : Nat} (g : Nat → α) (h : i < n) : ((List.range n).map g)[i]? = some (g i) := by
  rw [List.getElem?_map, List.getElem?_range h]
  rfl
theorem ev_calM {σ : L2.St} {H : Hp} {C a dx : Addr} {m : Str} {sp : Sp} {E : XK} {to : TE} {t : TA} {vs : List V} {fs : List (Str × V)} {z : V} (ho : Evl.Ev to σ H (.ref a)) (ha : H a = some (.ins C dx fs)) (hm : fs.lookup m = none) (h : Evl.EvA t σ H vs) (hs : Evl.SpV sp (.ref a :: vs) H z) : Evl.Ev (tCalM C m sp E to t) σ H z := fun H1 e Q q =>
  ho H1 e _ fun H2 e2 => ⟨a, dx, fs, rfl, e2 _ _ (e _ _ ha), hm, h H2 (e.trans e2) _ fun H3 e3 => hs H3 ((e.trans e2).trans e3) Q (fun H4 e4 => q H4 ((e2.trans e3).trans e4)) E⟩
theorem and_bit : ∀ x, x < 128 → ∀ d, d < 7 → decide (x &&& 2 ^ d = 0) = !Vbsyae.bit x d := by decide +kernel
/-- l[i] of a list of the heap -/
theorem ev_ixl {σ : L2.St} {H : Hp} {ta tb : TE} {p : Addr} {xs : List V} {i : Nat} {v : V} (ha : Evl.Ev ta σ H (.ref p)) (hb : Evl.Ev tb σ H (.int (i : Int))) (hp : H p = some (.lst xs)) (h : xs[i]? = some v) : Evl.Ev (tOp (rIxL K) ta tb) σ H v := Evl.ev_op ha hb (Evl.rv_ixL (Evl.sq_of hp) (atI_nat h))
def sp_least_ending (A : Ad) : Sp := fun vs H Q _ => ∃ (a : Addr) (f : Vbsyae.Field) (k x d : Nat) (dx af ast ab al : Addr) (ss ls : List V), vs = [.ref a, .int x, .int d] ∧ TX A.cTable H a f k dx af ast ab al ss ls ∧ x ≤ k ∧ x < 2 ^ f.days.length ∧ d < f.days.length ∧
  ∀ H', Same H H' → Q (optV (HFM.fE f x d)) H'
theorem ok_least_ending {f : Addr} {fd : FuncData} (F : Fun K "least_ending" "Table.least_ending" s_Table_least_ending f fd) (T : Txt K mg A) : FnOk P w K mg base CX0 1 f fd ["self", "number", "day"] (sp_least_ending A) := by
  refine F.ok sc_Table_least_ending (fun vs H Q E h => ?_) (fun cdv B outer s H vs Q E hr h => ?_)
  · obtain ⟨a, f, k, x, d, dx, af, ast, ab, al, ss, ls, rfl, _⟩ := h
    rfl
  · obtain ⟨a, fl, k, x, d, dx, af, ast, ab, al, ss, ls, rfl, X, hxk, hx, hd, q⟩ := h
    refine ⟨_, (pss_cons (ps_if (pt_cmpR op_eq (pe_op op_and (pv 1) (pe_ix ix_list (pe_fld (pv 0) rfl) (pv 2) (fun _ _ => rfl))) pe_int (nomark _)) (pss_one (ps_ret pe_non)) pss_nil)
      (pss_cons (ps_set (i := 3) sc_Table_least_ending.nd rfl (Or.inl rfl) (pe_op op_sub (pv 1) (pe_ix ix_list (pe_fld (pv 0) rfl) (pv 2) (fun _ _ => rfl))))
      (pss_cons (ps_if (pt_cmpR op_eq (pv 3) pe_int (nomark _)) (pss_one (ps_ret (pe_ix ix_list (pe_fld (pv 0) rfl) (pv 2) (fun _ _ => rfl)))) pss_nil)
      (pss_cons (ps_set (i := 4) sc_Table_least_ending.nd rfl (Or.inr rfl) (pe_ix ix_list (pe_fld (pv 0) rfl) (pv 3) (fun _ _ => rfl)))
      (pss_one (ps_ret (pe_callB (cr_min rfl) (by rfl) T.min (by decide +kernel) (pa_cons (pe_lc (own := [("other", 5)]) (g := gName 5) (by rfl) sc_Table_least_ending.nd (pi_range1 (by rfl) T.range (pa_cons (pe_callB call_len_seq (by rfl) T.len PySem.boot_len (pa_cons (pv 4) pa_nil)) pa_nil)) (blkOk_by (own := [("other", 5)]) (N := ["self", "number", "day", "rest", "line", "other"]) (sc := defScope s_Table_least_ending) (by decide +kernel)) (fun _ _ _ _ _ => (pg_name (i := 5) sc_Table_least_ending.nd rfl (Or.inl rfl))) (fun _ _ _ _ _ => (pts_one (pt_cmpR op_notN (pe_ix (r := rIxL K) ix_list (pv 4) (pv 5) (fun _ _ => rfl)) pe_non (nomark _)))) (fun _ _ _ _ _ => (pe_op op_add (pe_ix (r := rIxL K) ix_list (pv 4) (pv 5) (fun _ _ => rfl)) (pe_ix (r := rIxL K) ix_list (pe_ix (r := rIxL K) ix_list (fldK rfl (pv 0) rfl) (pv 5) (fun _ _ => rfl)) (pv 2) (fun _ _ => rfl))))) pa_nil)))))))), ?_⟩
    have hn := X.few
    have h128 := HFM.pow_le7 fl.days.length (by omega)
    have hE := HFM.E_eq fl.days.length (HFM.fF1 fl) (Vbsyae.carry fl) (x := x) hd
    have hbits : ∀ {σ : L2.St} {H' : Hp} {t2 : TE}, TX A.cTable H' a fl k dx af ast ab al ss ls → σ[0]? = some (some (.ref a)) → Evl.Ev t2 σ H' (.int (d : Int)) → Evl.Ev (tOp (rIxL K) (tFld K (tVar 0) "bits") t2) σ H' (.int ((2 ^ d : Nat) : Int)) := fun X' h0 h2 =>
      ev_ixl (ev_fld (Evl.ev_var h0) X'.at_ T.clTable T.nBits (tF_bits _ _ _ _ _)) h2 X'.hb (natsV_get (range_get _ hd))
    have eand : Builtin.bitAnd (x : Int) ((2 ^ d : Nat) : Int) = ((x &&& 2 ^ d : Nat) : Int) := by
      rw [bitAnd_pp (Int.natCast_nonneg _) (Int.natCast_nonneg _), Int.toNat_natCast, Int.toNat_natCast]
    refine Evl.q_when (b := !Vbsyae.bit x d) (Evl.et_test (Evl.ev_is (Evl.ev_op (Evl.ev_op (Evl.ev_var rfl) (hbits X rfl (Evl.ev_var rfl)) Evl.rv_I0) Evl.ev_c (Evl.rv_eq rfl)) ?_)) (fun hb H1 e1 => ?_) (fun hb H1 e1 => ?_)
    · rw [eand, ← and_bit x (by omega) d (by omega)]
      congr 1
      by_cases c : x &&& 2 ^ d = 0
      · rw [decide_eq_true c]
        exact decide_eq_true (by rw [c]; rfl)
      · rw [decide_eq_false c]
        exact decide_eq_false (by intro z; have := V.int.inj z; omega)
    · have hb' : Vbsyae.bit x d = false := by simpa using hb
      have : HFM.fE fl x d = none := by
        unfold HFM.fE
        rw [hE, hb']
        rfl
      rw [this] at q
      exact q H1 e1
    · have hb' : Vbsyae.bit x d = true := by simpa using hb
      have hle := HFM.bit_le hb'
      have hpos := Nat.two_pow_pos d
      have X1 := X.on e1
      have esub : (x : Int) - ((2 ^ d : Nat) : Int) = ((x - 2 ^ d : Nat) : Int) := by omega
      refine Evl.q_asg (v := .int ((x - 2 ^ d : Nat) : Int)) (Evl.ev_is (Evl.ev_op (Evl.ev_var rfl) (hbits X1 rfl (Evl.ev_var rfl)) Evl.rv_I0) (congrArg V.int esub)) fun H2 e2 => ?_
      have X2 := X1.on e2
      rw [hb', if_neg (show ¬ (true = false) from Bool.noConfusion)] at hE
      have hrest : x - 2 ^ d < x := by omega
      refine Evl.q_when (b := decide (x - 2 ^ d = 0)) (Evl.et_test (Evl.ev_is (Evl.ev_op (Evl.ev_var rfl) Evl.ev_c (Evl.rv_eq rfl)) ?_)) (fun hb H3 e3 => ?_) (fun hb H3 e3 => ?_)
      · congr 1
        by_cases c : x - 2 ^ d = 0
        · rw [decide_eq_true c]
          exact decide_eq_true (by rw [c]; rfl)
        · rw [decide_eq_false c]
          exact decide_eq_false (by intro z; have := V.int.inj z; omega)
      · have X3 := X2.on e3
        rw [if_pos (of_decide_eq_true hb)] at hE
        have hq : HFM.fE fl x d = some (Vbsyae.places fl d).length := hE
        rw [hq] at q
        refine Evl.s_ret (ev_ixl (ev_fld (Evl.ev_var rfl) X3.at_ T.clTable T.nFirst (tF_first _ _ _ _ _)) (Evl.ev_var rfl) X3.hf (natsV_get (range_get _ hd))) fun H4 e4 => ?_
        exact q H4 (((e1.trans e2).trans e3).trans e4)
      · have X3 := X2.on e3
        have h0 : ¬ x - 2 ^ d = 0 := of_decide_eq_false hb
        rw [if_neg h0] at hE
        generalize x - 2 ^ d = y at *
        have hyk : (HFM.fLines fl k)[y]? = some (HFM.L fl.days.length (HFM.fF1 fl) (Vbsyae.carry fl) y) := HFM.linesTo_get _ _ _ (by omega)
        obtain ⟨t, ht1, ht2⟩ := X3.hls.get hyk
        refine Evl.q_asg (v := .ref t) (ev_ixl (ev_fld (Evl.ev_var rfl) X3.at_ T.clTable T.nLines (tF_lines _ _ _ _ _)) (Evl.ev_var rfl) X3.hl ht1) fun H4 e4 => ?_
        have X4 := X3.on e4
        have ht4 := e4 _ _ ht2
        have hLl : (optsV (HFM.L fl.days.length (HFM.fF1 fl) (Vbsyae.carry fl) y)).length = fl.days.length := by rw [optsV_len, HFM.L_len]
        have hLg : ∀ e, e < fl.days.length → (optsV (HFM.L fl.days.length (HFM.fF1 fl) (Vbsyae.carry fl) y))[e]? = some (optV (HFM.fE fl y e)) := fun e he => optsV_get (HFM.L_get _ _ _ he)
        have hoptN : ∀ o : Option Nat, (!decide (optV o = V.non)) = o.isSome := fun o => by cases o <;> rfl
        have hev := Evl.el_lcR1 (H := H4) (σ := [some (.ref a), some (.int x), some (.int d), some (.int y), some (.ref t), none]) (ta := tCons (tCB (fun xs H Q => ∃ p ys, xs = [.ref p] ∧ (SqL K H p ys ∨ SqT K H p ys) ∧ Q (.int ys.length) H) (tCons (tVar 4) tNil)) tNil)
          (t := tTest (tOp (fun x y H Q => y = .non ∧ Q (.bl (!decide (x = .non))) H) (tOp (rIxL K) (tVar 4) (tVar 5)) (tC .non))) (te := tOp (rI0 fun i j => V.int (i + j)) (tOp (rIxL K) (tVar 4) (tVar 5)) (tOp (rIxL K) (tOp (rIxL K) (tFld K (tVar 0) "steps") (tVar 5)) (tVar 2))) (j := 5) (vs := [5]) (n := (fl.days.length : Int))
          (fun e => (HFM.fE fl y e).isSome) (fun e => V.int (((HFM.fE fl y e).getD 0 + Vbsyae.carry fl e d : Nat) : Int))
          (by
            have := Evl.ev_len (K := K) (σ := [some (.ref a), some (.int x), some (.int d), some (.int y), some (.ref t), none]) (H := H4) (ta := tVar 4) (Evl.ev_var rfl) (SqL.of ht4)
            rw [hLl] at this
            exact Evl.ea_cons this Evl.ea_nil) (by omega) (fun z => rfl)
          (fun e H5 e5 he => by
            have he' : e < fl.days.length := by omega
            refine Evl.et_test (Evl.ev_is (Evl.ev_op (ev_ixl (Evl.ev_var rfl) (Evl.ev_var rfl) (e5 _ _ ht4) (hLg e he')) Evl.ev_c (Evl.rv_val fun H6 _ Q6 q6 => ⟨rfl, q6⟩)) ?_)
            exact congrArg V.bl (hoptN _))
          (fun e H5 e5 he hs => by
            have he' : e < fl.days.length := by omega
            have X5 := X4.on e5
            obtain ⟨u, hu1, hu2⟩ := X5.hss.get (range_get (fun i => (List.range fl.days.length).map fun j => Vbsyae.carry fl i j) he')
            obtain ⟨v, hv⟩ := Option.isSome_iff_exists.mp hs
            have h1 := hLg e he'
            rw [hv] at h1 ⊢
            refine Evl.ev_is (Evl.ev_op (ev_ixl (Evl.ev_var rfl) (Evl.ev_var rfl) (e5 _ _ ht4) h1) (ev_ixl (ev_ixl (ev_fld (Evl.ev_var rfl) X5.at_ T.clTable T.nSteps (tF_steps _ _ _ _ _)) (Evl.ev_var rfl) X5.hs hu1) (Evl.ev_var rfl) hu2 (natsV_get (range_get _ hd))) Evl.rv_I0) ?_
            rfl)
        rw [Int.toNat_natCast] at hev
        have hgiv : Evl.given fl.days.length (fun e => (HFM.fE fl y e).isSome) (fun e => V.int (((HFM.fE fl y e).getD 0 + Vbsyae.carry fl e d : Nat) : Int)) = (natI ((List.range fl.days.length).filterMap fun e => (HFM.fE fl y e).map fun v => v + Vbsyae.carry fl e d)).map V.int := by
          rw [natI_V]
          unfold Evl.given natsV
          generalize List.range fl.days.length = es
          induction es with
          | nil => rfl
          | cons e es ih =>
            rw [List.filter_cons, List.filterMap_cons]
            cases hv : HFM.fE fl y e with
            | none => exact ih
            | some v =>
              show V.int (((HFM.fE fl y e).getD 0 + Vbsyae.carry fl e d : Nat) : Int) :: _ = V.int ((v + Vbsyae.carry fl e d : Nat) : Int) :: _
              rw [hv]
              exact congrArg _ ih
        rw [hgiv] at hev
        have hsome := HFM.E_some fl.days.length (HFM.fF1 fl) (Vbsyae.carry fl) (by omega) x hx d hd
        rw [hb'] at hsome
        rw [hE] at hsome
        obtain ⟨mm, hmm⟩ := Option.isSome_iff_exists.mp hsome
        rw [hmm] at hE
        have hq : HFM.fE fl x d = some mm := hE
        rw [hq] at q
        obtain ⟨hm1, hm2⟩ := List.min?_eq_some_iff.mp hmm
        dsimp only [tRet, tCB, tCons, L2.start]
        refine hev H4 (Evl.Ex.refl H4) _ fun D H5 nD e5 hD => ?_
        refine ⟨D, _, rfl, SqL.of hD, ?_, fun m hm hle2 => ?_⟩
        · unfold natI
          rw [List.length_map]
          exact List.length_pos_of_mem hm1
        · unfold natI at hm hle2
          obtain ⟨j, hj, rfl⟩ := List.mem_map.mp hm
          have h1 := hm2 j hj
          have h2 := hle2 (mm : Int) (List.mem_map.mpr ⟨mm, hm1, rfl⟩)
          have : j = mm := by omega
          rw [this]
          exact q H5 ((((e1.trans e2).trans e3).trans e4).trans e5)
end
end HF
namespace HF
open PySem PySem.Spec PyProof.Rows L2
section
variable {P : Program} {w : World} {K : PySem.W.Frag} {mg : Str → Option Value} {base : Heap} {A : Ad}
theorem L_map (f : Vbsyae.Field) (x : Nat) : HFM.L f.days.length (HFM.fF1 f) (Vbsyae.carry f) x = (List.range f.days.length).map fun d => HFM.fE f x d := by
  refine List.ext_getElem? fun i => ?_
  by_cases hi : i < f.days.length
  · rw [HFM.L_get _ _ _ hi, range_get _ hi]
  · rw [List.getElem?_eq_none (by rw [HFM.L_len]; omega), List.getElem?_eq_none (by rw [List.length_map, List.length_range]; omega)]
abbrev fL (f : Vbsyae.Field) (x : Nat) : List (Option Nat) := HFM.L f.days.length (HFM.fF1 f) (Vbsyae.carry f) x
def sp_line_of (A : Ad) : Sp := fun vs H Q _ => ∃ (a : Addr) (f : Vbsyae.Field) (k x : Nat) (dx af ast ab al : Addr) (ss ls : List V), vs = [.ref a, .int x] ∧ TX A.cTable H a f k dx af ast ab al ss ls ∧ x ≤ k ∧ x < 2 ^ f.days.length ∧
  ∀ (H' : Hp) (r : Addr), Same H H' → H r = none → H' r = some (optL (fL f x)) → Q (.ref r) H'
theorem nm_least {n : Nat} {af ast ab al : Addr} : (tF n af ast ab al).lookup ("least_ending" : Str) = none := tF_none _ _ _ _ _ (by decide +kernel) (by decide +kernel) (by decide +kernel) (by decide +kernel) (by decide +kernel)
theorem nm_line {n : Nat} {af ast ab al : Addr} : (tF n af ast ab al).lookup ("line_of" : Str) = none := tF_none _ _ _ _ _ (by decide +kernel) (by decide +kernel) (by decide +kernel) (by decide +kernel) (by decide +kernel)
theorem nm_last {n : Nat} {af ast ab al : Addr} : (tF n af ast ab al).lookup ("last_day" : Str) = none := tF_none _ _ _ _ _ (by decide +kernel) (by decide +kernel) (by decide +kernel) (by decide +kernel) (by decide +kernel)
theorem nm_best {n : Nat} {af ast ab al : Addr} : (tF n af ast ab al).lookup ("best_order" : Str) = none := tF_none _ _ _ _ _ (by decide +kernel) (by decide +kernel) (by decide +kernel) (by decide +kernel) (by decide +kernel)
theorem nm_few {n : Nat} {af ast ab al : Addr} : (tF n af ast ab al).lookup ("fewest" : Str) = none := tF_none _ _ _ _ _ (by decide +kernel) (by decide +kernel) (by decide +kernel) (by decide +kernel) (by decide +kernel)
theorem ok_line_of {f : Addr} {fd : FuncData} (F : Fun K "line_of" "Table.line_of" s_Table_line_of f fd) (T : Txt K mg A) (m_Table_least_ending : CalM P w K mg base CX0 1 A.cTable "least_ending" ["self", "number", "day"] (sp_least_ending A)) : FnOk P w K mg base CX0 2 f fd ["self", "number"] (sp_line_of A) := by
  refine F.ok sc_Table_line_of (fun vs H Q E h => ?_) (fun cdv B outer s H vs Q E hr h => ?_)
  · obtain ⟨a, f, k, x, dx, af, ast, ab, al, ss, ls, rfl, _⟩ := h
    rfl
  · obtain ⟨a, fl, k, x, dx, af, ast, ab, al, ss, ls, rfl, X, hxk, hx, q⟩ := h
    refine ⟨_, (pss_one (ps_ret (pe_lc (own := [("day", 2)]) (g := gName 2) (tt := tYes) (by rfl) sc_Table_line_of.nd (pi_range1 (by rfl) T.range (pa_cons (pe_callB call_len_seq (by rfl) T.len PySem.boot_len (pa_cons (pe_fld (pv 0) rfl) pa_nil)) pa_nil)) (blkOk_by (own := [("day", 2)]) (N := ["self", "number", "day"]) (sc := defScope s_Table_line_of) (by decide +kernel)) (fun _ _ _ _ _ => (pg_name (i := 2) sc_Table_line_of.nd rfl (Or.inl rfl))) (fun _ _ _ _ _ => pts_nil) (fun _ _ _ _ _ => (pe_calM T.clTable m_Table_least_ending hr pass0 (pv 0) (pa_cons (pv 1) (pa_cons (pv 2) pa_nil))))))), ?_⟩
    have hn := X.few
    have hbl : (natsV ((List.range fl.days.length).map fun d => 2 ^ d)).length = fl.days.length := by rw [natsV_len, List.length_map, List.length_range]
    have hev := Evl.el_lcR1 (H := H) (σ := [some (.ref a), some (.int x), none]) (ta := tCons (tCB (fun xs H Q => ∃ p ys, xs = [.ref p] ∧ (SqL K H p ys ∨ SqT K H p ys) ∧ Q (.int ys.length) H) (tCons (tFld K (tVar 0) "bits") tNil)) tNil)
      (t := tYes) (te := tCalM A.cTable "least_ending" (sp_least_ending A) E0 (tVar 0) (tCons (tVar 1) (tCons (tVar 2) tNil))) (j := 2) (vs := [2]) (n := (fl.days.length : Int)) (fun _ => true) (fun d => optV (HFM.fE fl x d))
      (by
        have := Evl.ev_len (K := K) (σ := [some (.ref a), some (.int x), none]) (H := H) (ta := tFld K (tVar 0) "bits") (ev_fld (Evl.ev_var rfl) X.at_ T.clTable T.nBits (tF_bits _ _ _ _ _)) (SqL.of X.hb)
        rw [hbl] at this
        exact Evl.ea_cons this Evl.ea_nil) (by omega) (fun z => rfl) (fun i H1 e hi => fun H2 e2 Q2 q2 => q2 H2 (Evl.Ex.refl H2))
      (fun d H1 e hi _ => ev_calM (Evl.ev_var rfl) (X.on e).at_ nm_least (Evl.ea_cons (Evl.ev_var rfl) (Evl.ea_cons (Evl.ev_var rfl) Evl.ea_nil)) fun H2 e2 Q2 q2 E2 => ⟨a, fl, k, x, d, dx, af, ast, ab, al, ss, ls, rfl, (X.on e).on e2, hxk, hx, by omega, fun H3 s3 => q2 H3 s3⟩)
    rw [Int.toNat_natCast, given_all] at hev
    have e1 : (List.range fl.days.length).map (fun d => optV (HFM.fE fl x d)) = optsV (fL fl x) := by
      unfold optsV fL
      rw [L_map, List.map_map]
      rfl
    rw [e1] at hev
    dsimp only [tRet, L2.start]
    refine hev H (Evl.Ex.refl H) _ fun D H1 nD e2 hD => ?_
    exact q H1 D e2 nD hD
/-! ### the last day -/
def pr (z : Nat × Nat) : List Int := [(z.1 : Int), (z.2 : Int)]
theorem pr_lt (a b : Nat × Nat) : rowLt (pr a) (pr b) = decide (a.1 < b.1 ∨ (a.1 = b.1 ∧ a.2 < b.2)) := by
  obtain ⟨a, c⟩ := a
  obtain ⟨b, d⟩ := b
  unfold pr
  simp only [rowLt]
  by_cases h : a = b
  · subst h
    rw [if_pos rfl]
    by_cases h2 : c = d
    · subst h2
      simp
    · have h2' : ¬ (c : Int) = d := by omega
      rw [if_neg h2']
      simp
  · have h' : ¬ (a : Int) = b := by omega
    rw [if_neg h']
    simp [h]
theorem min_pr : ∀ (zs : List (Nat × Nat)) (z : Nat × Nat), ∃ m, minRow (pr z) (zs.map pr) = pr m ∧ m ∈ z :: zs ∧ ∀ y ∈ z :: zs, m.1 < y.1 ∨ (m.1 = y.1 ∧ m.2 ≤ y.2)
  | [], z => ⟨z, rfl, by simp, fun y hy => by
    have : y = z := by simpa using hy
    subst this
    exact .inr ⟨rfl, Nat.le_refl _⟩⟩
  | x :: zs, z => by
    have e : minRow (pr z) ((x :: zs).map pr) = minRow (if rowLt (pr x) (pr z) = true then pr x else pr z) (zs.map pr) := rfl
    rw [e, pr_lt]
    by_cases c : x.1 < z.1 ∨ (x.1 = z.1 ∧ x.2 < z.2)
    · rw [if_pos (decide_eq_true c)]
      obtain ⟨m, h1, h2, h3⟩ := min_pr zs x
      refine ⟨m, h1, List.mem_cons_of_mem _ h2, fun y hy => ?_⟩
      rcases List.mem_cons.mp hy with q | q
      · have := h3 x (by simp)
        subst q
        omega
      · exact h3 y q
    · rw [if_neg (by simpa using c)]
      obtain ⟨m, h1, h2, h3⟩ := min_pr zs z
      refine ⟨m, h1, ?_, fun y hy => ?_⟩
      · rcases List.mem_cons.mp h2 with q | q
        · rw [q]; simp
        · exact List.mem_cons_of_mem _ (List.mem_cons_of_mem _ q)
      · rcases List.mem_cons.mp hy with q | q
        · exact h3 y (by rw [q]; simp)
        · rcases List.mem_cons.mp q with q | q
          · have := h3 z (by simp)
            subst q
            omega
          · exact h3 y (List.mem_cons_of_mem _ q)
/-- the pairs of sum and day -/
def ranked (f : Vbsyae.Field) (x : Nat) (on : List Nat) (i : Nat) : List (Nat × Nat) := (List.range i).filterMap fun d => (HFM.fE f x d).map fun v => (v + on.getD d 0, d)
theorem ranked_succ (f : Vbsyae.Field) (x : Nat) (on : List Nat) (i : Nat) : ranked f x on (i + 1) = ranked f x on i ++ match HFM.fE f x i with
    | none => []
    | some v => [(v + on.getD i 0, i)] := by
  unfold ranked
  rw [List.range_succ, List.filterMap_append]
  congr 1
  cases h : HFM.fE f x i <;> simp [List.filterMap_cons, h]
theorem ranked_len (f : Vbsyae.Field) (x : Nat) (on : List Nat) (i : Nat) : (ranked f x on i).length ≤ i := by
  unfold ranked
  refine Nat.le_trans (List.length_filterMap_le _ _) ?_
  rw [List.length_range]
  exact Nat.le_refl _
theorem pick_of {f : Vbsyae.Field} {x : Nat} {on : List Nat} {m : Nat × Nat} (h1 : m ∈ ranked f x on f.days.length) (h2 : ∀ y ∈ ranked f x on f.days.length, m.1 < y.1 ∨ (m.1 = y.1 ∧ m.2 ≤ y.2)) : HFM.IsPick f x (fun e => on.getD e 0) m.2 := by
  unfold ranked at h1 h2
  obtain ⟨d, hd, hm⟩ := List.mem_filterMap.mp h1
  cases hv : HFM.fE f x d with
  | none => rw [hv] at hm; cases hm
  | some v =>
    rw [hv] at hm
    have hm2 : (v + on.getD d 0, d) = m := Option.some.inj hm
    subst hm2
    refine ⟨List.mem_range.mp hd, v, hv, fun e he u hu => ?_⟩
    exact h2 (u + on.getD e 0, e) (List.mem_filterMap.mpr ⟨e, List.mem_range.mpr he, by rw [hu]; rfl⟩)
def sp_last_day (A : Ad) : Sp := fun vs H Q _ => ∃ (a o : Addr) (f : Vbsyae.Field) (x : Nat) (on : List Nat) (dx af ast ab al : Addr) (ss ls : List V), vs = [.ref a, .int x, .ref o] ∧ TX A.cTable H a f (2 ^ f.days.length) dx af ast ab al ss ls ∧ x < 2 ^ f.days.length ∧ x ≠ 0 ∧ H o = some (.lst (natsV on)) ∧ on.length = f.days.length ∧
  ∀ (H' : Hp) (d : Nat), Same H H' → HFM.IsPick f x (fun e => on.getD e 0) d → Q (.int d) H'
theorem ok_last_day {f : Addr} {fd : FuncData} (F : Fun K "last_day" "Table.last_day" s_Table_last_day f fd) (T : Txt K mg A) : FnOk P w K mg base CX0 1 f fd ["self", "number", "onward"] (sp_last_day A) := by
  refine F.ok sc_Table_last_day (fun vs H Q E h => ?_) (fun cdv B outer s H vs Q E hr h => ?_)
  · obtain ⟨a, o, f, x, on, dx, af, ast, ab, al, ss, ls, rfl, _⟩ := h
    rfl
  · obtain ⟨a, o, fl, x, on, dx, af, ast, ab, al, ss, ls, rfl, X, hx, hx0, ho, hon, q⟩ := h
    refine ⟨_, (pss_cons (ps_set (i := 3) sc_Table_last_day.nd rfl (Or.inl rfl) (pe_lst pa_nil))
      (pss_cons (ps_for PassesOwn.never rfl (pi_enum (by rfl) T.enumerate (pa_cons (pe_ix ix_list (pe_fld (pv 0) rfl) (pv 1) (fun _ _ => rfl)) pa_nil)) (pg_tup rfl (pgs_cons (pg_name (i := 4) sc_Table_last_day.nd rfl (Or.inl rfl)) (pgs_cons (pg_name (i := 5) sc_Table_last_day.nd rfl (Or.inl rfl)) pgs_nil)))
      (pss_one (ps_if (pt_cmpR op_notN (pv 5) pe_non (nomark _)) (pss_one (ps_expr (pe_bm PySem.F.plainAttrs_list PySem.F.slot_list_append PySem.F.type_list_append mt_append (pv 3) (pa_cons (pe_tup (pa_cons (pe_op op_add (pv 5) (pe_ix ix_list (pv 2) (pv 4) (fun _ _ => rfl))) (pa_cons (pv 4) pa_nil))) pa_nil)))) pss_nil)))
      (pss_one (ps_ret (pe_ix ix_tup (pe_callB (cr_minT rfl hr.units) (by rfl) T.min (by decide +kernel) (pa_cons (pv 3) pa_nil)) pe_int (fun _ _ => rfl)))))), ?_⟩
    have hn := X.few
    refine ⟨(by show 0 ≤ sizeLine; decide), fun r nr => ?_⟩
    have s1 := same_new (o := .lst []) nr
    have X1 := X.on s1
    have hyk : (HFM.fLines fl (2 ^ fl.days.length))[x]? = some (fL fl x) := HFM.linesTo_get _ _ _ hx
    obtain ⟨t, ht1, ht2⟩ := X1.hls.get hyk
    have hLl : (optsV (fL fl x)).length = fl.days.length := by rw [optsV_len, HFM.L_len]
    dsimp only [gName, tSeq, L2.start]
    refine ⟨_, rfl, a, A.cTable, dx, _, _, rfl, X1.at_, T.clTable, T.nLines, tF_lines _ _ _ _ _, _, rfl, al, ls, _, _, rfl, rfl, SqL.of X1.hl, atI_nat ht1, t, _, rfl, SqL.of ht2, ?_⟩
    obtain ⟨Pv, hPv⟩ : ∃ Pv : Nat → L2.St → Hp → Prop, ∀ i σ H', Pv i σ H' ↔ ∃ (us : List V) (y4 y5 : Option V), σ = [some (.ref a), some (.int x), some (.ref o), some (.ref r), y4, y5] ∧ Same H H' ∧ H' t = some (.lst (optsV (fL fl x))) ∧ H' r = some (.lst us) ∧ RowsAt H' us ((ranked fl x on i).map pr) := ⟨_, fun _ _ _ => Iff.rfl⟩
    have ntr : t ≠ r := by
      intro z
      subst z
      rw [upd_same] at ht2
      have : HO.lst [] = HO.lst (optsV (fL fl x)) := Option.some.inj ht2
      have h0 : ([] : List V) = optsV (fL fl x) := HO.lst.inj this
      have h1 := congrArg List.length h0
      rw [hLl] at h1
      have : fl.days.length = 0 := h1.symm
      rw [this] at hx
      omega
    refine for_it (walk_enum (xs := optsV (fL fl x))) Pv ((hPv _ _ _).mpr ⟨[], none, none, rfl, s1, ht2, upd_same, trivial⟩) (fun i σ H' _ h5 => ?_) (fun i v σ H' H2 hi h5 y => ?_) (fun σ H' h5 => ?_)
    · obtain ⟨_, _, _, _, _, ht5, _⟩ := (hPv _ _ _).mp h5
      exact SqL.of ht5
    · obtain ⟨us, y4, y5, rfl, s5, ht5, hr5, hus⟩ := (hPv _ _ _).mp h5
      rw [hLl] at hi
      obtain ⟨u, w1, z, rfl, nu, rfl, e1, e2⟩ := y
      cases e1
      dsimp only at e2
      rw [optsV_get (HFM.L_get _ _ _ hi)] at e2
      cases e2
      have s6 := same_new (o := .tup [.int (i : Nat), optV (HFM.fE fl x i)]) nu
      refine ⟨u, _, rfl, Or.inl (Or.inl upd_same), rfl, _, _, rfl, _, _, rfl, rfl, ?_⟩
      have ht6 := s6 _ _ ht5
      have hr6 := s6 _ _ hr5
      have hus6 : RowsAt (upd H' u (.tup [.int (i : Nat), optV (HFM.fE fl x i)])) us ((ranked fl x on i).map pr) := hus.imp fun b xs e => s6 _ _ e
      have s6H := s5.trans s6
      have ho6 := s6H _ _ ho
      change tIfS _ _ _ _ _ _
      generalize upd H' u (.tup [.int (i : Nat), optV (HFM.fE fl x i)]) = H6 at *
      have hrk := ranked_succ fl x on i
      have hrl := ranked_len fl x on i
      have hul : us.length ≤ 7 := by
        rw [hus.len, List.length_map]
        omega
      refine ⟨_, rfl, rfl, _, rfl, ?_⟩
      cases hv : HFM.fE fl x i with
      | none =>
        rw [show HFM.E fl.days.length (HFM.fF1 fl) (Vbsyae.carry fl) x i = none from hv]
        rw [hv] at hrk
        refine iteF ((hPv _ _ _).mpr ⟨us, _, _, rfl, s6H, ht6, hr6, ?_⟩)
        rw [hrk, List.append_nil]
        exact hus6
      | some v =>
        rw [hv] at hrk
        rw [show HFM.E fl.days.length (HFM.fF1 fl) (Vbsyae.carry fl) x i = some v from hv]
        refine iteT ?_
        have hoi : on[i]? = some (on.getD i 0) := by
          rw [List.getD_eq_getElem?_getD, List.getElem?_eq_getElem (by omega)]
          rfl
        refine ⟨_, rfl, .inl ⟨rfl, _, SqL.of hr6⟩, _, rfl, _, rfl, _, rfl, o, _, _, _, rfl, rfl, SqL.of ho6, atI_nat (natsV_get hoi), _, _, rfl, rfl, _, rfl, (by show 2 ≤ sizeLine; decide), fun tt nt => ?_⟩
        have s7 := same_new (o := .tup [.int ((v : Int) + (on.getD i 0 : Nat)), .int (i : Nat)]) nt
        have nrt : r ≠ tt := ne_of_none hr6 nt
        refine ⟨r, us, _, rfl, rfl, s7 _ _ hr6, Nat.lt_of_le_of_lt hul (by decide), ?_⟩
        have keep : ∀ b xs, H6 b = some (.tup xs) → (upd (upd H6 tt (.tup [.int ((v : Int) + (on.getD i 0 : Nat)), .int (i : Nat)])) r (.lst (us ++ [.ref tt]))) b = some (.tup xs) := fun b xs e => by
          rw [upd_ne (ne_of e hr6 (by intro q; cases q))]
          exact s7 _ _ e
        refine (hPv _ _ _).mpr ⟨us ++ [.ref tt], _, _, rfl, same_mut (s6H.trans s7) nr, (upd_ne ntr).trans (s7 _ _ ht6), upd_same, ?_⟩
        rw [hrk, List.map_append]
        refine (hus6.imp keep).snoc (x := pr (v + on.getD i 0, i)) ?_
        rw [upd_ne (Ne.symm nrt), upd_same]
        unfold pr intsV
        simp
    · obtain ⟨us, y4, y5, rfl, s5, ht5, hr5, hus⟩ := (hPv _ _ _).mp h5
      rw [hLl] at hus
      obtain ⟨e, he, hbe⟩ := HFM.bit_some fl.days.length (by omega) x hx hx0
      have hs := HFM.E_some fl.days.length (HFM.fF1 fl) (Vbsyae.carry fl) (by omega) x hx e he
      rw [hbe] at hs
      obtain ⟨v, hv⟩ := Option.isSome_iff_exists.mp hs
      have hne : ranked fl x on fl.days.length ≠ [] := fun z => by
        have : (v + on.getD e 0, e) ∈ ranked fl x on fl.days.length := List.mem_filterMap.mpr ⟨e, List.mem_range.mpr he, by have hv' : HFM.fE fl x e = some v := hv; rw [hv']; rfl⟩
        rw [z] at this
        cases this
      have hpk := @pick_of fl x on
      generalize ranked fl x on fl.days.length = R at *
      cases R with
      | nil => exact absurd rfl hne
      | cons z zs =>
        obtain ⟨m, hm1, hm2, hm3⟩ := min_pr zs z
        refine ⟨_, rfl, r, us, pr z, zs.map pr, rfl, SqL.of hr5, hus.dp, fun i v hi hm => ?_⟩
        rw [hm1] at hm
        obtain ⟨t2, rfl, ht2'⟩ := hus.get hi hm
        refine ⟨t2, _, _, _, rfl, rfl, Evl.st_of ht2', rfl, ?_⟩
        exact q H' m.2 s5 (hpk hm2 hm3)
end
end HF
namespace HF
open PySem PySem.Spec PyProof.Rows L2
section
variable {P : Program} {w : World} {K : PySem.W.Frag} {mg : Str → Option Value} {base : Heap} {A : Ad}
theorem run_congr {f : Vbsyae.Field} {x : Nat} {on on' : Nat → Nat} {B : List Nat} (h : ∀ e, e < f.days.length → on e = on' e) (r : HFM.Run f x on B) : HFM.Run f x on' B := by
  cases r with
  | stop => exact .stop
  | go hp hr =>
    refine .go ?_ hr
    obtain ⟨hd, v, hv, hm⟩ := hp
    refine ⟨hd, v, hv, fun e he u hu => ?_⟩
    rw [← h _ hd, ← h _ he]
    exact hm e he u hu
theorem map_getD (n : Nat) (g : Nat → Nat) (e : Nat) (h : e < n) : ((List.range n).map g).getD e 0 = g e := by
  rw [List.getD_eq_getElem?_getD, range_get _ h]
  rfl
theorem rep_getD (n e : Nat) : (List.replicate n 0).getD e 0 = 0 := by
  rw [List.getD_eq_getElem?_getD, List.getElem?_replicate]
  split <;> rfl
def sp_best_order (A : Ad) : Sp := fun vs H Q _ => ∃ (a : Addr) (f : Vbsyae.Field) (dx af ast ab al : Addr) (ss ls : List V), vs = [.ref a] ∧ TX A.cTable H a f (2 ^ f.days.length) dx af ast ab al ss ls ∧
  ∀ (H' : Hp) (r : Addr), Same H H' → H r = none → H' r = some (.lst (natsV (Vbsyae.bestOrder f))) → (Vbsyae.bestOrder f).length ≤ 7 → Q (.ref r) H'
theorem ok_best_order {f : Addr} {fd : FuncData} (F : Fun K "best_order" "Table.best_order" s_Table_best_order f fd) (T : Txt K mg A) (m_Table_last_day : CalM P w K mg base CX0 1 A.cTable "last_day" ["self", "number", "onward"] (sp_last_day A)) : FnOk P w K mg base CX0 2 f fd ["self"] (sp_best_order A) := by
  refine F.ok sc_Table_best_order (fun vs H Q E h => ?_) (fun cdv B outer s H vs Q E hr h => ?_)
  · obtain ⟨a, f, dx, af, ast, ab, al, ss, ls, rfl, _⟩ := h
    rfl
  · obtain ⟨a, fl, dx, af, ast, ab, al, ss, ls, rfl, X, q⟩ := h
    refine ⟨_, (pss_cons (ps_set (i := 1) sc_Table_best_order.nd rfl (Or.inl rfl) (pe_lst pa_nil))
      (pss_cons (ps_set (i := 2) sc_Table_best_order.nd rfl (Or.inl rfl) (pe_op op_rep (pe_lst (pa_cons pe_int pa_nil)) (pe_callB call_len_seq (by rfl) T.len PySem.boot_len (pa_cons (pe_fld (pv 0) rfl) pa_nil))))
      (pss_cons (ps_set (i := 3) sc_Table_best_order.nd rfl (Or.inl rfl) (pe_op op_sub (pe_fld (pv 0) rfl) pe_int))
      (pss_cons (ps_while PassesOwn.never (pt_cmpR op_gt (pv 3) pe_int (nomark _))
      (pss_cons (ps_set (i := 4) sc_Table_best_order.nd rfl (Or.inr rfl) (pe_calM T.clTable m_Table_last_day hr pass0 (pv 0) (pa_cons (pv 3) (pa_cons (pv 2) pa_nil))))
      (pss_cons (ps_expr (pe_bm PySem.F.plainAttrs_list PySem.F.slot_list_append PySem.F.type_list_append mt_append (pv 1) (pa_cons (pv 4) pa_nil)))
      (pss_cons (ps_aug (i := 3) sc_Table_best_order.nd rfl (Or.inl rfl) (pe_ix ix_list (pe_fld (pv 0) rfl) (pv 4) (fun _ _ => rfl)) ip_sub)
      (pss_one (ps_setLc (i := 2) (own := [("step", 5)]) (g := gName 5) (tt := tYes) (by rfl) sc_Table_best_order.nd rfl rfl (sw_true rfl rfl rfl (by decide +kernel)) (pi_list (pe_fld (pv 0) rfl)) (blkOk_by (own := [("step", 5)]) (N := ["self", "backward", "onward", "number", "day", "step"]) (sc := defScope s_Table_best_order) (by decide +kernel)) (fun _ _ _ _ _ => (pg_name (i := 5) sc_Table_best_order.nd rfl (Or.inl rfl))) (fun _ _ _ _ _ => pts_nil) (fun _ _ _ _ _ => (pe_ix (r := rIxL K) ix_list (pv 5) (pv 4) (fun _ _ => rfl)))))))))
      (pss_one (ps_ret (pe_lstRev rfl (by rfl) T.list (by rfl) T.reversed (pv 1)))))))), ?_⟩
    have hn := X.few
    have hp2 := Nat.two_pow_pos fl.days.length
    have h128 := HFM.pow_le7 fl.days.length (by omega)
    have hbl : (natsV ((List.range fl.days.length).map fun d => 2 ^ d)).length = fl.days.length := by rw [natsV_len, List.length_map, List.length_range]
    refine ⟨(by show 0 ≤ sizeLine; decide), fun r nr => ?_⟩
    have s1 := same_new (o := .lst []) nr
    have X1 := X.on s1
    refine ⟨(by show 1 ≤ sizeLine; decide), fun o1 n1 => ?_⟩
    have s2 := same_new (o := .lst [.int 0]) n1
    have X2 := X1.on s2
    refine ⟨_, rfl, a, A.cTable, dx, _, _, rfl, X2.at_, T.clTable, T.nBits, tF_bits _ _ _ _ _, ab, _, rfl, .inl (SqL.of X2.hb), o1, _, _, rfl, rfl, upd_same, ?_, ?_, ?_, fun o no => ?_⟩
    · rw [hbl]; omega
    · rw [hbl]; omega
    · rw [hbl, Int.toNat_natCast]
      exact Nat.le_trans (show _ ≤ 7 by show 1 * _ ≤ 7; omega) (by decide)
    rw [hbl, Int.toNat_natCast, rep_zero, HFM.tally_nil]
    have s3 := same_new (o := .lst (natsV (List.replicate fl.days.length 0))) no
    have sH := (s1.trans s2).trans s3
    have hr3 := s3 _ _ (s2 _ _ (upd_same : (upd H r (.lst [])) r = some (.lst [])))
    have ho3 : (upd (upd (upd H r (.lst [])) o1 (.lst [.int 0])) o (.lst (natsV (List.replicate fl.days.length 0)))) o = some (.lst (natsV (List.replicate fl.days.length 0))) := upd_same
    have nro : r ≠ o := by
      intro z
      rw [← z] at no
      have := s2 _ _ (upd_same : (upd H r (.lst [])) r = some (.lst []))
      rw [this] at no
      cases no
    generalize upd (upd (upd H r (.lst [])) o1 (.lst [.int 0])) o (.lst (natsV (List.replicate fl.days.length 0))) = H3 at *
    have X3 := X.on sH
    refine ⟨_, rfl, a, A.cTable, dx, _, _, rfl, X3.at_, T.clTable, T.nSets, tF_sets _ _ _ _ _, _, _, rfl, rfl, ?_⟩
    have es : (((2 ^ fl.days.length : Nat) : Int) - 1) = ((2 ^ fl.days.length - 1 : Nat) : Int) := by omega
    dsimp only [gName, tSeq, L2.start]
    rw [es]
    obtain ⟨W, hW⟩ : ∃ W : Nat → L2.St → Hp → Prop, ∀ m σ H', W m σ H' ↔ ∃ (o : Addr) (on acc : List Nat) (y4 : Option V), σ = [some (.ref a), some (.ref r), some (.ref o), some (.int (m : Nat)), y4, none] ∧ Same H H' ∧ H' r = some (.lst (natsV acc)) ∧ r ≠ o ∧ H' o = some (.lst (natsV on)) ∧ on.length = fl.days.length ∧ m < 2 ^ fl.days.length ∧ acc.length + HFM.pop m ≤ fl.days.length ∧
        ∀ B, HFM.Run fl m (fun e => on.getD e 0) B → HFM.Run fl (2 ^ fl.days.length - 1) (fun _ => 0) (acc ++ B) := ⟨_, fun _ _ _ => Iff.rfl⟩
    refine Evl.s_while W (2 ^ fl.days.length - 1) ((hW _ _ _).mpr ⟨o, List.replicate fl.days.length 0, [], none, rfl, sH, hr3, nro, ho3, List.length_replicate, by omega, ?_, fun B hB => ?_⟩) fun m σ H' hw => ?_
    · rw [HFM.pop_all _ (by omega)]
      show 0 + _ ≤ _
      omega
    · exact run_congr (fun e _ => rep_getD _ _) hB
    obtain ⟨o', on, acc, y4, rfl, s5, hr5, nro5, ho5, hon, hm, hacc, hrun⟩ := (hW _ _ _).mp hw
    have X5 := X.on s5
    refine ⟨decide (0 < m), Evl.et_test (Evl.ev_is (Evl.ev_op (Evl.ev_var rfl) Evl.ev_c Evl.rv_I0) ?_), fun hb H6 e6 => ?_, fun hb H6 e6 => ?_⟩
    · show V.bl (decide ((0 : Int) < (m : Int))) = _
      congr 1
      by_cases c : 0 < m
      · rw [decide_eq_true c]
        exact decide_eq_true (by omega)
      · rw [decide_eq_false c]
        exact decide_eq_false (by omega)
    · have hm0 : 0 < m := of_decide_eq_true hb
      refine ⟨fun σ2 H2 => ∃ m', m' < m ∧ W m' σ2 H2, fun σ2 H2 h => h, ?_⟩
      have X6 := X5.on e6
      refine ⟨_, rfl, a, dx, _, rfl, X6.at_, nm_last, _, rfl, _, rfl, a, o', fl, m, on, dx, af, ast, ab, al, ss, ls, rfl, X6, hm, by omega, e6 _ _ ho5, hon, fun H7 d s7 hpk => ?_⟩
      obtain ⟨hd, v, hv, hmin⟩ := id hpk
      have hb : Vbsyae.bit m d = true := by
        have h1 := HFM.E_some fl.days.length (HFM.fF1 fl) (Vbsyae.carry fl) (by omega) m hm d hd
        have hv' : HFM.E fl.days.length (HFM.fF1 fl) (Vbsyae.carry fl) m d = some v := hv
        rw [hv'] at h1
        exact h1.symm
      have hle := HFM.bit_le hb
      have hpos := Nat.two_pow_pos d
      have hpop := HFM.pop_sub m (by omega) d (by omega) hb
      have X7 := X6.on s7
      have hr7 := s7 _ _ (e6 _ _ hr5)
      have s7H : Same H H7 := (s5.trans e6).trans s7
      refine ⟨_, rfl, .inl ⟨rfl, _, SqL.of hr7⟩, _, rfl, r, _, _, rfl, rfl, hr7, ?_, ?_⟩
      · rw [natsV_len]
        exact Nat.lt_of_le_of_lt (show _ ≤ 7 by omega) (by decide)
      have s8 : Same H (upd H7 r (.lst (natsV acc ++ [.int (d : Nat)]))) := same_mut s7H nr
      have hr8 : (upd H7 r (.lst (natsV acc ++ [.int (d : Nat)]))) r = some (.lst (natsV (acc ++ [d]))) := upd_same.trans (by rw [natsV_snoc])
      generalize upd H7 r (.lst (natsV acc ++ [.int (d : Nat)])) = H8 at *
      have X8 := X.on s8
      refine ⟨_, rfl, _, rfl, a, A.cTable, dx, _, _, rfl, X8.at_, T.clTable, T.nBits, tF_bits _ _ _ _ _, _, rfl, ab, _, _, _, rfl, rfl, SqL.of X8.hb, atI_nat (natsV_get (range_get (fun d => 2 ^ d) hd)), _, _, rfl, rfl, ?_⟩
      have esub : (m : Int) - ((2 ^ d : Nat) : Int) = ((m - 2 ^ d : Nat) : Int) := by omega
      dsimp only [gName, tSeq, List.set, tAsg]
      rw [esub]
      have hssl : ss.length = fl.days.length := by rw [X8.hss.len, List.length_map, List.length_range]
      have hev := Evl.el_lcL (K := K) (H := H8) (σ := [some (.ref a), some (.ref r), some (.ref o'), some (.int ((m - 2 ^ d : Nat) : Int)), some (.int (d : Nat)), none]) (a := ast) (xs := ss) (tl := tFld K (tVar 0) "steps") (t := tYes) (te := tOp (rIxL K) (tVar 5) (tVar 4)) (j := 5) (vs := [5]) (fun _ => true) (fun i => V.int (Vbsyae.carry fl i d : Nat))
        (ev_fld (Evl.ev_var rfl) X8.at_ T.clTable T.nSteps (tF_steps _ _ _ _ _)) (SqL.of X8.hs) (by omega) (fun x => rfl) (fun i x H5 e hi => fun H6 e6 Q6 q6 => q6 H6 (Evl.Ex.refl H6))
        (fun i x H5 e hi _ => by
          obtain ⟨t, y, rfl, hy, ht⟩ := (X8.hss.on e).get2 hi
          have hin : i < fl.days.length := by rw [← hssl]; exact (List.getElem?_eq_some_iff.mp hi).1
          rw [range_get _ hin] at hy
          have hy2 := Option.some.inj hy
          subst hy2
          exact ev_ixl (Evl.ev_var rfl) (Evl.ev_var rfl) ht (natsV_get (range_get _ hd)))
      rw [given_all, hssl] at hev
      refine hev H8 (Evl.Ex.refl H8) _ fun D H9 nD e9 hD => ?_
      have hD' : H9 D = some (.lst (natsV ((List.range fl.days.length).map fun e => Vbsyae.carry fl e d))) := by
        rw [hD]
        unfold natsV
        rw [List.map_map]
        rfl
      refine ⟨m - 2 ^ d, by omega, (hW _ _ _).mpr ⟨D, _, acc ++ [d], _, rfl, s8.trans e9, e9 _ _ hr8, ne_of_none hr8 nD, hD', by rw [List.length_map, List.length_range], by omega, ?_, fun B hB => ?_⟩⟩
      · rw [List.length_append]
        show acc.length + 1 + _ ≤ _
        omega
      · have h1 := run_congr (fun e he => map_getD fl.days.length (fun e => Vbsyae.carry fl e d) e he) hB
        have h2 := hrun (d :: B) (.go hpk h1)
        rw [List.append_assoc]
        exact h2
    · have hm0 : ¬ 0 < m := of_decide_eq_false hb
      have hm00 : m = 0 := by omega
      subst hm00
      have hfin := hrun [] .stop
      rw [List.append_nil] at hfin
      have hbest := HFM.best_run (by omega) hfin
      refine ⟨_, rfl, r, _, rfl, SqL.of (e6 _ _ hr5), fun p np => ?_⟩
      have s7 := same_new (o := .lst (natsV acc).reverse) np
      have e1 : (natsV acc).reverse = natsV (Vbsyae.bestOrder fl) := by
        rw [hbest]
        unfold natsV
        rw [List.map_reverse]
      refine q _ p ((s5.trans e6).trans s7) ((s5.trans e6).free np) (upd_same.trans (by rw [e1])) ?_
      rw [hbest, List.length_reverse]
      omega
def sp_fewest (A : Ad) : Sp := fun vs H Q _ => ∃ (a : Addr) (f : Vbsyae.Field) (dx af ast ab al : Addr) (ss ls : List V), vs = [.ref a] ∧ TX A.cTable H a f (2 ^ f.days.length) dx af ast ab al ss ls ∧ ∀ H', Same H H' → Q (.int (Vbsyae.fewest f : Nat)) H'
theorem ok_fewest {f : Addr} {fd : FuncData} (F : Fun K "fewest" "Table.fewest" s_Table_fewest f fd) (T : Txt K mg A) : FnOk P w K mg base CX0 1 f fd ["self"] (sp_fewest A) := by
  refine F.ok sc_Table_fewest (fun vs H Q E h => ?_) (fun cdv B outer s H vs Q E hr h => ?_)
  · obtain ⟨a, f, dx, af, ast, ab, al, ss, ls, rfl, _⟩ := h
    rfl
  · obtain ⟨a, fl, dx, af, ast, ab, al, ss, ls, rfl, X, q⟩ := h
    refine ⟨_, (pss_one (ps_ret (pe_callBK (cr_minD rfl hr.units) (by rfl) T.min (by decide +kernel) (pa_cons (pe_ix ix_list (pe_fld (pv 0) rfl) (pe_op op_sub (pe_fld (pv 0) rfl) pe_int) (fun _ _ => rfl)) pa_nil) (pk_cons pe_int pk_nil)))), ?_⟩
    have hn := X.few
    have hp2 := Nat.two_pow_pos fl.days.length
    have hyk : (HFM.fLines fl (2 ^ fl.days.length))[2 ^ fl.days.length - 1]? = some (fL fl (2 ^ fl.days.length - 1)) := HFM.linesTo_get _ _ _ (by omega)
    obtain ⟨t, ht1, ht2⟩ := X.hls.get hyk
    have es : (((2 ^ fl.days.length : Nat) : Int) - 1) = ((2 ^ fl.days.length - 1 : Nat) : Int) := by omega
    have hall : ∀ d, d < fl.days.length → ∃ v, HFM.fE fl (2 ^ fl.days.length - 1) d = some v := fun d hd => by
      have h1 := HFM.E_some fl.days.length (HFM.fF1 fl) (Vbsyae.carry fl) (by omega) (2 ^ fl.days.length - 1) (by omega) d hd
      rw [HFM.bit_all _ (by omega) d hd] at h1
      exact Option.isSome_iff_exists.mp h1
    have hL : optsV (fL fl (2 ^ fl.days.length - 1)) = (natI ((List.range fl.days.length).map fun d => (HFM.fE fl (2 ^ fl.days.length - 1) d).getD 0)).map V.int := by
      rw [natI_V]
      unfold optsV fL natsV
      rw [L_map, List.map_map, List.map_map]
      refine List.map_congr_left fun d hd => ?_
      obtain ⟨v, hv⟩ := hall d (List.mem_range.mp hd)
      show optV (HFM.fE fl (2 ^ fl.days.length - 1) d) = V.int (((HFM.fE fl (2 ^ fl.days.length - 1) d).getD 0 : Nat) : Int)
      rw [hv]
      rfl
    have hM : (List.range fl.days.length).filterMap (fun d => HFM.fE fl (2 ^ fl.days.length - 1) d) = (List.range fl.days.length).map fun d => (HFM.fE fl (2 ^ fl.days.length - 1) d).getD 0 := by
      have key : ∀ es : List Nat, (∀ d ∈ es, d < fl.days.length) → es.filterMap (fun d => HFM.fE fl (2 ^ fl.days.length - 1) d) = es.map fun d => (HFM.fE fl (2 ^ fl.days.length - 1) d).getD 0 := fun es => by
        induction es with
        | nil => intro _; rfl
        | cons d es ih =>
          intro h
          obtain ⟨v, hv⟩ := hall d (h d (by simp))
          rw [List.filterMap_cons, hv, List.map_cons, hv, ih fun e he => h e (List.mem_cons_of_mem _ he)]
          rfl
      exact key _ fun d hd => List.mem_range.mp hd
    rw [HFM.fewest_eq (by omega), hM] at q
    generalize hLL : (List.range fl.days.length).map (fun d => (HFM.fE fl (2 ^ fl.days.length - 1) d).getD 0) = LL at *
    refine ⟨_, rfl, a, A.cTable, dx, _, _, rfl, X.at_, T.clTable, T.nLines, tF_lines _ _ _ _ _, _, rfl, a, A.cTable, dx, _, _, rfl, X.at_, T.clTable, T.nSets, tF_sets _ _ _ _ _, _, _, rfl, rfl, al, ls, _, .ref t, rfl, rfl, SqL.of X.hl, ?_, ?_⟩
    · rw [es]
      exact atI_nat ht1
    refine ⟨t, natI LL, _, rfl, rfl, by rw [← hL]; exact SqL.of ht2, fun e0 => ?_, fun m hm hle => ?_⟩
    · have : LL = [] := by
        unfold natI at e0
        exact List.map_eq_nil_iff.mp e0
      rw [this] at q
      exact q H (Same.refl H)
    · unfold natI at hm hle
      obtain ⟨k, hk, rfl⟩ := List.mem_map.mp hm
      have : LL.min? = some k := List.min?_eq_some_iff.mpr ⟨hk, fun b hb => by
        have := hle (b : Int) (List.mem_map.mpr ⟨b, hb, rfl⟩)
        omega⟩
      rw [this] at q
      exact q H (Same.refl H)
end
end HF
namespace HF
open PySem PySem.Spec PyProof.Rows L2
section
variable {P : Program} {w : World} {K : PySem.W.Frag} {mg : Str → Option Value} {base : Heap} {A : Ad}
/-- the first four fields -/
def tF4 (i : Nat) (af ast ab : Addr) : List (Str × V) := [("first", .ref af), ("steps", .ref ast), ("bits", .ref ab), ("sets", .int (2 ^ i : Nat))]
theorem ne4 {x y : Str} (h : (y == x) = false) : ¬ x = y := fun z => by
  rw [z] at h
  simp at h
theorem put_first (v : V) : putF "first" v [] = ([("first", v)] : List (Str × V)) := rfl
theorem put_steps (v u : V) : putF "steps" v [("first", u)] = ([("first", u), ("steps", v)] : List (Str × V)) := by
  simp [putF, ne4 ne_fs]
theorem put_bits (v u z : V) : putF "bits" v [("first", u), ("steps", z)] = ([("first", u), ("steps", z), ("bits", v)] : List (Str × V)) := by
  simp [putF, ne4 ne_fb, ne4 ne_sb]
theorem put_sets (af ast ab : Addr) : putF "sets" (.int 1) [("first", .ref af), ("steps", .ref ast), ("bits", .ref ab)] = tF4 0 af ast ab := by
  unfold tF4
  simp [putF, ne4 ne_fe, ne4 ne_se, ne4 ne_be]
theorem put_sets2 (i : Nat) (af ast ab : Addr) : putF "sets" (.int ((2 ^ i : Nat) * 2)) (tF4 i af ast ab) = tF4 (i + 1) af ast ab := by
  unfold tF4
  have e : (((2 ^ i : Nat) : Int) * 2) = ((2 ^ (i + 1) : Nat) : Int) := by
    rw [Nat.pow_succ]
    simp
  simp only [putF, ne4 ne_fe, ne4 ne_se, ne4 ne_be, if_false, if_true]
  rw [e]
theorem put_lines (i : Nat) (af ast ab al : Addr) : putF "lines" (.ref al) (tF4 i af ast ab) = tF i af ast ab al := by
  unfold tF4 tF
  simp [putF, ne4 ne_fl, ne4 ne_sl, ne4 ne_bl, ne4 ne_el]
theorem tF4_steps (n : Nat) (af ast ab : Addr) : (tF4 n af ast ab).lookup ("steps" : Str) = some (.ref ast) := by
  unfold tF4
  simp [List.lookup, ne_fs]
theorem tF4_bits (n : Nat) (af ast ab : Addr) : (tF4 n af ast ab).lookup ("bits" : Str) = some (.ref ab) := by
  unfold tF4
  simp [List.lookup, ne_fb, ne_sb]
theorem tF4_sets (n : Nat) (af ast ab : Addr) : (tF4 n af ast ab).lookup ("sets" : Str) = some (.int (2 ^ n : Nat)) := by
  unfold tF4
  simp [List.lookup, ne_fe, ne_se, ne_be]
def rowS (f : Vbsyae.Field) (i : Nat) : List Nat := (List.range f.days.length).map fun j => Vbsyae.carry f i j
/-- the table as it is made, i days taken -/
structure TI (C : Addr) (H H' : Hp) (p : Addr) (f : Vbsyae.Field) (i : Nat) (dx pl af ast ab : Addr) (us ss : List V) : Prop where
  sb : ∀ b o, H b = some o → b ≠ p → H' b = some o
  at_ : H' p = some (.ins C dx (tF4 i af ast ab))
  hpl : H' pl = some (.lst us)
  hus : DictsAt H' us ((List.range f.days.length).map (HFM.dayT f))
  hf : H' af = some (.lst (natsV ((List.range f.days.length).map fun d => (Vbsyae.places f d).length)))
  hs : H' ast = some (.lst ss)
  hss : RefsAt natL H' ss ((List.range i).map fun i => rowS f i)
  hb : H' ab = some (.lst (natsV ((List.range i).map fun d => 2 ^ d)))
  d1 : pl ≠ ast
  d2 : pl ≠ ab
  d3 : af ≠ ast
  d4 : af ≠ ab
  d5 : ast ≠ ab
  nast : H ast = none
  nab : H ab = none
  m1 : V.ref ast ∉ ss
  m2 : V.ref ab ∉ ss
  m3 : V.ref p ∉ ss
theorem TI.on {C : Addr} {H H' H2 : Hp} {p : Addr} {f : Vbsyae.Field} {i : Nat} {dx pl af ast ab : Addr} {us ss : List V} (h : TI C H H' p f i dx pl af ast ab us ss) (s : Same H' H2) : TI C H H2 p f i dx pl af ast ab us ss :=
  ⟨fun b o e n => s _ _ (h.sb b o e n), s _ _ h.at_, s _ _ h.hpl, h.hus.on s, s _ _ h.hf, s _ _ h.hs, h.hss.on s, s _ _ h.hb, h.d1, h.d2, h.d3, h.d4, h.d5, h.nast, h.nab, h.m1, h.m2, h.m3⟩
def sp_Table_init (A : Ad) : Sp := fun vs H Q _ => ∃ (p dx a : Addr) (f : Vbsyae.Field), vs = [.ref p, .ref a] ∧ H p = some (.ins A.cTable dx []) ∧ FieldAt A.cField H a f ∧ f.days.length ≤ 7 ∧
  ∀ (H' : Hp) (af ast ab al : Addr) (ss ls : List V), (∀ b o, H b = some o → b ≠ p → H' b = some o) → H al = none → (∀ t, V.ref t ∈ ls → H t = none) → TX A.cTable H' p f (2 ^ f.days.length) dx af ast ab al ss ls → Q .non H'
theorem ok_Table_init {f : Addr} {fd : FuncData} (F : Fun K "__init__" "Table.__init__" s_Table___init__ f fd) (T : Txt K mg A) (c_all_places : Cal P w K mg base CX0 5 "all_places" ["field"] (sp_all_places A)) (c_carried : Cal P w K mg base CX0 1 "carried" ["standing", "needed"] sp_carried) (m_Table_line_of : CalM P w K mg base CX0 2 A.cTable "line_of" ["self", "number"] (sp_line_of A)) : FnOk P w K mg base CX0 6 f fd ["self", "field"] (sp_Table_init A) := by
  refine F.ok sc_Table___init__ (fun vs H Q E h => ?_) (fun cdv B outer s H vs Q E hr h => ?_)
  · obtain ⟨p, dx, a, f, rfl, _⟩ := h
    rfl
  · obtain ⟨p, dx, a, fl, rfl, hp, hF, hn, q⟩ := h
    refine ⟨_, (pss_cons (ps_set (i := 2) sc_Table___init__.nd rfl (Or.inl rfl) (pe_cal c_all_places hr (by rfl) pass0 (pa_cons (pv 1) pa_nil)))
      (pss_cons (ps_fld (pv 0) (pe_lc (own := [("needed", 3)]) (g := gName 3) (tt := tYes) (by rfl) sc_Table___init__.nd (pi_list (pv 2)) (blkOk_by (own := [("needed", 3)]) (N := ["self", "field", "places", "needed", "standing", "number"]) (sc := defScope s_Table___init__) (by decide +kernel)) (fun _ _ _ _ _ => (pg_name (i := 3) sc_Table___init__.nd rfl (Or.inl rfl))) (fun _ _ _ _ _ => pts_nil) (fun _ _ _ _ _ => (pe_callB call_len_dT (by rfl) T.len PySem.boot_len (pa_cons (pv 3) pa_nil)))) rfl)
      (pss_cons (ps_fld (pv 0) (pe_lst pa_nil) rfl)
      (pss_cons (ps_fld (pv 0) (pe_lst pa_nil) rfl)
      (pss_cons (ps_fld (pv 0) pe_int rfl)
      (pss_cons (ps_for PassesOwn.never rfl (pi_list (pv 2)) (pg_name (i := 4) sc_Table___init__.nd rfl (Or.inr rfl))
      (pss_cons (ps_expr (pe_bm PySem.F.plainAttrs_list PySem.F.slot_list_append PySem.F.type_list_append mt_append (pe_fld (pv 0) rfl) (pa_cons (pe_lc (own := [("needed", 3)]) (g := gName 3) (tt := tYes) (by rfl) sc_Table___init__.nd (pi_list (pv 2)) (blkOk_by (own := [("needed", 3)]) (N := ["self", "field", "places", "needed", "standing", "number"]) (sc := defScope s_Table___init__) (by decide +kernel)) (fun _ _ _ _ _ => (pg_name (i := 3) sc_Table___init__.nd rfl (Or.inl rfl))) (fun _ _ _ _ _ => pts_nil) (fun _ _ _ _ _ => (pe_cal c_carried (hr.mono (by decide)) (by rfl) pass0 (pa_cons (pv 4) (pa_cons (pv 3) pa_nil))))) pa_nil)))
      (pss_cons (ps_expr (pe_bm PySem.F.plainAttrs_list PySem.F.slot_list_append PySem.F.type_list_append mt_append (pe_fld (pv 0) rfl) (pa_cons (pe_fld (pv 0) rfl) pa_nil)))
      (pss_one (ps_fldaug (pv 0) pe_int in_mul)))))
      (pss_cons (ps_fld (pv 0) (pe_lst pa_nil) rfl)
      (pss_one (ps_for PassesOwn.never rfl (pi_range1 (by rfl) T.range (pa_cons (pe_fld (pv 0) rfl) pa_nil)) (pg_name (i := 5) sc_Table___init__.nd rfl (Or.inl rfl))
      (pss_one (ps_expr (pe_bm PySem.F.plainAttrs_list PySem.F.slot_list_append PySem.F.type_list_append mt_append (pe_fld (pv 0) rfl) (pa_cons (pe_calM T.clTable m_Table_line_of (hr.mono (by decide)) pass0 (pv 0) (pa_cons (pv 5) pa_nil)) pa_nil))))))))))))), ?_⟩
    have wf := hF.wf
    have hk : 0 < fl.cols := by have := wf.c1; omega
    refine ⟨_, rfl, a, fl, rfl, hF, fun H1 pl us s1 npl hpl hus => ?_⟩
    rw [days_T wf] at hus
    have husl : us.length = fl.days.length := by rw [hus.len, List.length_map, List.length_range]
    have hget : ∀ {H' : Hp} {i : Nat} {x : V}, DictsAt H' us ((List.range fl.days.length).map (HFM.dayT fl)) → us[i]? = some x → ∃ t, x = .ref t ∧ i < fl.days.length ∧ H' t = some (.dT (dictT (HFM.dayT fl i))) := fun h hi => by
      obtain ⟨t, y, rfl, hy, ht⟩ := h.get2 hi
      have hin := (List.getElem?_eq_some_iff.mp hi).1
      rw [husl] at hin
      rw [range_get _ hin] at hy
      cases hy
      exact ⟨t, rfl, hin, ht⟩
    -- first
    have hev := Evl.el_lcL (K := K) (H := H1) (σ := [some (.ref p), some (.ref a), some (.ref pl), none, none, none]) (a := pl) (xs := us) (tl := tVar 2) (t := tYes) (te := tCB rLenT (tCons (tVar 3) tNil)) (j := 3) (vs := [3]) (fun _ => true) (fun i => V.int ((HFM.dayT fl i).length : Nat))
      (Evl.ev_var rfl) (SqL.of hpl) (by omega) (fun x => rfl) (fun i x H5 e hi => fun H6 e6 Q6 q6 => q6 H6 (Evl.Ex.refl H6))
      (fun i x H5 e hi _ => by
        obtain ⟨t, rfl, hin, ht⟩ := hget (hus.on e) hi
        refine Evl.ev_cb (Evl.ea_cons (Evl.ev_var rfl) Evl.ea_nil) fun H6 e6 Q6 q6 => ⟨t, _, rfl, e6 _ _ ht, ?_⟩
        have e1 : (dictT (HFM.dayT fl i)).length = (HFM.dayT fl i).length := by unfold dictT; rw [List.length_map]
        rw [e1]
        exact q6 H6 (Evl.Ex.refl H6))
    rw [given_all, husl] at hev
    have hfirst : (List.range fl.days.length).map (fun i => V.int ((HFM.dayT fl i).length : Nat)) = natsV ((List.range fl.days.length).map fun d => (Vbsyae.places fl d).length) := by
      unfold natsV
      rw [List.map_map]
      exact List.map_congr_left fun d _ => by
        show V.int ((HFM.dayT fl d).length : Nat) = V.int ((Vbsyae.places fl d).length : Nat)
        rw [HFM.places_len]
    rw [hfirst] at hev
    dsimp only [gName, tSeq, sFld, L2.start]
    refine hev H1 (Evl.Ex.refl H1) _ fun af H2 naf e2 haf => ?_
    have sH2 : Same H H2 := s1.trans e2
    have hp2 := sH2 _ _ hp
    refine ⟨_, rfl, p, A.cTable, dx, [], rfl, hp2, T.clTable, T.nFirst, by decide, ?_⟩
    rw [put_first]
    have nafp : af ≠ p := ne_of haf hp2 (by intro z; cases z)
    have nplp : pl ≠ p := ne_of (e2 _ _ hpl) hp2 (by intro z; cases z)
    have npaf : pl ≠ af := ne_of_none hpl naf
    have keepD : ∀ {Ha : Hp} {c : Addr} {o o2 : HO}, Ha c = some o → (∀ x, o ≠ .dT x) → DictsAt Ha us ((List.range fl.days.length).map (HFM.dayT fl)) → DictsAt (upd Ha c o2) us ((List.range fl.days.length).map (HFM.dayT fl)) := fun hc ho h => h.imp fun t x e => by
      rw [upd_ne (ne_of e hc (fun z => ho x z.symm))]
      exact e
    have k3 : ∀ b o, H b = some o → b ≠ p → (upd H2 p (.ins A.cTable dx [("first", .ref af)])) b = some o := fun b o e nb => (upd_ne nb).trans (sH2 _ _ e)
    have hp3 : (upd H2 p (.ins A.cTable dx [("first", .ref af)])) p = some (.ins A.cTable dx [("first", .ref af)]) := upd_same
    have hpl3 : (upd H2 p (.ins A.cTable dx [("first", .ref af)])) pl = some (.lst us) := (upd_ne nplp).trans (e2 _ _ hpl)
    have hus3 : DictsAt (upd H2 p (.ins A.cTable dx [("first", .ref af)])) us ((List.range fl.days.length).map (HFM.dayT fl)) := keepD hp2 (by intro x z; cases z) (hus.on e2)
    have haf3 := (upd_ne (o := HO.ins A.cTable dx [("first", .ref af)]) (H := H2) nafp).trans haf
    generalize upd H2 p (.ins A.cTable dx [("first", .ref af)]) = H3 at *
    -- steps
    refine ⟨(by show 0 ≤ sizeLine; decide), fun ast nast3 => ?_⟩
    have s4 := same_new (o := .lst []) nast3
    have nastp : ast ≠ p := fun z => by
      rw [z, hp3] at nast3
      cases nast3
    have nast : H ast = none := by
      cases z : H ast with
      | none => rfl
      | some o =>
        rw [k3 _ _ z nastp] at nast3
        cases nast3
    refine ⟨_, rfl, p, A.cTable, dx, _, rfl, s4 _ _ hp3, T.clTable, T.nSteps, by show 1 < 1000; decide, ?_⟩
    rw [put_steps]
    have naas : af ≠ ast := ne_of_none haf3 nast3
    have nplas : pl ≠ ast := ne_of_none hpl3 nast3
    have k5 : ∀ b o, H b = some o → b ≠ p → (upd (upd H3 ast (.lst [])) p (.ins A.cTable dx [("first", .ref af), ("steps", .ref ast)])) b = some o := fun b o e nb => (upd_ne nb).trans (s4 _ _ (k3 b o e nb))
    have hp5 : (upd (upd H3 ast (.lst [])) p (.ins A.cTable dx [("first", .ref af), ("steps", .ref ast)])) p = some (.ins A.cTable dx [("first", .ref af), ("steps", .ref ast)]) := upd_same
    have hpl5 : (upd (upd H3 ast (.lst [])) p (.ins A.cTable dx [("first", .ref af), ("steps", .ref ast)])) pl = some (.lst us) := (upd_ne nplp).trans (s4 _ _ hpl3)
    have hus5 : DictsAt (upd (upd H3 ast (.lst [])) p (.ins A.cTable dx [("first", .ref af), ("steps", .ref ast)])) us ((List.range fl.days.length).map (HFM.dayT fl)) := keepD (s4 _ _ hp3) (by intro x z; cases z) (hus3.on s4)
    have haf5 : (upd (upd H3 ast (.lst [])) p (.ins A.cTable dx [("first", .ref af), ("steps", .ref ast)])) af = _ := (upd_ne nafp).trans (s4 _ _ haf3)
    have hast5 : (upd (upd H3 ast (.lst [])) p (.ins A.cTable dx [("first", .ref af), ("steps", .ref ast)])) ast = some (.lst []) := (upd_ne nastp).trans upd_same
    generalize upd (upd H3 ast (.lst [])) p (.ins A.cTable dx [("first", .ref af), ("steps", .ref ast)]) = H5 at *
    -- bits
    refine ⟨(by show 0 ≤ sizeLine; decide), fun ab nab5 => ?_⟩
    have s6 := same_new (o := .lst []) nab5
    have nabp : ab ≠ p := fun z => by
      rw [z, hp5] at nab5
      cases nab5
    have nab : H ab = none := by
      cases z : H ab with
      | none => rfl
      | some o =>
        rw [k5 _ _ z nabp] at nab5
        cases nab5
    refine ⟨_, rfl, p, A.cTable, dx, _, rfl, s6 _ _ hp5, T.clTable, T.nBits, by show 2 < 1000; decide, ?_⟩
    rw [put_bits]
    have naab : af ≠ ab := ne_of_none haf5 nab5
    have nplab : pl ≠ ab := ne_of_none hpl5 nab5
    have nasab : ast ≠ ab := ne_of_none hast5 nab5
    -- sets
    refine ⟨_, rfl, p, A.cTable, dx, _, rfl, upd_same, T.clTable, T.nSets, by show 3 < 1000; decide, ?_⟩
    rw [put_sets]
    have tp : ∀ {b : Addr}, b ≠ p → (upd (upd (upd H5 ab (.lst [])) p (.ins A.cTable dx [("first", .ref af), ("steps", .ref ast), ("bits", .ref ab)])) p (.ins A.cTable dx (tF4 0 af ast ab))) b = (upd H5 ab (.lst [])) b := fun nb => (upd_ne nb).trans (upd_ne nb)
    have X0 : TI A.cTable H (upd (upd (upd H5 ab (.lst [])) p (.ins A.cTable dx [("first", .ref af), ("steps", .ref ast), ("bits", .ref ab)])) p (.ins A.cTable dx (tF4 0 af ast ab))) p fl 0 dx pl af ast ab us [] :=
      ⟨fun b o e nb => (tp nb).trans (s6 _ _ (k5 b o e nb)), upd_same, (tp nplp).trans (s6 _ _ hpl5), keepD upd_same (by intro x z; cases z) (keepD (s6 _ _ hp5) (by intro x z; cases z) (hus5.on s6)), (tp nafp).trans (s6 _ _ haf5), (tp nastp).trans (s6 _ _ hast5), trivial, (tp nabp).trans upd_same, nplas, nplab, naas, naab, nasab, nast, nab, by simp, by simp, by simp⟩
    generalize upd (upd (upd H5 ab (.lst [])) p (.ins A.cTable dx [("first", .ref af), ("steps", .ref ast), ("bits", .ref ab)])) p (.ins A.cTable dx (tF4 0 af ast ab)) = H7 at *
    clear hev k3 k5 hp5 hpl5 hus5 haf5 hast5 s6 nab5 tp hp3 hpl3 hus3 haf3 s4 nast3 hp2 hus hpl haf naf e2 sH2 s1 npl
    obtain ⟨Pv, hPv⟩ : ∃ Pv : Nat → L2.St → Hp → Prop, ∀ i σ H', Pv i σ H' ↔ ∃ (ss : List V) (y4 : Option V), σ = [some (.ref p), some (.ref a), some (.ref pl), none, y4, none] ∧ i ≤ fl.days.length ∧ TI A.cTable H H' p fl i dx pl af ast ab us ss := ⟨_, fun _ _ _ => Iff.rfl⟩
    refine q_forL (a := pl) (xs := us) Pv (fun R h => ⟨_, rfl, h⟩) ((hPv _ _ _).mpr ⟨[], none, rfl, Nat.zero_le _, X0⟩) (fun i σ H' _ h5 => ?_) (fun i v σ H' hi h5 => ?_) (fun σ H' h5 => ?_)
    · obtain ⟨_, _, _, _, X⟩ := (hPv _ _ _).mp h5
      exact SqL.of X.hpl
    · obtain ⟨ss, y4, rfl, hil, X⟩ := (hPv _ _ _).mp h5
      obtain ⟨t, rfl, hin, ht⟩ := hget X.hus hi
      have hssl : ss.length = i := by rw [X.hss.len, List.length_map, List.length_range]
      -- steps.append
      have hev := Evl.el_lcL (K := K) (H := H') (σ := [some (.ref p), some (.ref a), some (.ref pl), none, some (.ref t), none]) (a := pl) (xs := us) (tl := tVar 2) (t := tYes) (te := tCal sp_carried E0 (tCons (tVar 4) (tCons (tVar 3) tNil))) (j := 3) (vs := [3]) (fun _ => true) (fun j => V.int (Vbsyae.carry fl i j : Nat))
        (Evl.ev_var rfl) (SqL.of X.hpl) (by omega) (fun x => rfl) (fun i x H5 e hi => fun H6 e6 Q6 q6 => q6 H6 (Evl.Ex.refl H6))
        (fun j x H5 e hj _ => by
          obtain ⟨u, rfl, hjn, hu⟩ := hget (X.hus.on e) hj
          rw [HFM.carry_eq hk]
          exact ev_cal (Evl.ea_cons (Evl.ev_var rfl) (Evl.ea_cons (Evl.ev_var rfl) Evl.ea_nil)) fun H6 e6 Q6 q6 E6 => ⟨t, u, _, _, rfl, e6 _ _ (e _ _ ht), e6 _ _ hu, dayT_len wf hjn, fun H8 s8 => q6 H8 s8⟩)
      rw [given_all, husl] at hev
      have hrow : (List.range fl.days.length).map (fun j => V.int (Vbsyae.carry fl i j : Nat)) = natsV (rowS fl i) := by
        unfold natsV rowS
        rw [List.map_map]
        rfl
      rw [hrow] at hev
      refine ⟨_, rfl, p, A.cTable, dx, _, _, rfl, X.at_, T.clTable, T.nSteps, tF4_steps _ _ _ _, .inl ⟨rfl, _, SqL.of X.hs⟩, ?_⟩
      dsimp only [tCons]
      refine hev H' (Evl.Ex.refl H') _ fun D H2 nD e2 hD => ?_
      have X2 := X.on e2
      refine ⟨ast, ss, _, rfl, rfl, X2.hs, Nat.lt_of_le_of_lt (show _ ≤ 7 by omega) (by decide), ?_⟩
      have nastp : ast ≠ p := ne_of X2.hs X2.at_ (by intro z; cases z)
      have nabp : ab ≠ p := ne_of X2.hb X2.at_ (by intro z; cases z)
      have nDast : D ≠ ast := fun z => by rw [z, X.hs] at nD; cases nD
      have nDab : D ≠ ab := fun z => by rw [z, X.hb] at nD; cases nD
      have nDp : D ≠ p := fun z => by rw [z, X.at_] at nD; cases nD
      have Y : TI A.cTable H (upd H2 ast (.lst (ss ++ [.ref D]))) p fl i dx pl af ast ab us ss ∨ True := .inr trivial
      have sb3 : ∀ b o, H b = some o → b ≠ p → (upd H2 ast (.lst (ss ++ [.ref D]))) b = some o := fun b o e nb => (upd_ne (ne_of_none e X.nast)).trans (X2.sb b o e nb)
      have at3 : (upd H2 ast (.lst (ss ++ [.ref D]))) p = some (.ins A.cTable dx (tF4 i af ast ab)) := (upd_ne (Ne.symm nastp)).trans X2.at_
      have pl3 : (upd H2 ast (.lst (ss ++ [.ref D]))) pl = some (.lst us) := (upd_ne X.d1).trans X2.hpl
      have us3 : DictsAt (upd H2 ast (.lst (ss ++ [.ref D]))) us ((List.range fl.days.length).map (HFM.dayT fl)) := keepD X2.hs (by intro x z; cases z) X2.hus
      have f3 := (upd_ne (o := HO.lst (ss ++ [.ref D])) (H := H2) X.d3).trans X2.hf
      have s3 : (upd H2 ast (.lst (ss ++ [.ref D]))) ast = some (.lst (ss ++ [.ref D])) := upd_same
      have ss3 : RefsAt natL (upd H2 ast (.lst (ss ++ [.ref D]))) (ss ++ [.ref D]) ((List.range (i + 1)).map fun i => rowS fl i) := by
        rw [List.range_succ, List.map_append]
        exact RefsAt.snoc (g := natL) (x := rowS fl i) ((upd_ne nDast).trans hD) (X2.hss.put X2.m1)
      have b3 := (upd_ne (o := HO.lst (ss ++ [.ref D])) (H := H2) (Ne.symm X.d5)).trans X2.hb
      generalize upd H2 ast (.lst (ss ++ [.ref D])) = H3 at *
      -- bits.append
      refine ⟨_, rfl, p, A.cTable, dx, _, _, rfl, at3, T.clTable, T.nBits, tF4_bits _ _ _ _, .inl ⟨rfl, _, SqL.of b3⟩, _, rfl, p, A.cTable, dx, _, _, rfl, at3, T.clTable, T.nSets, tF4_sets _ _ _ _, ab, _, _, rfl, rfl, b3, ?_, ?_⟩
      · rw [natsV_len, List.length_map, List.length_range]
        exact Nat.lt_of_le_of_lt (show _ ≤ 7 by omega) (by decide)
      have mm2 : V.ref ab ∉ ss ++ [.ref D] := fun z => by
        rcases List.mem_append.mp z with z | z
        · exact X.m2 z
        · have := List.mem_singleton.mp z
          cases this
          exact nDab rfl
      have mm1 : V.ref ast ∉ ss ++ [.ref D] := fun z => by
        rcases List.mem_append.mp z with z | z
        · exact X.m1 z
        · have := List.mem_singleton.mp z
          cases this
          exact nDast rfl
      have mm3 : V.ref p ∉ ss ++ [.ref D] := fun z => by
        rcases List.mem_append.mp z with z | z
        · exact X.m3 z
        · have := List.mem_singleton.mp z
          cases this
          exact nDp rfl
      have sb4 : ∀ b o, H b = some o → b ≠ p → (upd H3 ab (.lst (natsV ((List.range i).map fun d => 2 ^ d) ++ [.int ((2 ^ i : Nat) : Int)]))) b = some o := fun b o e nb => (upd_ne (ne_of_none e X.nab)).trans (sb3 b o e nb)
      have at4 : (upd H3 ab (.lst (natsV ((List.range i).map fun d => 2 ^ d) ++ [.int ((2 ^ i : Nat) : Int)]))) p = some (.ins A.cTable dx (tF4 i af ast ab)) := (upd_ne (Ne.symm nabp)).trans at3
      have pl4 : (upd H3 ab (.lst (natsV ((List.range i).map fun d => 2 ^ d) ++ [.int ((2 ^ i : Nat) : Int)]))) pl = some (.lst us) := (upd_ne X.d2).trans pl3
      have us4 : DictsAt (upd H3 ab (.lst (natsV ((List.range i).map fun d => 2 ^ d) ++ [.int ((2 ^ i : Nat) : Int)]))) us ((List.range fl.days.length).map (HFM.dayT fl)) := keepD b3 (by intro x z; cases z) us3
      have f4 := (upd_ne (o := HO.lst (natsV ((List.range i).map fun d => 2 ^ d) ++ [.int ((2 ^ i : Nat) : Int)])) (H := H3) X.d4).trans f3
      have s4 := (upd_ne (o := HO.lst (natsV ((List.range i).map fun d => 2 ^ d) ++ [.int ((2 ^ i : Nat) : Int)])) (H := H3) X.d5).trans s3
      have ss4 : RefsAt natL (upd H3 ab (.lst (natsV ((List.range i).map fun d => 2 ^ d) ++ [.int ((2 ^ i : Nat) : Int)]))) (ss ++ [.ref D]) ((List.range (i + 1)).map fun i => rowS fl i) := ss3.put mm2
      have b4 : (upd H3 ab (.lst (natsV ((List.range i).map fun d => 2 ^ d) ++ [.int ((2 ^ i : Nat) : Int)]))) ab = some (.lst (natsV ((List.range (i + 1)).map fun d => 2 ^ d))) := by
        rw [upd_same, List.range_succ, List.map_append]
        exact congrArg (fun z => some (HO.lst z)) (natsV_snoc _ _).symm
      generalize upd H3 ab (.lst (natsV ((List.range i).map fun d => 2 ^ d) ++ [.int ((2 ^ i : Nat) : Int)])) = H4 at *
      -- sets *= 2
      refine ⟨_, rfl, p, A.cTable, dx, _, _, rfl, at4, T.clTable, T.nSets, tF4_sets _ _ _ _, _, _, rfl, rfl, Or.inr ⟨by decide, by decide⟩, dx, _, at4, by show 4 < 1000; decide, ?_⟩
      rw [put_sets2]
      have nplp : pl ≠ p := ne_of pl4 at4 (by intro z; cases z)
      have nafp : af ≠ p := ne_of f4 at4 (by intro z; cases z)
      exact (hPv _ _ _).mpr ⟨ss ++ [.ref D], _, rfl, hin, ⟨fun b o e nb => (upd_ne nb).trans (sb4 b o e nb), upd_same, (upd_ne nplp).trans pl4, keepD at4 (by intro x z; cases z) us4, (upd_ne nafp).trans f4, (upd_ne nastp).trans s4, ss4.put mm3, (upd_ne nabp).trans b4, X.d1, X.d2, X.d3, X.d4, X.d5, X.nast, X.nab, mm1, mm2, mm3⟩⟩
    · obtain ⟨ss, y4, rfl, hil, X⟩ := (hPv _ _ _).mp h5
      rw [husl] at X
      -- lines
      refine ⟨(by show 0 ≤ sizeLine; decide), fun al nal => ?_⟩
      have s6 := same_new (o := .lst []) nal
      have X6 := X.on s6
      refine ⟨_, rfl, p, A.cTable, dx, _, rfl, X6.at_, T.clTable, T.nLines, by show 4 < 1000; decide, ?_⟩
      rw [put_lines]
      have nalp : al ≠ p := fun z => by rw [z, X.at_] at nal; cases nal
      have nalaf : af ≠ al := ne_of_none X.hf nal
      have nalas : ast ≠ al := ne_of_none X.hs nal
      have nalab : ab ≠ al := ne_of_none X.hb nal
      have nafp : af ≠ p := ne_of X.hf X.at_ (by intro z; cases z)
      have nastp : ast ≠ p := ne_of X.hs X.at_ (by intro z; cases z)
      have nabp : ab ≠ p := ne_of X.hb X.at_ (by intro z; cases z)
      have mal : V.ref al ∉ ss := X.hss.fresh nal
      have nalH : H al = none := by
        cases z : H al with
        | none => rfl
        | some o =>
          rw [X.sb _ _ z nalp] at nal
          cases nal
      have T0 : TX A.cTable (upd (upd H' al (.lst [])) p (.ins A.cTable dx (tF fl.days.length af ast ab al))) p fl 0 dx af ast ab al ss [] :=
        ⟨hn, upd_same, (upd_ne nafp).trans X6.hf, (upd_ne nastp).trans X6.hs, X6.hss.put X6.m3, (upd_ne nabp).trans X6.hb, (upd_ne nalp).trans upd_same, trivial⟩
      have sb0 : ∀ b o, H b = some o → b ≠ p → (upd (upd H' al (.lst [])) p (.ins A.cTable dx (tF fl.days.length af ast ab al))) b = some o := fun b o e nb => (upd_ne nb).trans (X6.sb b o e nb)
      generalize upd (upd H' al (.lst [])) p (.ins A.cTable dx (tF fl.days.length af ast ab al)) = H8 at *
      have hp2 := HFM.pow_le7 fl.days.length (by omega)
      obtain ⟨Pl, hPl⟩ : ∃ Pl : Nat → L2.St → Hp → Prop, ∀ k σ H', Pl k σ H' ↔ ∃ (ls : List V) (y5 : Option V), σ = [some (.ref p), some (.ref a), some (.ref pl), none, y4, y5] ∧ V.ref al ∉ ls ∧ (∀ t, V.ref t ∈ ls → H t = none) ∧ (∀ b o, H b = some o → b ≠ p → H' b = some o) ∧ TX A.cTable H' p fl k dx af ast ab al ss ls := ⟨_, fun _ _ _ => Iff.rfl⟩
      dsimp only
      refine q_forR (2 ^ fl.days.length) (by omega) Pl (fun R h => ?_) ((hPl _ _ _).mpr ⟨[], _, rfl, by simp, fun t ht => by simp at ht, sb0, T0⟩) (fun k σ H9 hk2 h9 => ?_) (fun σ H9 h9 => ?_)
      · exact ⟨_, rfl, p, A.cTable, dx, _, _, rfl, T0.at_, T.clTable, T.nSets, tF_sets _ _ _ _ _, h⟩
      · obtain ⟨ls, y5, rfl, mls, fls, sb9, T9⟩ := (hPl _ _ _).mp h9
        have hlsl : ls.length = k := by rw [T9.hls.len, HFM.linesTo_len]
        refine ⟨_, rfl, p, A.cTable, dx, _, _, rfl, T9.at_, T.clTable, T.nLines, tF_lines _ _ _ _ _, .inl ⟨rfl, _, SqL.of T9.hl⟩, ?_⟩
        refine ⟨_, rfl, p, dx, _, rfl, T9.at_, nm_line, _, rfl, p, fl, k, k, dx, af, ast, ab, al, ss, ls, rfl, T9, Nat.le_refl _, hk2, fun HA r sA nr hr => ?_⟩
        have TA := T9.on sA
        refine ⟨al, ls, _, rfl, rfl, TA.hl, Nat.lt_of_le_of_lt (show _ ≤ 128 by omega) (by decide), ?_⟩
        have nral : r ≠ al := fun z => by rw [z, T9.hl] at nr; cases nr
        refine (hPl _ _ _).mpr ⟨ls ++ [.ref r], _, rfl, fun z => ?_, fun t ht => ?_, fun b o e nb => (upd_ne (ne_of_none e nalH)).trans (sA _ _ (sb9 b o e nb)), ⟨hn, (upd_ne (Ne.symm nalp)).trans TA.at_, (upd_ne nalaf).trans TA.hf, (upd_ne nalas).trans TA.hs, TA.hss.put mal, (upd_ne nalab).trans TA.hb, upd_same, ?_⟩⟩
        · rcases List.mem_append.mp z with z | z
          · exact mls z
          · have := List.mem_singleton.mp z
            cases this
            exact nral rfl
        · rcases List.mem_append.mp ht with z | z
          · exact fls t z
          · have := List.mem_singleton.mp z
            cases this
            cases z2 : H r with
            | none => rfl
            | some o =>
              have nrp : r ≠ p := fun z => by rw [z, T9.at_] at nr; cases nr
              rw [sb9 _ _ z2 nrp] at nr
              cases nr
        · exact RefsAt.snoc (g := optL) (x := fL fl k) ((upd_ne nral).trans hr) (TA.hls.put mls)
      · obtain ⟨ls, y5, rfl, mls, fls, sb9, T9⟩ := (hPl _ _ _).mp h9
        exact q H9 af ast ab al ss ls sb9 nalH fls T9
end
end HF
namespace HF
open PySem PySem.Spec PyProof.Rows L2
abbrev s_answer_fewest : Stmt := top 84
theorem sc_answer_fewest : FnScope ["field", "given"] ["field", "given"] (defScope s_answer_fewest) := ⟨rfl, rfl, rfl, by decide +kernel, rfl, by decide +kernel, by decide +kernel⟩
abbrev s_answer_bestorder : Stmt := top 85
theorem sc_answer_bestorder : FnScope ["field", "given", "found"] ["field", "given"] (defScope s_answer_bestorder) := ⟨rfl, rfl, rfl, by decide +kernel, rfl, by decide +kernel, by decide +kernel⟩
abbrev s_answer_labels : Stmt := top 86
theorem sc_answer_labels : FnScope ["field", "given", "found", "line", "least"] ["field", "given"] (defScope s_answer_labels) := ⟨rfl, rfl, rfl, by decide +kernel, rfl, by decide +kernel, by decide +kernel⟩
section
variable {P : Program} {w : World} {K : PySem.W.Frag} {mg : Str → Option Value} {base : Heap} {A : Ad}
/-- a new table beside all that is known -/
theorem made_same {C : Addr} {H H' : Hp} {x dx : Addr} (nx : H x = none) (nd : H dx = none) (sb : ∀ b o, (upd (upd H dx (.own x)) x (.ins C dx [])) b = some o → b ≠ x → H' b = some o) : Same H H' := fun b o e =>
  sb b o (by rw [upd_ne (ne_of_none e nx), upd_ne (ne_of_none e nd)]; exact e) (ne_of_none e nx)
theorem made_on {C : Addr} {H : Hp} {x dx : Addr} (nx : H x = none) (nd : H dx = none) : Same H (upd (upd H dx (.own x)) x (.ins C dx [])) := fun b o e => by
  rw [upd_ne (ne_of_none e nx), upd_ne (ne_of_none e nd)]
  exact e
theorem few_ok {f : Vbsyae.Field} (h : f.days.length ≤ 7) : Vbsyae.few f = .ok () := by
  unfold Vbsyae.few Vbsyae.FEW
  rw [if_pos h]
theorem few_bad {f : Vbsyae.Field} (h : ¬ f.days.length ≤ 7) : Vbsyae.few f = .error (-9) := by
  unfold Vbsyae.few Vbsyae.FEW
  rw [if_neg h]
def cFewest : List Int → Option Vbsyae.Call := fun _ => some .fewest
theorem ok_answer_fewest {f : Addr} {fd : FuncData} (F : Fun K "answer_fewest" "answer_fewest" s_answer_fewest f fd) (T : Txt K mg A) (c_check_days_in_table : Cal P w K mg base (L2.CX P w) 4 "check_days_in_table" ["field"] (sp_check_few A)) (k_Table : CalC P w K mg base CX0 6 "Table" A.cTable ["self", "field"] (sp_Table_init A)) (m_Table_fewest : CalM P w K mg base CX0 1 A.cTable "fewest" ["self"] (sp_fewest A)) : FnOk P w K mg base (L2.CX P w) 8 f fd ["field", "given"] (sp_ans A K cFewest) := by
  refine F.okX sc_answer_fewest (fun vs H Q E h => ?_) (fun cdv B outer s H vs Q E hr h => ?_)
  · obtain ⟨F, a, g, f, l, c, rfl, _⟩ := h
    rfl
  · obtain ⟨Fr, a, g, fl, l, c, rfl, hF, hg, hl, hc, q, er⟩ := h
    cases hc
    refine ⟨_, (pss_cons (ps_expr (pe_cal c_check_days_in_table (hr.mono (by decide)) (by rfl) (passes_call (takes_of rfl rfl rfl rfl) fun _ _ _ _ h => h) (pa_cons (pv 0) pa_nil)))
      (pss_one (ps_ret (pe_lst (pa_cons (pe_calM0 T.clTable m_Table_fewest (hr.mono (by decide)) pass0 (pe_calC k_Table hr (by rfl) pass0 (pa_cons (pv 0) pa_nil))) pa_nil))))), ?_⟩
    refine ⟨_, rfl, a, fl, rfl, hF.at, fun hn => ?_, fun hb => ?_⟩
    rotate_left
    · refine er (-9) ?_ A.cTooManyDays (by simp [errs])
      unfold Vbsyae.run
      dsimp only [bind, Except.bind]
      rw [few_bad hb]
    have hrun : Vbsyae.run fl .fewest = .ok (fl, [(Vbsyae.fewest fl : Int)]) := by
      unfold Vbsyae.run
      dsimp only [bind, Except.bind]
      rw [few_ok hn]
      rfl
    rw [hrun] at q
    refine ⟨_, rfl, fun x dx nx nd ne => ⟨x, dx, a, fl, rfl, upd_same, (hF.on (made_on nx nd)).at, hn, fun H1 af ast ab al ss ls sb nal nls X => ⟨rfl, x, dx, _, rfl, X.at_, nm_few, x, fl, dx, af, ast, ab, al, ss, ls, rfl, X, fun H2 s2 => ?_⟩⟩⟩
    refine ⟨(by show 1 ≤ sizeLine; decide), fun p np => ?_⟩
    have s1 := made_same nx nd sb
    obtain ⟨h4, h5⟩ := ((hF.on s1).on s2).new (o := .lst [.int (Vbsyae.fewest fl : Nat)]) np
    exact q _ _ rfl _ p h4 h5 upd_same
def cBestOrder : List Int → Option Vbsyae.Call := fun _ => some .bestOrder
theorem ok_answer_bestorder {f : Addr} {fd : FuncData} (F : Fun K "answer_bestorder" "answer_bestorder" s_answer_bestorder f fd) (T : Txt K mg A) (c_check_days_in_table : Cal P w K mg base (L2.CX P w) 4 "check_days_in_table" ["field"] (sp_check_few A)) (k_Table : CalC P w K mg base CX0 6 "Table" A.cTable ["self", "field"] (sp_Table_init A)) (m_Table_best_order : CalM P w K mg base CX0 2 A.cTable "best_order" ["self"] (sp_best_order A)) : FnOk P w K mg base (L2.CX P w) 8 f fd ["field", "given"] (sp_ans A K cBestOrder) := by
  refine F.okX sc_answer_bestorder (fun vs H Q E h => ?_) (fun cdv B outer s H vs Q E hr h => ?_)
  · obtain ⟨F, a, g, f, l, c, rfl, _⟩ := h
    rfl
  · obtain ⟨Fr, a, g, fl, l, c, rfl, hF, hg, hl, hc, q, er⟩ := h
    cases hc
    refine ⟨_, (pss_cons (ps_expr (pe_cal c_check_days_in_table (hr.mono (by decide)) (by rfl) (passes_call (takes_of rfl rfl rfl rfl) fun _ _ _ _ h => h) (pa_cons (pv 0) pa_nil)))
      (pss_cons (ps_set (i := 2) sc_answer_bestorder.nd rfl (Or.inl rfl) (pe_calM0 T.clTable m_Table_best_order (hr.mono (by decide)) pass0 (pe_calC k_Table hr (by rfl) pass0 (pa_cons (pv 0) pa_nil))))
      (pss_one (ps_ret (pe_op op_cat (pe_lst (pa_cons (pe_callB call_len_seq (by rfl) T.len PySem.boot_len (pa_cons (pv 2) pa_nil)) pa_nil)) (pv 2)))))), ?_⟩
    refine ⟨_, rfl, a, fl, rfl, hF.at, fun hn => ?_, fun hb => ?_⟩
    rotate_left
    · refine er (-9) ?_ A.cTooManyDays (by simp [errs])
      unfold Vbsyae.run
      dsimp only [bind, Except.bind]
      rw [few_bad hb]
    have hrun : Vbsyae.run fl .bestOrder = .ok (fl, Vbsyae.listRow (Vbsyae.bestOrder fl)) := by
      unfold Vbsyae.run
      dsimp only [bind, Except.bind]
      rw [few_ok hn]
      rfl
    rw [hrun] at q
    refine ⟨_, rfl, fun x dx nx nd ne => ⟨x, dx, a, fl, rfl, upd_same, (hF.on (made_on nx nd)).at, hn, fun H1 af ast ab al ss ls sb nal nls X => ⟨rfl, x, dx, _, rfl, X.at_, nm_best, x, fl, dx, af, ast, ab, al, ss, ls, rfl, X, fun H2 r s2 nr hr h7 => ?_⟩⟩⟩
    have s1 := made_same nx nd sb
    refine ⟨_, rfl, r, _, rfl, .inl (SqL.of hr), (by show 1 ≤ sizeLine; decide), fun p1 n1 => ?_⟩
    rw [natsV_len]
    have s3 := same_new (o := .lst [.int ((Vbsyae.bestOrder fl).length : Nat)]) n1
    refine ⟨_, rfl, p1, r, _, _, rfl, rfl, upd_same, s3 _ _ hr, ?_, fun p2 n2 => ?_⟩
    · rw [natsV_len]
      exact Nat.le_trans (show _ ≤ 8 by show 1 + _ ≤ 8; omega) (by decide)
    obtain ⟨h4, h5⟩ := (((hF.on s1).on s2).on s3).new (o := .lst ([.int ((Vbsyae.bestOrder fl).length : Nat)] ++ natsV (Vbsyae.bestOrder fl))) n2
    refine q _ _ rfl _ p2 h4 h5 (upd_same.trans ?_)
    unfold intsV Vbsyae.listRow VbsyCore.ints natsV
    rw [List.map_cons, List.map_map]
    rfl
def cLabels : List Int → Option Vbsyae.Call := fun _ => some .labels
theorem ok_answer_labels {f : Addr} {fd : FuncData} (F : Fun K "answer_labels" "answer_labels" s_answer_labels f fd) (T : Txt K mg A) (c_check_days_in_table : Cal P w K mg base (L2.CX P w) 4 "check_days_in_table" ["field"] (sp_check_few A)) (k_Table : CalC P w K mg base CX0 6 "Table" A.cTable ["self", "field"] (sp_Table_init A)) : FnOk P w K mg base (L2.CX P w) 8 f fd ["field", "given"] (sp_ans A K cLabels) := by
  refine F.okX sc_answer_labels (fun vs H Q E h => ?_) (fun cdv B outer s H vs Q E hr h => ?_)
  · obtain ⟨F, a, g, f, l, c, rfl, _⟩ := h
    rfl
  · obtain ⟨Fr, a, g, fl, l, c, rfl, hF, hg, hl, hc, q, er⟩ := h
    cases hc
    refine ⟨_, (pss_cons (ps_expr (pe_cal c_check_days_in_table (hr.mono (by decide)) (by rfl) (passes_call (takes_of rfl rfl rfl rfl) fun _ _ _ _ h => h) (pa_cons (pv 0) pa_nil)))
      (pss_cons (ps_set (i := 2) sc_answer_labels.nd rfl (Or.inl rfl) (pe_lst pa_nil))
      (pss_cons (ps_for (passes_of rfl) rfl (pi_list (pe_fld (pe_calC k_Table hr (by rfl) pass0 (pa_cons (pv 0) pa_nil)) rfl)) (pg_name (i := 3) sc_answer_labels.nd rfl (Or.inl rfl))
      (pss_one (ps_expr (pe_bm PySem.F.plainAttrs_list PySem.F.slot_list_extend PySem.F.type_list_extend mt_extend (pv 2) (pa_cons (pe_lc (own := [("least", 4)]) (g := gName 4) (tt := tYes) (by rfl) sc_answer_labels.nd (pi_list (pv 3)) (blkOk_by (own := [("least", 4)]) (N := ["field", "given", "found", "line", "least"]) (sc := defScope s_answer_labels) (by decide +kernel)) (fun _ _ _ _ _ => (pg_name (i := 4) sc_answer_labels.nd rfl (Or.inl rfl))) (fun _ _ _ _ _ => pts_nil) (fun _ _ _ _ _ => (pe_ifExp (pt_cmpR op_isN (pv 4) pe_non (nomark _)) (pe_un un_neg pe_int) (pv 4)))) pa_nil)))))
      (pss_one (ps_ret (pe_op op_cat (pe_lst (pa_cons (pe_callB call_len_seq (by rfl) T.len PySem.boot_len (pa_cons (pv 2) pa_nil)) pa_nil)) (pv 2))))))), ?_⟩
    refine ⟨_, rfl, a, fl, rfl, hF.at, fun hn => ?_, fun hb => ?_⟩
    rotate_left
    · refine er (-9) ?_ A.cTooManyDays (by simp [errs])
      unfold Vbsyae.run
      dsimp only [bind, Except.bind]
      rw [few_bad hb]
    have hn8 : fl.days.length < 8 := by omega
    have hrun : Vbsyae.run fl .labels = .ok (fl, ((HFM.fLines fl (2 ^ fl.days.length)).flatten.length : Int) :: (HFM.fLines fl (2 ^ fl.days.length)).flatten.map Vbsyae.numOr) := by
      unfold Vbsyae.run
      dsimp only [bind, Except.bind]
      rw [few_ok hn, HFM.size_eq hn8, HFM.table_eq hn8]
      rfl
    rw [hrun] at q
    have h128 := HFM.pow_le7 fl.days.length hn8
    refine ⟨(by show 0 ≤ sizeLine; decide), fun r nr => ?_⟩
    have s0 := same_new (o := .lst []) nr
    dsimp only [gName, tSeq, L2.start]
    refine ⟨_, rfl, fun x dx nx nd ne => ⟨x, dx, a, fl, rfl, upd_same, ((hF.on s0).on (made_on nx nd)).at, hn, fun H1 af ast ab al ss ls sb nal nls X => ⟨rfl, x, A.cTable, dx, _, _, rfl, X.at_, T.clTable, T.nLines, tF_lines _ _ _ _ _, al, rfl, ⟨ls, SqL.of X.hl⟩, ?_⟩⟩⟩
    have s1 := made_same nx nd sb
    have hr1 := s1 _ _ (upd_same : (upd H r (.lst [])) r = some (.lst []))
    have hrM : (upd (upd (upd H r (.lst [])) dx (.own x)) x (.ins A.cTable dx [])) r = some (.lst []) := made_on nx nd _ _ upd_same
    have nral : r ≠ al := fun z => by
      rw [← z, hrM] at nal
      cases nal
    have nrls : V.ref r ∉ ls := fun z => by
      have := nls r z
      rw [hrM] at this
      cases this
    have hFl : ∀ i, (HFM.fLines fl i).flatten.length = i * fl.days.length := fun i => by
      induction i with
      | zero => simp [HFM.fLines, HFM.linesTo]
      | succ i ih =>
        show (HFM.fLines fl i ++ [HFM.L fl.days.length (HFM.fF1 fl) (Vbsyae.carry fl) i]).flatten.length = _
        rw [List.flatten_append, List.length_append, ih, List.flatten_singleton, HFM.L_len, Nat.add_mul, Nat.one_mul]
    have hmul : ∀ i, i ≤ 2 ^ fl.days.length → i * fl.days.length ≤ 896 := fun i hi => Nat.le_trans (Nat.mul_le_mul hi hn) (by omega)
    have htake : ∀ i, i ≤ 2 ^ fl.days.length → (HFM.fLines fl (2 ^ fl.days.length)).take i = HFM.fLines fl i := fun i hi => by
      refine List.ext_getElem? fun j => ?_
      by_cases hj : j < i
      · rw [List.getElem?_take_of_lt hj, HFM.linesTo_get _ _ _ (by omega), HFM.linesTo_get _ _ _ hj]
      · rw [List.getElem?_eq_none (by rw [List.length_take]; omega), List.getElem?_eq_none (by rw [HFM.linesTo_len]; omega)]
    obtain ⟨Pv, hPv⟩ : ∃ Pv : Nat → L2.St → Hp → Prop, ∀ i σ H', Pv i σ H' ↔ ∃ (y3 : Option V), σ = [some (.ref a), some (.ref g), some (.ref r), y3, none] ∧ i ≤ 2 ^ fl.days.length ∧ Same H H' ∧ H' al = some (.lst ls) ∧ RefsAt optL H' ls (HFM.fLines fl (2 ^ fl.days.length)) ∧ H' r = some (.lst (intsV ((HFM.fLines fl i).flatten.map Vbsyae.numOr))) := ⟨_, fun _ _ _ => Iff.rfl⟩
    have hlsl : ls.length = 2 ^ fl.days.length := by rw [X.hls.len, HFM.linesTo_len]
    refine for_list (xs := ls) Pv ((hPv _ _ _).mpr ⟨none, rfl, Nat.zero_le _, s0.trans s1, X.hl, X.hls, hr1⟩) (fun i σ H' _ h5 => ?_) (fun i v σ H' hi h5 => ?_) (fun σ H' h5 => ?_)
    · obtain ⟨_, _, _, _, hal5, _⟩ := (hPv _ _ _).mp h5
      exact SqL.of hal5
    · obtain ⟨y3, rfl, hil, s5, hal5, hls5, hr5⟩ := (hPv _ _ _).mp h5
      have hin : i < 2 ^ fl.days.length := by rw [← hlsl]; exact (List.getElem?_eq_some_iff.mp hi).1
      obtain ⟨t, L, rfl, hL, ht⟩ := hls5.get2 hi
      rw [HFM.linesTo_get _ _ _ hin] at hL
      cases hL
      have hLl : (optsV (fL fl i)).length = fl.days.length := by rw [optsV_len, HFM.L_len]
      have hev := Evl.el_lcL (K := K) (H := H') (σ := [some (.ref a), some (.ref g), some (.ref r), some (.ref t), none]) (a := t) (xs := optsV (fL fl i)) (tl := tVar 3) (t := tYes) (te := tIf (tTest (tOp (fun x y H Q => y = .non ∧ Q (.bl (decide (x = .non))) H) (tVar 4) (tC .non))) (tUn (rU fun i => V.int (-i)) (tC (.int 1))) (tVar 4)) (j := 4) (vs := [4]) (fun _ => true) (fun d => V.int (Vbsyae.numOr (HFM.fE fl i d)))
        (Evl.ev_var rfl) (SqL.of ht) (by omega) (fun x => rfl) (fun i x H5 e hi => fun H6 e6 Q6 q6 => q6 H6 (Evl.Ex.refl H6))
        (fun d x H5 e hd _ => by
          have hdn : d < fl.days.length := by rw [← hLl]; exact (List.getElem?_eq_some_iff.mp hd).1
          rw [optsV_get (HFM.L_get _ _ _ hdn)] at hd
          cases hd
          refine Evl.ev_if (b := (HFM.fE fl i d).isNone) (Evl.et_test (Evl.ev_is (Evl.ev_op (Evl.ev_var rfl) Evl.ev_c (Evl.rv_val fun H6 _ Q6 q6 => ⟨rfl, q6⟩)) ?_)) (fun hb => ?_) (fun hb => ?_)
          · show V.bl (decide (optV (HFM.fE fl i d) = V.non)) = _
            cases HFM.fE fl i d <;> rfl
          · have : HFM.fE fl i d = none := Option.isNone_iff_eq_none.mp hb
            rw [this]
            exact Evl.ev_un Evl.ev_c Evl.ru_neg
          · cases hv : HFM.fE fl i d with
            | none => rw [hv] at hb; cases hb
            | some v =>
              have : (optV (HFM.E fl.days.length (HFM.fF1 fl) (Vbsyae.carry fl) i d)) = V.int (v : Int) := by
                rw [show HFM.E fl.days.length (HFM.fF1 fl) (Vbsyae.carry fl) i d = some v from hv]
                rfl
              rw [this]
              exact Evl.ev_var rfl)
      rw [given_all, hLl] at hev
      have hrow : (List.range fl.days.length).map (fun d => V.int (Vbsyae.numOr (HFM.fE fl i d))) = intsV ((fL fl i).map Vbsyae.numOr) := by
        unfold intsV fL
        rw [L_map, List.map_map, List.map_map]
        rfl
      rw [hrow] at hev
      refine ⟨_, rfl, .inl ⟨rfl, _, SqL.of hr5⟩, ?_⟩
      dsimp only [tCons]
      refine hev H' (Evl.Ex.refl H') _ fun D H2 nD e2 hD => ?_
      refine ⟨r, D, _, _, rfl, rfl, e2 _ _ hr5, hD, ?_, ?_⟩
      · rw [intsV_len, intsV_len, List.length_map, List.length_map, hFl, HFM.L_len]
        have := hmul i hil
        exact Nat.le_trans (show _ ≤ 1000 by omega) (by decide)
      · have nrt : ∀ b, V.ref b ∈ ls → b ≠ r := fun b hb z => nrls (z ▸ hb)
        refine (hPv _ _ _).mpr ⟨_, rfl, hin, same_mut (s5.trans e2) nr, (upd_ne (Ne.symm nral)).trans (e2 _ _ hal5), (hls5.on e2).put nrls, upd_same.trans ?_⟩
        rw [← intsV_app]
        show _ = some (HO.lst (intsV (((HFM.fLines fl i ++ [fL fl i]).flatten).map Vbsyae.numOr)))
        rw [List.flatten_append, List.flatten_singleton, List.map_append]
    · obtain ⟨y3, rfl, hil, s5, hal5, hls5, hr5⟩ := (hPv _ _ _).mp h5
      rw [hlsl] at hr5
      have hfl := hFl (2 ^ fl.days.length)
      have h896 := hmul _ (Nat.le_refl _)
      generalize (HFM.fLines fl (2 ^ fl.days.length)).flatten = Z at *
      refine ⟨_, rfl, r, _, rfl, .inl (SqL.of hr5), (by show 1 ≤ sizeLine; decide), fun p1 n1 => ?_⟩
      rw [intsV_len, List.length_map]
      have s3 := same_new (o := .lst [.int (Z.length : Nat)]) n1
      refine ⟨_, rfl, p1, r, _, _, rfl, rfl, upd_same, s3 _ _ hr5, ?_, fun p2 n2 => ?_⟩
      · rw [intsV_len, List.length_map]
        exact Nat.le_trans (show _ ≤ 1000 by show 1 + _ ≤ 1000; omega) (by decide)
      obtain ⟨h4, h5⟩ := ((hF.on s5).on s3).new (o := .lst ([.int (Z.length : Nat)] ++ intsV (Z.map Vbsyae.numOr))) n2
      exact q _ _ rfl _ p2 h4 h5 upd_same
end
end HF
namespace HF
open PySem PySem.Spec PyProof.Rows L2
abbrev s_answer_call : Stmt := top 91
theorem sc_answer_call : FnScope ["field", "number", "given", "answering", "refusal"] ["field", "number", "given"] (defScope s_answer_call) := ⟨rfl, rfl, rfl, by decide +kernel, rfl, by decide +kernel, by decide +kernel⟩
abbrev s_answers : Stmt := top 92
theorem sc_answers : FnScope ["calls", "field", "given_back", "place", "number", "start", "end", "answered"] ["calls"] (defScope s_answers) := ⟨rfl, rfl, rfl, by decide +kernel, rfl, by decide +kernel, by decide +kernel⟩
section
variable {P : Program} {w : World} {K : PySem.W.Frag} {mg : Str → Option Value} {base : Heap} {A : Ad}
/-- a def that lets nothing out keeps the promise of one that may -/
theorem okX {CX : CXT} {k : Nat} {f : Addr} {fd : FuncData} {ps : List Str} {sp : Sp} (F : FnOk P w K mg base CX0 k f fd ps sp) : FnOk P w K mg base CX k f fd ps sp :=
  ⟨F.len, fun A outer s H args us vs Q E hr he hb hv hs => codeAny_mono (F.run A outer s H args us vs Q E hr he hb hv hs) fun r s' h => by
    cases r with
    | ok fl => cases fl <;> exact h
    | error e => exact h.elim⟩
/-- a def that answers the calls told by c -/
def Ansr (P : Program) (w : World) (K : PySem.W.Frag) (mg : Str → Option Value) (base : Heap) (A : Ad) (f : Addr) (c : List Int → Option Vbsyae.Call) : Prop :=
  ∃ fd : FuncData, FnOk P w K mg base (L2.CX P w) 8 f fd ["field", "given"] (sp_ans A K c) ∧ PySem.W.keepIn K (.ref f) = true ∧ Binds K fd ["field", "given"] []
/-- the reading of a call of what the i-th slot holds -/
def tCallV (A : Ad) (i : Nat) (S : PySem.W.Frag) (G : Addr → (List Int → Option Vbsyae.Call) → Prop) (E : L2.St → XK) (t : TA) : TE := fun σ H Q => ∃ (f : Addr) (c : List Int → Option Vbsyae.Call), σ[i]? = some (some (.ref f)) ∧ G f c ∧ t σ H fun vs H1 => sp_ans A S c vs H1 Q (E σ)
theorem pe_callV {X : Cx} {A : Ad} {i : Nat} {x : Str} {e : Expr} {es : List Expr} {p pos : Pos} {t : TA} {E : L2.St → XK} (hr : Room 8 X.A) (hN : X.N[i]? = some x) (hv : Vis X.env.scope x) (hx : ∀ σ, PassesAt (L2.CX X.prog X.w) X σ (E σ)) (ha : PA X (e :: es) t)
    (hdb : (x == ("__debug__" : Str)) = false := by decide) (hcd : (x == ("__classdict__" : Str)) = false := by decide)
    (he : starEach (e :: es) X.env = (false, eval e X.env) :: starEach es X.env := by rfl) (hpl : (backTo pos (starEach es X.env)).any (·.1) = false := by rfl) : PE X (.Call (.Name x p) (e :: es) [] pos) (tCallV A i X.K (Ansr X.prog X.w X.K X.mg X.base A) E t) := by
  refine ⟨fun pins s σ H Q I hw => ?_⟩
  obtain ⟨f, c, hs, ⟨fd, F, hk, hb⟩, ht⟩ := hw
  refine wpAny_Call_Name_kw (thn ((pe_var (pos := p) hN hv hdb hcd).run pins s σ H (fun v H1 => v = .ref f ∧ H1 = H) I ⟨.ref f, hs, rfl, rfl⟩) fun u s1 ⟨v, H1, I1, r1, q1⟩ => ?_)
  obtain ⟨rfl, rfl⟩ := q1
  cases r1
  refine PySem.W.callWith_K (h₀ := X.base) I.ok.mod.kin hk (thn (ha.run pos pins s1 σ _ _ I1 ht) fun us s2 ⟨vs, H2, I2, r, q⟩ => ⟨I2.kIn, ?_⟩) he hpl
  exact run_fnS F hr hb (hx σ) I2 r q
/-- what answer_call promises -/
def sp_answer_call (A : Ad) (K : PySem.W.Frag) : Sp := fun vs H Q _ => ∃ (F : Hp) (a g : Addr) (f : Vbsyae.Field) (l : List Int) (i : Nat) (c : List Int → Option Vbsyae.Call) (call : Vbsyae.Call), vs = [.ref a, .int i, .ref g] ∧ FieldIn A.cField F H a f ∧ SqL K H g (intsV l) ∧ l.length ≤ 2000 ∧ HFM.cTab[i]? = some c ∧ c l = some call ∧
  ∀ (H' : Hp) (p : Addr), FieldIn A.cField F H' a (HFM.stepC f call).1 → F p = none → H' p = some (.lst (intsV (HFM.stepC f call).2)) → Q (.ref p) H'
theorem ok_answer_call {f : Addr} {fd : FuncData} (F : Fun K "answer_call" "answer_call" s_answer_call f fd) (T : Txt K mg A) (gA : mg "ANSWERING" = some (.ref A.aAns)) (hA : ∀ (i : Nat) c, HFM.cTab[i]? = some c → ∃ f, intAt K A.aAns (i : Int) = some (.ref f) ∧ Ansr P w K mg base A f c) : FnOk P w K mg base CX0 9 f fd ["field", "number", "given"] (sp_answer_call A K) := by
  refine F.ok sc_answer_call (fun vs H Q E h => ?_) (fun cdv B outer s H vs Q E hr h => ?_)
  · obtain ⟨F, a, g, f, l, i, c, call, rfl, _⟩ := h
    rfl
  · obtain ⟨Fr, a, g, fl, l, i, c, call, rfl, hF, hg, hl, hc, hcl, q⟩ := h
    refine ⟨_, (pss_cons (ps_set (i := 3) sc_answer_call.nd rfl (Or.inl rfl) (pe_ix ix_idict (pe_gr gA (by rfl)) (pv 1) (fun _ _ => rfl)))
      (pss_one (ps_try_as (i := 4) (tb := fun W => tRet (tCallV A 3 K (Ansr P w K mg base A) (WE W) (tCons (tVar 0) (tCons (tVar 2) tNil)))) (ts := fun a cls d => tRet (tLst (tCons (tXa K a cls d "answer" (tVar 4)) tNil))) (Wout := fun _ _ _ _ => False) rfl rfl sc_answer_call.nd rfl rfl ⟨rfl, by decide, Or.inl T.gRefusal⟩ takes0
          (fun W pn xe tk _ => pss_one (ps_ret (by exact (pe_callV hr rfl (Or.inl rfl) (fun σ => passAt tk σ) (by exact (pa_cons (pv 0) (pa_cons (pv 2) pa_nil)))))))
          (fun a oe cls d pn hz hf => pss_one (ps_ret (by exact (pe_lst (pa_cons (pe_xfa hz hf (pv 4)) pa_nil)))))))), ?_⟩
    obtain ⟨fa, hfa, hAns⟩ := hA i c hc
    refine ⟨_, rfl, _, _, _, .ref fa, rfl, rfl, hfa, rfl, ?_⟩
    refine ⟨fa, c, rfl, hAns, _, rfl, _, rfl, Fr, a, g, fl, l, call, rfl, hF, hg, hl, hcl, fun f' ans hm H' p h1 h2 h3 => ?_, fun n hm C hC => ?_⟩
    · unfold HFM.stepC at q
      rw [hm] at q
      exact q H' p h1 h2 h3
    · unfold HFM.stepC at q
      rw [hm] at q
      obtain ⟨x, xf, hno, hno2, hex⟩ := T.errs C hC
      intro H' dd fs nd s2 h1 h2
      refine ⟨true, hex, fun _ a0 na0 => ?_, fun z => Bool.noConfusion z⟩
      refine ⟨_, rfl, rfl, C, dd, fs, _, rfl, xf, hno, rfl, h1, h2, (by show 1 ≤ sizeLine; decide), fun p np => ?_⟩
      obtain ⟨h4, h5⟩ := (hF.on s2).new (o := .lst [.int n]) np
      exact q _ p h4 h5 upd_same
end
end HF
namespace HF
open PySem PySem.Spec PyProof.Rows L2
section
variable {P : Program} {w : World} {K : PySem.W.Frag} {mg : Str → Option Value} {base : Heap} {A : Ad}
/-! ### the field and what else is known -/
theorem FieldIn.grow {C : Addr} {F H : Hp} {a g : Addr} {f : Vbsyae.Field} {o : HO} (h : FieldIn C F H a f) (n : H g = none) : FieldIn C (upd F g o) (upd H g o) a f := by
  obtain ⟨s, na, wf, dx, w, d, ds, nw, nd, wd, e1, e2, e3, e4⟩ := h
  have k : Same H (upd H g o) := same_new n
  refine ⟨fun b x e => ?_, (upd_ne (ne_of_none e1 n)).trans na, wf, dx, w, d, ds, (upd_ne (ne_of_none e2 n)).trans nw, (upd_ne (ne_of_none e3 n)).trans nd, wd, k _ _ e1, k _ _ e2, k _ _ e3, e4.imp fun t xs e => k _ _ e⟩
  by_cases c : b = g
  · subst c
    rw [upd_same] at e ⊢
    exact e
  · rw [upd_ne c] at e ⊢
    exact s _ _ e
theorem FieldIn.weak {C : Addr} {F F0 H : Hp} {a : Addr} {f : Vbsyae.Field} (h : FieldIn C F H a f) (k : Same F0 F) : FieldIn C F0 H a f := by
  obtain ⟨s, na, wf, dx, w, d, ds, nw, nd, wd, e1, e2, e3, e4⟩ := h
  exact ⟨k.trans s, k.free na, wf, dx, w, d, ds, k.free nw, k.free nd, wd, e1, e2, e3, e4⟩
theorem FieldIn.set {C : Addr} {F H : Hp} {a r : Addr} {f : Vbsyae.Field} {xs ys : List V} (h : FieldIn C F H a f) (hr : F r = some (.lst xs)) : FieldIn C (upd F r (.lst ys)) (upd H r (.lst ys)) a f := by
  obtain ⟨s, na, wf, dx, w, d, ds, nw, nd, wd, e1, e2, e3, e4⟩ := h
  have n1 : a ≠ r := fun z => by rw [z, hr] at na; cases na
  have n2 : w ≠ r := fun z => by rw [z, hr] at nw; cases nw
  have n3 : d ≠ r := fun z => by rw [z, hr] at nd; cases nd
  have hH := s _ _ hr
  refine ⟨fun b x e => ?_, (upd_ne n1).trans na, wf, dx, w, d, ds, (upd_ne n2).trans nw, (upd_ne n3).trans nd, wd, (upd_ne n1).trans e1, (upd_ne n2).trans e2, (upd_ne n3).trans e3, e4.imp fun t zs e => (upd_ne (ne_of e hH (by intro q; cases q))).trans e⟩
  by_cases c : b = r
  · subst c
    rw [upd_same] at e ⊢
    exact e
  · rw [upd_ne c] at e ⊢
    exact s _ _ e
theorem upd_upd (H : Hp) (r : Addr) (o o' : HO) : upd (upd H r o) r o' = upd H r o' := by
  funext b
  by_cases c : b = r
  · subst c
    rw [upd_same, upd_same]
  · rw [upd_ne c, upd_ne c, upd_ne c]
theorem cutV_mid (l : List Int) (st e : Nat) (h1 : st ≤ e) (h2 : e ≤ l.length) : cutV (intsV l) (some (st : Int)) (some (e : Int)) = intsV ((l.drop st).take (e - st)) := by
  unfold cutV
  rw [HT.sIx_nat, HT.sIx_nat, intsV_len, Nat.min_eq_left h2, Nat.min_eq_left (by omega)]
  unfold intsV
  rw [List.map_take, List.map_drop]
def listsV : List V := [.int 1, .int 2, .int 4, .int 7, .int 8, .int 13, .int 16]
theorem lists_in : ∀ i : Nat, i < 21 → inV (.int (i : Int)) listsV = HFM.isL i := by decide +kernel
def sp_answers (K : PySem.W.Frag) : Sp := fun vs H Q _ => ∃ (p : Addr) (l : List Int), vs = [.ref p] ∧ SqL K H p (intsV l) ∧ PyVbsyae.answers_asked l = true ∧
  ∀ (H' : Hp) (r : Addr), H' r = some (.lst (intsV (PyVbsyae.answers l))) → Q (.ref r) H'
theorem ok_answers {f : Addr} {fd : FuncData} (F : Fun K "answers" "answers" s_answers f fd) (T : Txt K mg A) (gL : mg "CALLS_WITH_A_LIST" = some (.ref A.aLists)) (hL : ∀ H, SqT K H A.aLists listsV) (gW : mg "WHOLE_NUMBERS" = some (.ref A.aWhole))
    (hW : ∀ i : Nat, i < 21 → HFM.isL i = false → ∃ t, intAt K A.aWhole (i : Int) = some (.int (HFM.wnum i : Nat) t)) (k_Field : CalC P w K mg base CX0 1 "Field" A.cField ["self"] (sp_Field_init A.cField)) (c_answer_call : Cal P w K mg base CX0 9 "answer_call" ["field", "number", "given"] (sp_answer_call A K)) : FnOk P w K mg base CX0 10 f fd ["calls"] (sp_answers K) := by
  refine F.ok sc_answers (fun vs H Q E h => ?_) (fun cdv B outer s H vs Q E hr h => ?_)
  · obtain ⟨p, l, rfl, _⟩ := h
    rfl
  · obtain ⟨p0, l, rfl, hp, hask, q⟩ := h
    refine ⟨_, (pss_cons (ps_set (i := 1) sc_answers.nd rfl (Or.inl rfl) (pe_calC0 k_Field (hr.mono (by decide)) (by rfl) pass0))
      (pss_cons (ps_set (i := 2) sc_answers.nd rfl (Or.inl rfl) (pe_lst pa_nil))
      (pss_cons (ps_set (i := 3) sc_answers.nd rfl (Or.inl rfl) pe_int)
      (pss_cons (ps_while PassesOwn.never (pt_cmpR op_lt (pv 3) (pe_callB call_len_seq (by rfl) T.len PySem.boot_len (pa_cons (pv 0) pa_nil)) (nomark _))
      (pss_cons (ps_set (i := 4) sc_answers.nd rfl (Or.inl rfl) (pe_ix ix_list (pv 0) (pv 3) (fun _ _ => rfl)))
      (Evl.pss_cut (ps_if (pt_cmpR op_in_seq (pv 4) (pe_gr gL (by rfl)) (by rfl)) (pss_cons (ps_set (i := 5) sc_answers.nd rfl (Or.inl rfl) (pe_op op_add (pv 3) pe_int))
      (pss_one (ps_set (i := 6) sc_answers.nd rfl (Or.inl rfl) (pe_op op_add (pv 5) (pe_ix ix_list (pv 0) (pe_op op_add (pv 3) pe_int) (fun _ _ => rfl)))))) (pss_cons (ps_set (i := 5) sc_answers.nd rfl (Or.inl rfl) (pe_op op_add (pv 3) pe_int))
      (pss_one (ps_set (i := 6) sc_answers.nd rfl (Or.inl rfl) (pe_op op_add (pv 5) (pe_ix ix_idict (pe_gr gW (by rfl)) (pv 4) (fun _ _ => rfl)))))))
      (pss_cons (ps_set (i := 7) sc_answers.nd rfl (Or.inl rfl) (pe_cal c_answer_call hr (by rfl) pass0 (pa_cons (pv 1) (pa_cons (pv 4) (pa_cons (pe_slice sl_list (pv 0) (po_some (pv 5)) (po_some (pv 6))) pa_nil)))))
      (pss_cons (ps_expr (pe_bm PySem.F.plainAttrs_list PySem.F.slot_list_append PySem.F.type_list_append mt_append (pv 2) (pa_cons (pe_callB call_len_seq (by rfl) T.len PySem.boot_len (pa_cons (pv 7) pa_nil)) pa_nil)))
      (pss_cons (ps_expr (pe_bm PySem.F.plainAttrs_list PySem.F.slot_list_extend PySem.F.type_list_extend mt_extend (pv 2) (pa_cons (pv 7) pa_nil)))
      (pss_one (ps_set (i := 3) sc_answers.nd rfl (Or.inl rfl) (pv 6)))))))))
      (pss_one (ps_ret (pv 2))))))), ?_⟩
    obtain ⟨cs0, hcs0, hb0, hans, hlen⟩ := HFM.asked_is hask
    refine fun a dx na nd ne => ?_
    refine ⟨a, dx, rfl, upd_same, fun H1 w0 d0 k1 nw0 nd0 wd0 h1 h1w h1d => ⟨rfl, ?_⟩⟩
    obtain ⟨G1, s1⟩ := field_new (Same.refl H) na nd ne k1 nw0 nd0 wd0 h1 h1w h1d
    refine ⟨(by show 0 ≤ sizeLine; decide), fun r nr1 => ?_⟩
    have nr : H r = none := s1.free nr1
    have G2 := G1.grow (o := .lst []) nr1
    dsimp only [gName, tSeq, L2.start]
    obtain ⟨W, hW2⟩ : ∃ W : Nat → L2.St → Hp → Prop, ∀ m σ H', W m σ H' ↔ ∃ (pl k : Nat) (f : Vbsyae.Field) (out : List Int) (cs : List (List (List Int))) (y4 y5 y6 y7 : Option V), σ = [some (.ref p0), some (.ref a), some (.ref r), some (.int (pl : Nat)), y4, y5, y6, y7] ∧ m = l.length - pl ∧ pl ≤ l.length ∧ PyFlat.calls PyVbsyae.shape k (l.drop pl) = some cs ∧ PyInside.calls PyVbsyae.bound cs = true ∧
        PyVbsyae.answers l = out ++ HFM.rest f cs ∧ FieldIn A.cField (upd H r (.lst (intsV out))) H' a f := ⟨_, fun _ _ _ => Iff.rfl⟩
    refine Evl.s_while W l.length ((hW2 _ _ _).mpr ⟨0, l.length, Vbsyae.start, [], cs0, none, none, none, none, rfl, rfl, Nat.zero_le _, hcs0, hb0, hans, G2⟩) fun m σ H' hw => ?_
    obtain ⟨pl, k, fl, out, cs, y4, y5, y6, y7, rfl, rfl, hpl, hcs, hbd, hout, hF⟩ := (hW2 _ _ _).mp hw
    have sr : Same H (upd H r (.lst (intsV out))) := same_new nr
    have hp5 : SqL K H' p0 (intsV l) := hF.same.seq (sr.seq hp)
    refine ⟨decide (pl < l.length), Evl.et_test (Evl.ev_is (Evl.ev_op (Evl.ev_var rfl) (Evl.ev_len (Evl.ev_var rfl) hp5) Evl.rv_I0) ?_), fun hb H6 e6 => ?_, fun hb H6 e6 => ?_⟩
    · rw [intsV_len]
      show V.bl (decide ((pl : Int) < (l.length : Int))) = _
      congr 1
      by_cases c : pl < l.length
      · rw [decide_eq_true c]
        exact decide_eq_true (by omega)
      · rw [decide_eq_false c]
        exact decide_eq_false (by omega)
    · have hlt : pl < l.length := of_decide_eq_true hb
      have hF6 := hF.on e6
      have hp6 : SqL K H6 p0 (intsV l) := hF6.same.seq (sr.seq hp)
      refine ⟨fun σ2 H2 => ∃ m', m' < l.length - pl ∧ W m' σ2 H2, fun σ2 H2 h => h, ?_⟩
      obtain ⟨p, r', hd⟩ : ∃ p r', l.drop pl = p :: r' := ⟨l[pl], l.drop (pl + 1), List.drop_eq_getElem_cons hlt⟩
      have hpget : l[pl]? = some p := by
        have : (l.drop pl)[0]? = l[pl]? := by rw [List.getElem?_drop]; rfl
        rw [← this, hd]
        rfl
      have hdr : ∀ j, l.drop (pl + 1 + j) = r'.drop j := fun j => by
        have : l.drop (pl + (1 + j)) = (l.drop pl).drop (1 + j) := by rw [List.drop_drop]
        rw [Nat.add_assoc, this, hd, Nat.add_comm 1 j]
        rfl
      have hr'l : r'.length = l.length - (pl + 1) := by
        have := hdr 0
        rw [List.drop_zero, Nat.add_zero] at this
        rw [← this, List.length_drop]
      rw [hd] at hcs
      obtain ⟨i, g, k', c, cs', call, cc, rfl, hi, hcc, hcg, hdec, rfl, hg2, hbd', hLs, hNs⟩ := HFM.one_call hcs hbd
      have hgetV : ∀ {j : Nat} {x : Int}, l[j]? = some x → (intsV l)[j]? = some (.int x) := fun h => by
        unfold intsV
        rw [List.getElem?_map, h]
        rfl
      refine ⟨_, rfl, _, rfl, p0, _, _, _, rfl, rfl, hp6, atI_nat (hgetV hpget), ?_⟩
      refine ⟨fun σ2 H2 => H2 = H6 ∧ ∃ st e : Nat, σ2 = [some (.ref p0), some (.ref a), some (.ref r), some (.int (pl : Nat)), some (.int (i : Nat)), some (.int (st : Nat)), some (.int (e : Nat)), y7] ∧ st ≤ e ∧ e ≤ l.length ∧ pl < e ∧ g = (l.drop st).take (e - st) ∧ PyFlat.calls PyVbsyae.shape k' (l.drop e) = some cs', ?_, ?_⟩
      · refine ⟨_, rfl, A.aLists, listsV, rfl, .inr (hL H6), rfl, by decide, ?_⟩
        refine ⟨_, rfl, ?_⟩
        show if inV (V.int (i : Int)) listsV = true then _ else _
        rw [lists_in i hi]
        cases hLi : HFM.isL i with
        | true =>
          refine iteT ?_
          obtain ⟨z, r2, hz, hz0, hzl, hg, hcs2⟩ := hLs hLi
          subst hz
          have hd2 : l.drop (pl + 2) = r2 := by
            have := hdr 1
            rw [this]
            rfl
          have hget1 : l[pl + 1]? = some z := by
            have : (l.drop (pl + 1))[0]? = l[pl + 1]? := by rw [List.getElem?_drop, Nat.add_zero]
            have h0 := hdr 0
            rw [Nat.add_zero, List.drop_zero] at h0
            rw [← this, h0]
            rfl
          have hzl' : pl + 2 + z.toNat ≤ l.length := by
            have : r2.length = l.length - (pl + 2) := by rw [← hd2, List.length_drop]
            have h3 : (z :: r2).length = l.length - (pl + 1) := hr'l
            rw [List.length_cons] at h3
            omega
          refine ⟨_, rfl, _, _, rfl, rfl, ?_⟩
          refine ⟨_, rfl, _, rfl, _, rfl, _, _, rfl, rfl, p0, _, _, .int z, rfl, rfl, hp6, ?_, _, _, rfl, rfl, ?_⟩
          · have := atI_nat (hgetV hget1)
            exact this
          · refine ⟨rfl, pl + 2, pl + 2 + z.toNat, ?_, by omega, hzl', by omega, ?_, ?_⟩
            · have e1 : ((pl : Int) + 2 + z) = ((pl + 2 + z.toNat : Nat) : Int) := by omega
              show _ = [_, _, _, _, _, some (V.int ((pl : Int) + 2)), some (V.int ((pl + 2 + z.toNat : Nat) : Int)), _]
              rw [← e1]
              rfl
            · rw [hd2, Nat.add_sub_cancel_left]
              exact hg
            · have : l.drop (pl + 2 + z.toNat) = r2.drop z.toNat := by rw [← List.drop_drop, hd2]
              rw [this]
              exact hcs2
        | false =>
          refine iteF ?_
          obtain ⟨hwl, hg, hcs2⟩ := hNs hLi
          obtain ⟨t, ht⟩ := hW i hi hLi
          refine ⟨_, rfl, _, _, rfl, rfl, ?_⟩
          refine ⟨_, rfl, _, rfl, A.aWhole, _, _, .int (HFM.wnum i : Nat), rfl, rfl, ht, ⟨_, rfl⟩, _, _, rfl, rfl, ?_⟩
          refine ⟨rfl, pl + 1, pl + 1 + HFM.wnum i, rfl, by omega, by omega, by omega, ?_, ?_⟩
          · have h0 := hdr 0
            rw [Nat.add_zero, List.drop_zero] at h0
            rw [h0, Nat.add_sub_cancel_left]
            exact hg
          · rw [hdr]
            exact hcs2
      · rintro σ2 H2 ⟨rfl, st, e, rfl, hse, hel, hple, hg, hcs2⟩
        refine ⟨_, rfl, _, rfl, _, rfl, _, rfl, _, rfl, _, rfl, _, rfl, p0, _, rfl, hp6, fun gs ngs => ?_⟩
        rw [cutV_mid l st e hse hel, ← hg]
        have hF7 := hF6.grow (o := .lst (intsV g)) ngs
        have nrg : r ≠ gs := fun z => by
          have := hF6.same r _ upd_same
          rw [z, ngs] at this
          cases this
        have hgs : (upd H2 gs (.lst (intsV g))) gs = some (.lst (intsV g)) := upd_same
        generalize upd H2 gs (.lst (intsV g)) = H7 at *
        refine ⟨_, a, gs, fl, g, i, cc, call, rfl, hF7, SqL.of hgs, hg2, hcc, hcg, fun H8 p hF8 np hp8 => ?_⟩
        have hrest := HFM.rest_cons (f := fl) (cs := cs') hdec
        rw [hrest] at hout
        generalize HFM.stepC fl call = sc at *
        obtain ⟨f2, ans⟩ := sc
        dsimp only at *
        have hr8F : (upd (upd H r (.lst (intsV out))) gs (.lst (intsV g))) r = some (.lst (intsV out)) := (upd_ne nrg).trans upd_same
        have hr8 := hF8.same _ _ hr8F
        have hol : out.length + 1 + ans.length ≤ 10000000 := by
          rw [hout] at hlen
          simp only [List.length_append, List.length_cons] at hlen
          omega
        have nrp : p ≠ r := fun z => by rw [z, hr8F] at np; cases np
        refine ⟨_, rfl, .inl ⟨rfl, _, SqL.of hr8⟩, _, rfl, p, _, rfl, .inl (SqL.of hp8), r, _, _, rfl, rfl, hr8, ?_, ?_⟩
        · rw [intsV_len]
          exact Nat.lt_of_le_of_lt (show _ ≤ 10000000 by omega) (by decide)
        have hp9 : (upd H8 r (.lst (intsV out ++ [.int ((intsV ans).length : Nat)]))) p = some (.lst (intsV ans)) := (upd_ne nrp).trans hp8
        refine ⟨_, rfl, .inl ⟨rfl, _, SqL.of upd_same⟩, _, rfl, r, p, _, _, rfl, rfl, upd_same, hp9, ?_, ?_⟩
        · rw [List.length_append, intsV_len, intsV_len]
          exact Nat.le_trans (show _ ≤ 10000000 by show out.length + 1 + _ ≤ _; omega) (by decide)
        refine ⟨_, rfl, l.length - e, by omega, (hW2 _ _ _).mpr ⟨e, k', f2, out ++ ((ans.length : Int) :: ans), cs', _, _, _, _, rfl, rfl, hel, hcs2, hbd', ?_, ?_⟩⟩
        · rw [hout, List.append_assoc]
        · have hset := hF8.set (ys := intsV (out ++ ((ans.length : Int) :: ans))) hr8F
          have e1 : intsV out ++ [.int ((intsV ans).length : Nat)] ++ intsV ans = intsV (out ++ ((ans.length : Int) :: ans)) := by
            rw [intsV_app, intsV_len, List.append_assoc]
            rfl
          rw [e1, upd_upd]
          refine hset.weak fun b o hb => ?_
          by_cases c : b = r
          · subst c
            rw [upd_same] at hb ⊢
            exact hb
          · rw [upd_ne c] at hb ⊢
            have hbg : b ≠ gs := fun z => by
              have := hF6.same b _ ((upd_ne c).trans hb)
              rw [z, ngs] at this
              cases this
            rw [upd_ne hbg, upd_ne c]
            exact hb
    · have hge : ¬ pl < l.length := of_decide_eq_false hb
      have : l.drop pl = [] := List.drop_eq_nil_of_le (by omega)
      rw [this] at hcs
      have hc0 : cs = [] := by
        cases k with
        | zero => unfold PyFlat.calls at hcs; exact (Option.some.inj hcs).symm
        | succ k => unfold PyFlat.calls at hcs; exact (Option.some.inj hcs).symm
      subst hc0
      rw [HFM.rest_nil, List.append_nil] at hout
      refine ⟨_, rfl, q H6 r ?_⟩
      rw [hout]
      exact e6 _ _ (hF.same _ _ upd_same)
end
end HF
namespace HF
open PySem PySem.Spec PyProof.Rows L2
/-! ## the end: what the top has left, and the chain of promises -/
section
variable {P : Program} {w : World} {K : PySem.W.Frag} {mg : Str → Option Value} {base : Heap} {CX : CXT} {k : Nat} {f C : Addr} {fd : FuncData} {ps : List Str} {sp : Sp} {x m : Str}
theorem cal_mk (F : FnOk P w K mg base CX k f fd ps sp) (g : mg x = some (.ref f)) (kp : PySem.W.keepIn K (.ref f) = true) (b : Binds K fd ps []) : Cal P w K mg base CX k x ps sp := ⟨f, fd, F, g, kp, b⟩
theorem calM_mk (F : FnOk P w K mg base CX k f fd ps sp) (M : Meth K C m f) (b : Binds K fd ps []) : CalM P w K mg base CX k C m ps sp := ⟨f, fd, F, M, b⟩
theorem calC_mk (F : FnOk P w K mg base CX k f fd ps sp) (M : Mk K C f) (g : mg x = some (.ref C)) (b : Binds K fd ps []) : CalC P w K mg base CX k x C ps sp := ⟨f, fd, F, M, g, b⟩
theorem calX_mk (F : FnOk P w K mg base CX k f fd ps sp) (T : XC K C) (i : PySem.W.findIn K (.ref C) "__init__" = some (some (.ref f))) (t : PySem.W.typeIn K (.ref f) = some (.type "function")) (g : mg x = some (.ref C)) (b : Binds K fd ps []) : CalX P w K mg base CX k x C ps sp := ⟨f, fd, F, T, i, t, g, b⟩
theorem calB_mk (F : FnOk P w K mg base CX0 k f fd ps sp) (r : ClX.CRead K C (.type "type")) (c : PySem.W.findCls K (.ref C) (.type "type") "__init__" = some (.val (.ref f))) (kp : PySem.W.keepIn K (.ref f) = true) (g : mg x = some (.ref C)) (b : Binds K fd ps []) : CalB P w K mg base k C x ps sp := ⟨f, fd, F, r, c, kp, g, b⟩
end
def FnAt (K : PySem.W.Frag) (mg : Str → Option Value) (x : Str) (st : Stmt) (ps : List Str) : Prop := ∃ (f : Addr) (fd : FuncData), Fun K x x st f fd ∧ mg x = some (.ref f) ∧ PySem.W.keepIn K (.ref f) = true ∧ Binds K fd ps []
def MtAt (K : PySem.W.Frag) (C : Addr) (m qual : Str) (st : Stmt) (ps : List Str) : Prop := ∃ (f : Addr) (fd : FuncData), Fun K m qual st f fd ∧ Meth K C m f ∧ Binds K fd ps []
def InAt (K : PySem.W.Frag) (mg : Str → Option Value) (x : Str) (C : Addr) (qual : Str) (st : Stmt) (ps : List Str) : Prop := ∃ (f : Addr) (fd : FuncData), Fun K "__init__" qual st f fd ∧ Mk K C f ∧ mg x = some (.ref C) ∧ Binds K fd ps []
def XiAt (K : PySem.W.Frag) (mg : Str → Option Value) (x : Str) (C : Addr) (qual : Str) (st : Stmt) (ps : List Str) : Prop := ∃ (f : Addr) (fd : FuncData), Fun K "__init__" qual st f fd ∧ XC K C ∧ PySem.W.findIn K (.ref C) "__init__" = some (some (.ref f)) ∧ PySem.W.typeIn K (.ref f) = some (.type "function") ∧ mg x = some (.ref C) ∧ Binds K fd ps []
def BiAt (K : PySem.W.Frag) (mg : Str → Option Value) (x : Str) (C : Addr) (qual : Str) (st : Stmt) (ps : List Str) : Prop := ∃ (f : Addr) (fd : FuncData), Fun K "__init__" qual st f fd ∧ ClX.CRead K C (.type "type") ∧ PySem.W.findCls K (.ref C) (.type "type") "__init__" = some (.val (.ref f)) ∧ PySem.W.keepIn K (.ref f) = true ∧ mg x = some (.ref C) ∧ Binds K fd ps []
section
variable {K : PySem.W.Frag} {h : Heap} {mg : Str → Option Value} {f C : Addr} {oc : Value} {od an : Option Addr} {osl : Array (Option Value)} {kV doc pm cdv ct : Value} {x m qual : Str} {st : Stmt} {ps : List Str}
/-- how a def's parameters are bound -/
def BindsOf (x qual : Str) (st : Stmt) (ps : List Str) : Prop := ∀ (kV doc pm : Value) (an : Option Addr) (cdv ct : Value) (us : List Value), us.length = ps.length → bindArgs (PySem.W.fnOf x qual (defArgs st) (defBody st) (defScope st) .none kV doc pm an cdv ct) ⟨us, []⟩ = pure (ps.zip us)
theorem fnAt_mk (X : K.In h) (G : h.Ns mainGlobals mg) (b : BindsOf x x st ps) (a : PySem.W.nsIn K mainGlobals x = some (some (.ref f))) (l : K.lookup f = some ⟨oc, od, .func (PySem.W.fnOf x x (defArgs st) (defBody st) (defScope st) .none kV doc pm an cdv ct), osl⟩) (c : PySem.W.codeIn K cdv x = true) (k : PySem.W.keepIn K (.ref f) = true) : FnAt K mg x st ps :=
  ⟨f, _, fun_mk l c k, PySem.W.mg_of X G a, k, (fun_mk (st := st) l c k).binds b⟩
theorem mtAt_mk (b : BindsOf m qual st ps) (a : PySem.W.findIn K (.ref C) m = some (some (.ref f))) (l : K.lookup f = some ⟨oc, od, .func (PySem.W.fnOf m qual (defArgs st) (defBody st) (defScope st) .none kV doc pm an cdv ct), osl⟩) (c : PySem.W.codeIn K cdv qual = true) (k : PySem.W.keepIn K (.ref f) = true) (n : PySem.W.isFn K (.ref f) = true) : MtAt K C m qual st ps :=
  ⟨f, _, fun_mk l c k, ⟨a, n, k⟩, (fun_mk (st := st) l c k).binds b⟩
theorem inAt_mk (X : K.In h) (G : h.Ns mainGlobals mg) (b : BindsOf "__init__" qual st ps) (g : PySem.W.nsIn K mainGlobals x = some (some (.ref C))) (a : PySem.W.findIn K (.ref C) "__init__" = some (some (.ref f))) (l : K.lookup f = some ⟨oc, od, .func (PySem.W.fnOf "__init__" qual (defArgs st) (defBody st) (defScope st) .none kV doc pm an cdv ct), osl⟩) (c : PySem.W.codeIn K cdv qual = true) (k : PySem.W.keepIn K (.ref f) = true) (n : PySem.W.isFn K (.ref f) = true)
    (mk : PySem.W.makesIn K C = true) (kc : PySem.W.keepIn K (.ref C) = true) : InAt K mg x C qual st ps :=
  ⟨f, _, fun_mk l c k, ⟨mk, a, n, kc⟩, PySem.W.mg_of X G g, (fun_mk (st := st) l c k).binds b⟩
theorem xiAt_mk (X : K.In h) (G : h.Ns mainGlobals mg) (T : XC K C) (b : BindsOf "__init__" qual st ps) (g : PySem.W.nsIn K mainGlobals x = some (some (.ref C))) (a : PySem.W.findIn K (.ref C) "__init__" = some (some (.ref f))) (l : K.lookup f = some ⟨oc, od, .func (PySem.W.fnOf "__init__" qual (defArgs st) (defBody st) (defScope st) .none kV doc pm an cdv ct), osl⟩) (c : PySem.W.codeIn K cdv qual = true) (k : PySem.W.keepIn K (.ref f) = true) (t : PySem.W.typeIn K (.ref f) = some (.type "function")) : XiAt K mg x C qual st ps :=
  ⟨f, _, fun_mk l c k, T, a, t, PySem.W.mg_of X G g, (fun_mk (st := st) l c k).binds b⟩
theorem biAt_mk (X : K.In h) (G : h.Ns mainGlobals mg) (b : BindsOf "__init__" qual st ps) (g : PySem.W.nsIn K mainGlobals x = some (some (.ref C))) (a : PySem.W.findCls K (.ref C) (.type "type") "__init__" = some (.val (.ref f))) (l : K.lookup f = some ⟨oc, od, .func (PySem.W.fnOf "__init__" qual (defArgs st) (defBody st) (defScope st) .none kV doc pm an cdv ct), osl⟩) (c : PySem.W.codeIn K cdv qual = true) (k : PySem.W.keepIn K (.ref f) = true)
    (r1 : PySem.W.readsIn K C (.type "type") = true) (r2 : PySem.W.specialIn K (.ref C) "__getattribute__" = some (some (.builtin "type.__getattribute__"))) : BiAt K mg x C qual st ps :=
  ⟨f, _, fun_mk l c k, ⟨r1, r2⟩, a, k, PySem.W.mg_of X G g, (fun_mk (st := st) l c k).binds b⟩
/-- a class of the written part over an error's -/
theorem xc_mk {nm q : Str} {N : Addr} {bs bm : List Value} {sn : List Str} {sub : List Value} {ab : Bool} {col : Option Bool} {dd : Option Addr} {k0 k1 k2 k3 k5 : Option Value} (l : K.lookup C = some (excClassObj nm q C N bs bm true sn sub ab col dd k0 k1 k2 k3 k5 "Exception.__new__")) (r : refsX bm = true)
    (sa : PySem.W.findIn K (.ref C) "__setattr__" = some (some (.builtin "object.__setattr__"))) (e : PySem.W.subIn K (.ref C) (.type "BaseException") = some true) (t : PySem.W.typeIn K (.ref C) = some (.type "type")) (k : PySem.W.keepIn K (.ref C) = true) : XC K C :=
  ⟨⟨nm, q, N, bs, bm, sn, sub, ab, col, dd, k0, k1, k2, k3, k5, l, r⟩, sa, e, t, k⟩
/-- an error of the class at C is what «except R» names -/
theorem exm_mk {R : Addr} (h1 : PySem.W.subIn K (.ref R) (.type "BaseException") = some true) (h2 : PySem.W.isClsIn K R = true) (h3 : PySem.W.typeIn K (.ref R) = some (.type "type")) (h4 : PySem.W.subIn K (.ref C) (.ref R) = some true) : PySem.W.exmOne K (.ref C) (.ref R) = some true := by
  have u1 : (PySem.W.subIn K (.ref R) (.type "BaseException") == some true) = true := by rw [h1]; rfl
  have u2 : ((PySem.W.clsIn K R).isSome && PySem.W.typeIn K (.ref R) == some (.type "type")) = true := by
    have h2' : (PySem.W.clsIn K R).isSome = true := h2
    rw [h2', h3]
    rfl
  show (if (PySem.W.subIn K (.ref R) (.type "BaseException") == some true) = true then (if ((PySem.W.clsIn K R).isSome && PySem.W.typeIn K (.ref R) == some (.type "type")) = true then PySem.W.subIn K (.ref C) (.ref R) else none) else none) = some true
  rw [if_pos u1, if_pos u2]
  exact h4
theorem gi_mk (X : K.In h) (G : h.Ns mainGlobals mg) {n : Int} {t : Tok} (a : PySem.W.nsIn K mainGlobals x = some (some (.int n t))) : ∃ t, mg x = some (.int n t) := ⟨t, PySem.W.mg_of X G a⟩
theorem sqT_mk {a : Addr} {its : Array Value} {n : Nat} {dd : Option Addr} {sl : Array (Option Value)} {xs : List V} (l : K.lookup a = some ⟨.type "tuple", dd, .seq its n, sl⟩) (z : its.size ≤ sizeLine) (v : Vals xs its.toList) : ∀ H, SqT K H a xs := fun H => .inr ⟨_, its, n, l, rfl, rfl, z, v⟩
theorem intAt_mk {a : Addr} {es : Array DictEntry} {n : Nat} {i : Int} {u : Value} (l : K.lookup a = some ⟨.type "dict", none, .dict es n, #[]⟩) (hk : es.toList.all intKeyB = true) (hf : findBy Value.isInt es i = some u) : intAt K a i = some u := by
  unfold intAt
  rw [l]
  dsimp only
  rw [if_pos ⟨rfl, rfl, hk⟩]
  exact hf
theorem ans_mk {a f : Addr} {es : Array DictEntry} {n : Nat} {i : Int} {x : Str} (m : PySem.W.nsIn K mainGlobals x = some (some (.ref f))) (l : K.lookup a = some ⟨.type "dict", none, .dict es n, #[]⟩) (hk : es.toList.all intKeyB = true) (hf : findBy Value.isInt es i = some (.ref f)) : ∃ f, intAt K a i = some (.ref f) ∧ PySem.W.nsIn K mainGlobals x = some (some (.ref f)) := ⟨f, intAt_mk l hk hf, m⟩
end

structure All (K : PySem.W.Frag) (mg : Str → Option Value) (A : Ad) : Prop where
  i_Field : InAt K mg "Field" A.cField "Field.__init__" s_Field___init__ ["self"]
  m_Field_become : MtAt K A.cField "become" "Field.become" s_Field_become ["self", "other"]
  f_cell_beyond : FnAt K mg "cell_beyond" s_cell_beyond ["field", "cell", "side"]
  f_needs_hurdle : FnAt K mg "needs_hurdle" s_needs_hurdle ["field", "inside", "cell", "side"]
  f_marked : FnAt K mg "marked" s_marked ["cells"]
  f_hurdles : FnAt K mg "hurdles" s_hurdles ["field", "cells"]
  f_part_from : FnAt K mg "part_from" s_part_from ["field", "cells", "start"]
  f_parts : FnAt K mg "parts" s_parts ["field", "cells"]
  f_day_cells : FnAt K mg "day_cells" s_day_cells ["field", "day"]
  f_place_told : FnAt K mg "place_told" s_place_told ["field", "cell", "side"]
  f_day_places : FnAt K mg "day_places" s_day_places ["field", "day"]
  f_all_places : FnAt K mg "all_places" s_all_places ["field"]
  f_carried : FnAt K mg "carried" s_carried ["standing", "needed"]
  f_carried_each : FnAt K mg "carried_each" s_carried_each ["row_of_places"]
  f_times_folded : FnAt K mg "times_folded" s_times_folded ["field"]
  i_Refusal : BiAt K mg "Refusal" A.cRefusal "Refusal.__init__" s_Refusal___init__ ["self", "answer"]
  i_NotBytes : XiAt K mg "NotBytes" A.cNotBytes "NotBytes.__init__" s_NotBytes___init__ ["self"]
  i_OutOfRange : XiAt K mg "OutOfRange" A.cOutOfRange "OutOfRange.__init__" s_OutOfRange___init__ ["self"]
  i_WrongList : XiAt K mg "WrongList" A.cWrongList "WrongList.__init__" s_WrongList___init__ ["self"]
  i_NotThere : XiAt K mg "NotThere" A.cNotThere "NotThere.__init__" s_NotThere___init__ ["self"]
  i_TooManyDays : XiAt K mg "TooManyDays" A.cTooManyDays "TooManyDays.__init__" s_TooManyDays___init__ ["self"]
  i_TextFault : XiAt K mg "TextFault" A.cTextFault "TextFault.__init__" s_TextFault___init__ ["self", "place"]
  f_spelled : FnAt K mg "spelled" s_spelled ["text"]
  f_words_with_places : FnAt K mg "words_with_places" s_words_with_places ["text"]
  i_Reader : InAt K mg "Reader" A.cReader "Reader.__init__" s_Reader___init__ ["self", "text"]
  m_Reader_at_end : MtAt K A.cReader "at_end" "Reader.at_end" s_Reader_at_end ["self"]
  m_Reader_refuse : MtAt K A.cReader "refuse" "Reader.refuse" s_Reader_refuse ["self"]
  m_Reader_sees : MtAt K A.cReader "sees" "Reader.sees" s_Reader_sees ["self", "word"]
  m_Reader_pass_word : MtAt K A.cReader "pass_word" "Reader.pass_word" s_Reader_pass_word ["self", "word"]
  m_Reader_pass_number : MtAt K A.cReader "pass_number" "Reader.pass_number" s_Reader_pass_number ["self", "least", "most"]
  m_Reader_pass_end : MtAt K A.cReader "pass_end" "Reader.pass_end" s_Reader_pass_end ["self"]
  f_pass_day : FnAt K mg "pass_day" s_pass_day ["reader", "field"]
  f_read_day : FnAt K mg "read_day" s_read_day ["text", "field"]
  f_read_field : FnAt K mg "read_field" s_read_field ["text"]
  f_day_written : FnAt K mg "day_written" s_day_written ["day"]
  f_field_written : FnAt K mg "field_written" s_field_written ["field"]
  i_Table : InAt K mg "Table" A.cTable "Table.__init__" s_Table___init__ ["self", "field"]
  m_Table_line_of : MtAt K A.cTable "line_of" "Table.line_of" s_Table_line_of ["self", "number"]
  m_Table_least_ending : MtAt K A.cTable "least_ending" "Table.least_ending" s_Table_least_ending ["self", "number", "day"]
  m_Table_last_day : MtAt K A.cTable "last_day" "Table.last_day" s_Table_last_day ["self", "number", "onward"]
  m_Table_best_order : MtAt K A.cTable "best_order" "Table.best_order" s_Table_best_order ["self"]
  m_Table_fewest : MtAt K A.cTable "fewest" "Table.fewest" s_Table_fewest ["self"]
  f_line_cost : FnAt K mg "line_cost" s_line_cost ["whole", "walled"]
  f_rectangle_cost : FnAt K mg "rectangle_cost" s_rectangle_cost ["field", "high", "wide"]
  f_first_line : FnAt K mg "first_line" s_first_line ["last_that_fits", "walled_before", "walled_behind"]
  f_rectangle_put : FnAt K mg "rectangle_put" s_rectangle_put ["field", "high", "wide"]
  f_every_rectangle : FnAt K mg "every_rectangle" s_every_rectangle ["field"]
  f_first_size : FnAt K mg "first_size" s_first_size ["ranked"]
  f_greatest_rectangle : FnAt K mg "greatest_rectangle" s_greatest_rectangle ["field", "most_hurdles"]
  f_cheapest_rectangle : FnAt K mg "cheapest_rectangle" s_cheapest_rectangle ["field", "least_cells"]
  f_most_cells : FnAt K mg "most_cells" s_most_cells ["field", "most_hurdles"]
  f_rounded_size : FnAt K mg "rounded_size" s_rounded_size ["field", "cells"]
  f_check_range : FnAt K mg "check_range" s_check_range ["number", "least", "most"]
  f_check_bytes : FnAt K mg "check_bytes" s_check_bytes ["text"]
  f_check_cells : FnAt K mg "check_cells" s_check_cells ["field", "cells"]
  f_check_day : FnAt K mg "check_day" s_check_day ["field", "day"]
  f_check_order : FnAt K mg "check_order" s_check_order ["field", "days"]
  f_check_days_in_table : FnAt K mg "check_days_in_table" s_check_days_in_table ["field"]
  f_answer_clear : FnAt K mg "answer_clear" s_answer_clear ["field", "given"]
  f_answer_field : FnAt K mg "answer_field" s_answer_field ["field", "given"]
  f_answer_look : FnAt K mg "answer_look" s_answer_look ["field", "given"]
  f_answer_text : FnAt K mg "answer_text" s_answer_text ["field", "given"]
  f_answer_day : FnAt K mg "answer_day" s_answer_day ["field", "given"]
  f_answer_undo : FnAt K mg "answer_undo" s_answer_undo ["field", "given"]
  f_answer_told : FnAt K mg "answer_told" s_answer_told ["field", "given"]
  f_answer_cost : FnAt K mg "answer_cost" s_answer_cost ["field", "given"]
  f_answer_sides : FnAt K mg "answer_sides" s_answer_sides ["field", "given"]
  f_answer_rect : FnAt K mg "answer_rect" s_answer_rect ["field", "given"]
  f_answer_best : FnAt K mg "answer_best" s_answer_best ["field", "given"]
  f_answer_least : FnAt K mg "answer_least" s_answer_least ["field", "given"]
  f_answer_curve : FnAt K mg "answer_curve" s_answer_curve ["field", "given"]
  f_answer_rounded : FnAt K mg "answer_rounded" s_answer_rounded ["field", "given"]
  f_answer_plan : FnAt K mg "answer_plan" s_answer_plan ["field", "given"]
  f_answer_covered : FnAt K mg "answer_covered" s_answer_covered ["field", "given"]
  f_answer_order : FnAt K mg "answer_order" s_answer_order ["field", "given"]
  f_answer_fewest : FnAt K mg "answer_fewest" s_answer_fewest ["field", "given"]
  f_answer_bestorder : FnAt K mg "answer_bestorder" s_answer_bestorder ["field", "given"]
  f_answer_labels : FnAt K mg "answer_labels" s_answer_labels ["field", "given"]
  f_answer_between : FnAt K mg "answer_between" s_answer_between ["field", "given"]
  f_answer_call : FnAt K mg "answer_call" s_answer_call ["field", "number", "given"]
def ansNames : List Str := ["answer_clear", "answer_field", "answer_look", "answer_text", "answer_day", "answer_undo", "answer_told", "answer_cost", "answer_sides", "answer_rect", "answer_best", "answer_least", "answer_curve", "answer_rounded", "answer_plan", "answer_covered", "answer_order", "answer_fewest", "answer_bestorder", "answer_labels", "answer_between"]
theorem cTab_is : HFM.cTab = [cClear, cField, cLook, cText, cDay, cUndo, cTold, cCost, cSides, cRect, cBest, cLeast, cCurve, cRounded, cPlan, cCovered, cOrder, cFewest, cBestOrder, cLabels, cBetween] := by
  unfold HFM.cTab
  simp only [List.cons.injEq]
  refine ⟨?_, ?_, ?_, ?_, ?_, ?_, ?_, ?_, ?_, ?_, ?_, ?_, ?_, ?_, ?_, ?_, ?_, ?_, ?_, ?_, ?_, trivial⟩
  · rfl
  · rfl
  · rfl
  · rfl
  · rfl
  · exact funext fun l => by match l with | [] => rfl | [_] => rfl | _ :: _ :: _ => rfl
  · rfl
  · rfl
  · rfl
  · exact funext fun l => by match l with | [] => rfl | [_] => rfl | [_, _] => rfl | _ :: _ :: _ :: _ => rfl
  · exact funext fun l => by match l with | [] => rfl | [_] => rfl | _ :: _ :: _ => rfl
  · exact funext fun l => by match l with | [] => rfl | [_] => rfl | _ :: _ :: _ => rfl
  · rfl
  · rfl
  · rfl
  · rfl
  · rfl
  · rfl
  · rfl
  · rfl
  · exact funext fun l => by match l with | [] => rfl | [_] => rfl | [_, _] => rfl | _ :: _ :: _ :: _ => rfl
theorem chain {P : Program} {w : World} {K : PySem.W.Frag} {mg : Str → Option Value} {A : Ad} {fa : Addr} (T : Txt K mg A) (X : All K mg A) (gA : mg "ANSWERING" = some (.ref A.aAns)) (hA : ∀ (i : Nat) (x : Str), ansNames[i]? = some x → ∃ f, intAt K A.aAns (i : Int) = some (.ref f) ∧ mg x = some (.ref f))
    (gL : mg "CALLS_WITH_A_LIST" = some (.ref A.aLists)) (hL : ∀ H, SqT K H A.aLists listsV) (gW : mg "WHOLE_NUMBERS" = some (.ref A.aWhole)) (hW : ∀ i : Nat, i < 21 → HFM.isL i = false → ∃ t, intAt K A.aWhole (i : Int) = some (.int (HFM.wnum i : Nat) t)) {fdA : FuncData} (Ff_answers : Fun K "answers" "answers" s_answers fa fdA) :
    ∀ base : Heap, FnOk P w K mg base CX0 10 fa fdA ["calls"] (sp_answers K) := by
  obtain ⟨ai_Field, di_Field, Fi_Field, Mi_Field, gi_Field, bi_Field⟩ := X.i_Field
  obtain ⟨am_Field_become, dm_Field_become, Fm_Field_become, Mm_Field_become, bm_Field_become⟩ := X.m_Field_become
  obtain ⟨af_cell_beyond, df_cell_beyond, Ff_cell_beyond, gf_cell_beyond, kf_cell_beyond, bf_cell_beyond⟩ := X.f_cell_beyond
  obtain ⟨af_needs_hurdle, df_needs_hurdle, Ff_needs_hurdle, gf_needs_hurdle, kf_needs_hurdle, bf_needs_hurdle⟩ := X.f_needs_hurdle
  obtain ⟨af_marked, df_marked, Ff_marked, gf_marked, kf_marked, bf_marked⟩ := X.f_marked
  obtain ⟨af_hurdles, df_hurdles, Ff_hurdles, gf_hurdles, kf_hurdles, bf_hurdles⟩ := X.f_hurdles
  obtain ⟨af_part_from, df_part_from, Ff_part_from, gf_part_from, kf_part_from, bf_part_from⟩ := X.f_part_from
  obtain ⟨af_parts, df_parts, Ff_parts, gf_parts, kf_parts, bf_parts⟩ := X.f_parts
  obtain ⟨af_day_cells, df_day_cells, Ff_day_cells, gf_day_cells, kf_day_cells, bf_day_cells⟩ := X.f_day_cells
  obtain ⟨af_place_told, df_place_told, Ff_place_told, gf_place_told, kf_place_told, bf_place_told⟩ := X.f_place_told
  obtain ⟨af_day_places, df_day_places, Ff_day_places, gf_day_places, kf_day_places, bf_day_places⟩ := X.f_day_places
  obtain ⟨af_all_places, df_all_places, Ff_all_places, gf_all_places, kf_all_places, bf_all_places⟩ := X.f_all_places
  obtain ⟨af_carried, df_carried, Ff_carried, gf_carried, kf_carried, bf_carried⟩ := X.f_carried
  obtain ⟨af_carried_each, df_carried_each, Ff_carried_each, gf_carried_each, kf_carried_each, bf_carried_each⟩ := X.f_carried_each
  obtain ⟨af_times_folded, df_times_folded, Ff_times_folded, gf_times_folded, kf_times_folded, bf_times_folded⟩ := X.f_times_folded
  obtain ⟨ai_Refusal, di_Refusal, Fi_Refusal, ri_Refusal, ci_Refusal, ki_Refusal, gi_Refusal, bi_Refusal⟩ := X.i_Refusal
  obtain ⟨ai_NotBytes, di_NotBytes, Fi_NotBytes, xi_NotBytes, ii_NotBytes, ti_NotBytes, gi_NotBytes, bi_NotBytes⟩ := X.i_NotBytes
  obtain ⟨ai_OutOfRange, di_OutOfRange, Fi_OutOfRange, xi_OutOfRange, ii_OutOfRange, ti_OutOfRange, gi_OutOfRange, bi_OutOfRange⟩ := X.i_OutOfRange
  obtain ⟨ai_WrongList, di_WrongList, Fi_WrongList, xi_WrongList, ii_WrongList, ti_WrongList, gi_WrongList, bi_WrongList⟩ := X.i_WrongList
  obtain ⟨ai_NotThere, di_NotThere, Fi_NotThere, xi_NotThere, ii_NotThere, ti_NotThere, gi_NotThere, bi_NotThere⟩ := X.i_NotThere
  obtain ⟨ai_TooManyDays, di_TooManyDays, Fi_TooManyDays, xi_TooManyDays, ii_TooManyDays, ti_TooManyDays, gi_TooManyDays, bi_TooManyDays⟩ := X.i_TooManyDays
  obtain ⟨ai_TextFault, di_TextFault, Fi_TextFault, xi_TextFault, ii_TextFault, ti_TextFault, gi_TextFault, bi_TextFault⟩ := X.i_TextFault
  obtain ⟨af_spelled, df_spelled, Ff_spelled, gf_spelled, kf_spelled, bf_spelled⟩ := X.f_spelled
  obtain ⟨af_words_with_places, df_words_with_places, Ff_words_with_places, gf_words_with_places, kf_words_with_places, bf_words_with_places⟩ := X.f_words_with_places
  obtain ⟨ai_Reader, di_Reader, Fi_Reader, Mi_Reader, gi_Reader, bi_Reader⟩ := X.i_Reader
  obtain ⟨am_Reader_at_end, dm_Reader_at_end, Fm_Reader_at_end, Mm_Reader_at_end, bm_Reader_at_end⟩ := X.m_Reader_at_end
  obtain ⟨am_Reader_refuse, dm_Reader_refuse, Fm_Reader_refuse, Mm_Reader_refuse, bm_Reader_refuse⟩ := X.m_Reader_refuse
  obtain ⟨am_Reader_sees, dm_Reader_sees, Fm_Reader_sees, Mm_Reader_sees, bm_Reader_sees⟩ := X.m_Reader_sees
  obtain ⟨am_Reader_pass_word, dm_Reader_pass_word, Fm_Reader_pass_word, Mm_Reader_pass_word, bm_Reader_pass_word⟩ := X.m_Reader_pass_word
  obtain ⟨am_Reader_pass_number, dm_Reader_pass_number, Fm_Reader_pass_number, Mm_Reader_pass_number, bm_Reader_pass_number⟩ := X.m_Reader_pass_number
  obtain ⟨am_Reader_pass_end, dm_Reader_pass_end, Fm_Reader_pass_end, Mm_Reader_pass_end, bm_Reader_pass_end⟩ := X.m_Reader_pass_end
  obtain ⟨af_pass_day, df_pass_day, Ff_pass_day, gf_pass_day, kf_pass_day, bf_pass_day⟩ := X.f_pass_day
  obtain ⟨af_read_day, df_read_day, Ff_read_day, gf_read_day, kf_read_day, bf_read_day⟩ := X.f_read_day
  obtain ⟨af_read_field, df_read_field, Ff_read_field, gf_read_field, kf_read_field, bf_read_field⟩ := X.f_read_field
  obtain ⟨af_day_written, df_day_written, Ff_day_written, gf_day_written, kf_day_written, bf_day_written⟩ := X.f_day_written
  obtain ⟨af_field_written, df_field_written, Ff_field_written, gf_field_written, kf_field_written, bf_field_written⟩ := X.f_field_written
  obtain ⟨ai_Table, di_Table, Fi_Table, Mi_Table, gi_Table, bi_Table⟩ := X.i_Table
  obtain ⟨am_Table_line_of, dm_Table_line_of, Fm_Table_line_of, Mm_Table_line_of, bm_Table_line_of⟩ := X.m_Table_line_of
  obtain ⟨am_Table_least_ending, dm_Table_least_ending, Fm_Table_least_ending, Mm_Table_least_ending, bm_Table_least_ending⟩ := X.m_Table_least_ending
  obtain ⟨am_Table_last_day, dm_Table_last_day, Fm_Table_last_day, Mm_Table_last_day, bm_Table_last_day⟩ := X.m_Table_last_day
  obtain ⟨am_Table_best_order, dm_Table_best_order, Fm_Table_best_order, Mm_Table_best_order, bm_Table_best_order⟩ := X.m_Table_best_order
  obtain ⟨am_Table_fewest, dm_Table_fewest, Fm_Table_fewest, Mm_Table_fewest, bm_Table_fewest⟩ := X.m_Table_fewest
  obtain ⟨af_line_cost, df_line_cost, Ff_line_cost, gf_line_cost, kf_line_cost, bf_line_cost⟩ := X.f_line_cost
  obtain ⟨af_rectangle_cost, df_rectangle_cost, Ff_rectangle_cost, gf_rectangle_cost, kf_rectangle_cost, bf_rectangle_cost⟩ := X.f_rectangle_cost
  obtain ⟨af_first_line, df_first_line, Ff_first_line, gf_first_line, kf_first_line, bf_first_line⟩ := X.f_first_line
  obtain ⟨af_rectangle_put, df_rectangle_put, Ff_rectangle_put, gf_rectangle_put, kf_rectangle_put, bf_rectangle_put⟩ := X.f_rectangle_put
  obtain ⟨af_every_rectangle, df_every_rectangle, Ff_every_rectangle, gf_every_rectangle, kf_every_rectangle, bf_every_rectangle⟩ := X.f_every_rectangle
  obtain ⟨af_first_size, df_first_size, Ff_first_size, gf_first_size, kf_first_size, bf_first_size⟩ := X.f_first_size
  obtain ⟨af_greatest_rectangle, df_greatest_rectangle, Ff_greatest_rectangle, gf_greatest_rectangle, kf_greatest_rectangle, bf_greatest_rectangle⟩ := X.f_greatest_rectangle
  obtain ⟨af_cheapest_rectangle, df_cheapest_rectangle, Ff_cheapest_rectangle, gf_cheapest_rectangle, kf_cheapest_rectangle, bf_cheapest_rectangle⟩ := X.f_cheapest_rectangle
  obtain ⟨af_most_cells, df_most_cells, Ff_most_cells, gf_most_cells, kf_most_cells, bf_most_cells⟩ := X.f_most_cells
  obtain ⟨af_rounded_size, df_rounded_size, Ff_rounded_size, gf_rounded_size, kf_rounded_size, bf_rounded_size⟩ := X.f_rounded_size
  obtain ⟨af_check_range, df_check_range, Ff_check_range, gf_check_range, kf_check_range, bf_check_range⟩ := X.f_check_range
  obtain ⟨af_check_bytes, df_check_bytes, Ff_check_bytes, gf_check_bytes, kf_check_bytes, bf_check_bytes⟩ := X.f_check_bytes
  obtain ⟨af_check_cells, df_check_cells, Ff_check_cells, gf_check_cells, kf_check_cells, bf_check_cells⟩ := X.f_check_cells
  obtain ⟨af_check_day, df_check_day, Ff_check_day, gf_check_day, kf_check_day, bf_check_day⟩ := X.f_check_day
  obtain ⟨af_check_order, df_check_order, Ff_check_order, gf_check_order, kf_check_order, bf_check_order⟩ := X.f_check_order
  obtain ⟨af_check_days_in_table, df_check_days_in_table, Ff_check_days_in_table, gf_check_days_in_table, kf_check_days_in_table, bf_check_days_in_table⟩ := X.f_check_days_in_table
  obtain ⟨af_answer_clear, df_answer_clear, Ff_answer_clear, gf_answer_clear, kf_answer_clear, bf_answer_clear⟩ := X.f_answer_clear
  obtain ⟨af_answer_field, df_answer_field, Ff_answer_field, gf_answer_field, kf_answer_field, bf_answer_field⟩ := X.f_answer_field
  obtain ⟨af_answer_look, df_answer_look, Ff_answer_look, gf_answer_look, kf_answer_look, bf_answer_look⟩ := X.f_answer_look
  obtain ⟨af_answer_text, df_answer_text, Ff_answer_text, gf_answer_text, kf_answer_text, bf_answer_text⟩ := X.f_answer_text
  obtain ⟨af_answer_day, df_answer_day, Ff_answer_day, gf_answer_day, kf_answer_day, bf_answer_day⟩ := X.f_answer_day
  obtain ⟨af_answer_undo, df_answer_undo, Ff_answer_undo, gf_answer_undo, kf_answer_undo, bf_answer_undo⟩ := X.f_answer_undo
  obtain ⟨af_answer_told, df_answer_told, Ff_answer_told, gf_answer_told, kf_answer_told, bf_answer_told⟩ := X.f_answer_told
  obtain ⟨af_answer_cost, df_answer_cost, Ff_answer_cost, gf_answer_cost, kf_answer_cost, bf_answer_cost⟩ := X.f_answer_cost
  obtain ⟨af_answer_sides, df_answer_sides, Ff_answer_sides, gf_answer_sides, kf_answer_sides, bf_answer_sides⟩ := X.f_answer_sides
  obtain ⟨af_answer_rect, df_answer_rect, Ff_answer_rect, gf_answer_rect, kf_answer_rect, bf_answer_rect⟩ := X.f_answer_rect
  obtain ⟨af_answer_best, df_answer_best, Ff_answer_best, gf_answer_best, kf_answer_best, bf_answer_best⟩ := X.f_answer_best
  obtain ⟨af_answer_least, df_answer_least, Ff_answer_least, gf_answer_least, kf_answer_least, bf_answer_least⟩ := X.f_answer_least
  obtain ⟨af_answer_curve, df_answer_curve, Ff_answer_curve, gf_answer_curve, kf_answer_curve, bf_answer_curve⟩ := X.f_answer_curve
  obtain ⟨af_answer_rounded, df_answer_rounded, Ff_answer_rounded, gf_answer_rounded, kf_answer_rounded, bf_answer_rounded⟩ := X.f_answer_rounded
  obtain ⟨af_answer_plan, df_answer_plan, Ff_answer_plan, gf_answer_plan, kf_answer_plan, bf_answer_plan⟩ := X.f_answer_plan
  obtain ⟨af_answer_covered, df_answer_covered, Ff_answer_covered, gf_answer_covered, kf_answer_covered, bf_answer_covered⟩ := X.f_answer_covered
  obtain ⟨af_answer_order, df_answer_order, Ff_answer_order, gf_answer_order, kf_answer_order, bf_answer_order⟩ := X.f_answer_order
  obtain ⟨af_answer_fewest, df_answer_fewest, Ff_answer_fewest, gf_answer_fewest, kf_answer_fewest, bf_answer_fewest⟩ := X.f_answer_fewest
  obtain ⟨af_answer_bestorder, df_answer_bestorder, Ff_answer_bestorder, gf_answer_bestorder, kf_answer_bestorder, bf_answer_bestorder⟩ := X.f_answer_bestorder
  obtain ⟨af_answer_labels, df_answer_labels, Ff_answer_labels, gf_answer_labels, kf_answer_labels, bf_answer_labels⟩ := X.f_answer_labels
  obtain ⟨af_answer_between, df_answer_between, Ff_answer_between, gf_answer_between, kf_answer_between, bf_answer_between⟩ := X.f_answer_between
  obtain ⟨af_answer_call, df_answer_call, Ff_answer_call, gf_answer_call, kf_answer_call, bf_answer_call⟩ := X.f_answer_call
  intro base
  have k_Field := calC_mk (ok_Field_init (P := P) (w := w) (base := base) Fi_Field T) Mi_Field gi_Field bi_Field
  have m_Field_become := calM_mk (ok_Field_become (P := P) (w := w) (base := base) Fm_Field_become T) Mm_Field_become bm_Field_become
  have c_cell_beyond := cal_mk (ok_cell_beyond (P := P) (w := w) (base := base) Ff_cell_beyond T) gf_cell_beyond kf_cell_beyond bf_cell_beyond
  have c_marked := cal_mk (ok_marked (P := P) (w := w) (base := base) Ff_marked T) gf_marked kf_marked bf_marked
  have c_day_cells := cal_mk (ok_day_cells (P := P) (w := w) (base := base) Ff_day_cells T) gf_day_cells kf_day_cells bf_day_cells
  have c_carried := cal_mk (ok_carried (P := P) (w := w) (base := base) Ff_carried T) gf_carried kf_carried bf_carried
  have b_Refusal___init__ := calB_mk (ok_Refusal_init (P := P) (w := w) (base := base) Fi_Refusal ) ri_Refusal ci_Refusal ki_Refusal gi_Refusal bi_Refusal
  have c_spelled := cal_mk (ok_spelled (P := P) (w := w) (base := base) Ff_spelled T) gf_spelled kf_spelled bf_spelled
  have c_words_with_places := cal_mk (ok_words (P := P) (w := w) (base := base) Ff_words_with_places T) gf_words_with_places kf_words_with_places bf_words_with_places
  have m_Reader_at_end := calM_mk (ok_at_end (P := P) (w := w) (base := base) Fm_Reader_at_end T) Mm_Reader_at_end bm_Reader_at_end
  have c_day_written := cal_mk (ok_day_written (P := P) (w := w) (base := base) Ff_day_written ) gf_day_written kf_day_written bf_day_written
  have m_Table_least_ending := calM_mk (ok_least_ending (P := P) (w := w) (base := base) Fm_Table_least_ending T) Mm_Table_least_ending bm_Table_least_ending
  have m_Table_last_day := calM_mk (ok_last_day (P := P) (w := w) (base := base) Fm_Table_last_day T) Mm_Table_last_day bm_Table_last_day
  have m_Table_fewest := calM_mk (ok_fewest (P := P) (w := w) (base := base) Fm_Table_fewest T) Mm_Table_fewest bm_Table_fewest
  have c_line_cost := cal_mk (ok_line_cost (P := P) (w := w) (base := base) Ff_line_cost ) gf_line_cost kf_line_cost bf_line_cost
  have c_first_line := cal_mk (ok_first_line (P := P) (w := w) (base := base) Ff_first_line ) gf_first_line kf_first_line bf_first_line
  have c_first_size := cal_mk (ok_first_size (P := P) (w := w) (base := base) Ff_first_size T) gf_first_size kf_first_size bf_first_size
  have c_rounded_size := cal_mk (ok_rounded_size (P := P) (w := w) (base := base) Ff_rounded_size T) gf_rounded_size kf_rounded_size bf_rounded_size
  have c_answer_told := cal_mk (ok_answer_told (P := P) (w := w) (base := base) Ff_answer_told T) gf_answer_told kf_answer_told bf_answer_told
  have c_needs_hurdle := cal_mk (ok_needs_hurdle (P := P) (w := w) (base := base) Ff_needs_hurdle T c_cell_beyond) gf_needs_hurdle kf_needs_hurdle bf_needs_hurdle
  have c_part_from := cal_mk (ok_part_from (P := P) (w := w) (base := base) Ff_part_from T c_cell_beyond) gf_part_from kf_part_from bf_part_from
  have c_place_told := cal_mk (ok_place_told (P := P) (w := w) (base := base) Ff_place_told T c_cell_beyond) gf_place_told kf_place_told bf_place_told
  have c_carried_each := cal_mk (ok_carried_each (P := P) (w := w) (base := base) Ff_carried_each T c_carried) gf_carried_each kf_carried_each bf_carried_each
  have c_times_folded := cal_mk (ok_times (P := P) (w := w) (base := base) Ff_times_folded T c_day_cells) gf_times_folded kf_times_folded bf_times_folded
  have x_NotBytes := calX_mk (ok_NotBytes_init (P := P) (w := w) (base := base) (C := A.cNotBytes) Fi_NotBytes b_Refusal___init__) xi_NotBytes ii_NotBytes ti_NotBytes gi_NotBytes bi_NotBytes
  have x_OutOfRange := calX_mk (ok_OutOfRange_init (P := P) (w := w) (base := base) (C := A.cOutOfRange) Fi_OutOfRange b_Refusal___init__) xi_OutOfRange ii_OutOfRange ti_OutOfRange gi_OutOfRange bi_OutOfRange
  have x_WrongList := calX_mk (ok_WrongList_init (P := P) (w := w) (base := base) (C := A.cWrongList) Fi_WrongList b_Refusal___init__) xi_WrongList ii_WrongList ti_WrongList gi_WrongList bi_WrongList
  have x_NotThere := calX_mk (ok_NotThere_init (P := P) (w := w) (base := base) (C := A.cNotThere) Fi_NotThere b_Refusal___init__) xi_NotThere ii_NotThere ti_NotThere gi_NotThere bi_NotThere
  have x_TooManyDays := calX_mk (ok_TooManyDays_init (P := P) (w := w) (base := base) (C := A.cTooManyDays) Fi_TooManyDays b_Refusal___init__) xi_TooManyDays ii_TooManyDays ti_TooManyDays gi_TooManyDays bi_TooManyDays
  have x_TextFault := calX_mk (ok_TextFault_init (P := P) (w := w) (base := base) (C := A.cTextFault) Fi_TextFault b_Refusal___init__) xi_TextFault ii_TextFault ti_TextFault gi_TextFault bi_TextFault
  have k_Reader := calC_mk (ok_Reader_init (P := P) (w := w) (base := base) Fi_Reader T c_words_with_places) Mi_Reader gi_Reader bi_Reader
  have m_Reader_sees := calM_mk (ok_sees (P := P) (w := w) (base := base) Fm_Reader_sees T m_Reader_at_end c_spelled) Mm_Reader_sees bm_Reader_sees
  have c_field_written := cal_mk (ok_field_written (P := P) (w := w) (base := base) Ff_field_written T c_day_written c_spelled) gf_field_written kf_field_written bf_field_written
  have m_Table_line_of := calM_mk (ok_line_of (P := P) (w := w) (base := base) Fm_Table_line_of T m_Table_least_ending) Mm_Table_line_of bm_Table_line_of
  have m_Table_best_order := calM_mk (ok_best_order (P := P) (w := w) (base := base) Fm_Table_best_order T m_Table_last_day) Mm_Table_best_order bm_Table_best_order
  have c_rectangle_cost := cal_mk (ok_rectangle_cost (P := P) (w := w) (base := base) Ff_rectangle_cost T c_line_cost) gf_rectangle_cost kf_rectangle_cost bf_rectangle_cost
  have c_rectangle_put := cal_mk (ok_rectangle_put (P := P) (w := w) (base := base) Ff_rectangle_put T c_first_line) gf_rectangle_put kf_rectangle_put bf_rectangle_put
  have c_hurdles := cal_mk (ok_hurdles (P := P) (w := w) (base := base) Ff_hurdles T c_needs_hurdle c_marked) gf_hurdles kf_hurdles bf_hurdles
  have c_parts := cal_mk (ok_parts (P := P) (w := w) (base := base) Ff_parts T c_part_from) gf_parts kf_parts bf_parts
  have c_every_rectangle := cal_mk (ok_every (P := P) (w := w) (base := base) Ff_every_rectangle T c_rectangle_cost) gf_every_rectangle kf_every_rectangle bf_every_rectangle
  have c_answer_clear := cal_mk (ok_answer_clear (P := P) (w := w) (base := base) Ff_answer_clear T k_Field m_Field_become) gf_answer_clear kf_answer_clear bf_answer_clear
  have c_answer_text := cal_mk (ok_answer_text (P := P) (w := w) (base := base) Ff_answer_text T c_field_written) gf_answer_text kf_answer_text bf_answer_text
  have c_answer_covered := cal_mk (ok_answer_covered (P := P) (w := w) (base := base) Ff_answer_covered T c_times_folded) gf_answer_covered kf_answer_covered bf_answer_covered
  have c_day_places := cal_mk (ok_day_places (P := P) (w := w) (base := base) Ff_day_places T c_hurdles c_day_cells c_place_told) gf_day_places kf_day_places bf_day_places
  have m_Reader_refuse := calM_mk (ok_refuse (P := P) (w := w) (base := base) Fm_Reader_refuse T m_Reader_at_end x_TextFault) Mm_Reader_refuse bm_Reader_refuse
  have c_greatest_rectangle := cal_mk (ok_greatest (P := P) (w := w) (base := base) Ff_greatest_rectangle T c_every_rectangle c_first_size) gf_greatest_rectangle kf_greatest_rectangle bf_greatest_rectangle
  have c_cheapest_rectangle := cal_mk (ok_cheapest (P := P) (w := w) (base := base) Ff_cheapest_rectangle T c_every_rectangle c_first_size) gf_cheapest_rectangle kf_cheapest_rectangle bf_cheapest_rectangle
  have c_check_range := cal_mk (ok_check_range (P := P) (w := w) (base := base) Ff_check_range T x_OutOfRange) gf_check_range kf_check_range bf_check_range
  have c_check_bytes := cal_mk (ok_check_bytes (P := P) (w := w) (base := base) Ff_check_bytes T x_NotBytes) gf_check_bytes kf_check_bytes bf_check_bytes
  have c_check_cells := cal_mk (ok_check_cells (P := P) (w := w) (base := base) Ff_check_cells T x_WrongList) gf_check_cells kf_check_cells bf_check_cells
  have c_check_order := cal_mk (ok_check_order (P := P) (w := w) (base := base) Ff_check_order T x_WrongList) gf_check_order kf_check_order bf_check_order
  have c_check_days_in_table := cal_mk (ok_check_few (P := P) (w := w) (base := base) Ff_check_days_in_table T x_TooManyDays) gf_check_days_in_table kf_check_days_in_table bf_check_days_in_table
  have c_all_places := cal_mk (ok_all_places (P := P) (w := w) (base := base) Ff_all_places T c_day_places) gf_all_places kf_all_places bf_all_places
  have m_Reader_pass_word := calM_mk (ok_pass_word (P := P) (w := w) (base := base) Fm_Reader_pass_word T m_Reader_sees m_Reader_refuse) Mm_Reader_pass_word bm_Reader_pass_word
  have m_Reader_pass_number := calM_mk (ok_pass_number (P := P) (w := w) (base := base) Fm_Reader_pass_number T m_Reader_at_end m_Reader_refuse) Mm_Reader_pass_number bm_Reader_pass_number
  have m_Reader_pass_end := calM_mk (ok_pass_end (P := P) (w := w) (base := base) Fm_Reader_pass_end T m_Reader_at_end m_Reader_refuse) Mm_Reader_pass_end bm_Reader_pass_end
  have c_most_cells := cal_mk (ok_most_cells (P := P) (w := w) (base := base) Ff_most_cells T c_greatest_rectangle) gf_most_cells kf_most_cells bf_most_cells
  have c_check_day := cal_mk (ok_check_day (P := P) (w := w) (base := base) Ff_check_day T c_check_range x_NotThere) gf_check_day kf_check_day bf_check_day
  have c_answer_undo := cal_mk (ok_answer_undo (P := P) (w := w) (base := base) Ff_answer_undo T c_check_range x_NotThere) gf_answer_undo kf_answer_undo bf_answer_undo
  have c_answer_cost := cal_mk (ok_answer_cost (P := P) (w := w) (base := base) Ff_answer_cost T c_check_cells c_hurdles c_parts) gf_answer_cost kf_answer_cost bf_answer_cost
  have c_answer_sides := cal_mk (ok_answer_sides (P := P) (w := w) (base := base) Ff_answer_sides T c_check_cells c_hurdles) gf_answer_sides kf_answer_sides bf_answer_sides
  have c_answer_rect := cal_mk (ok_answer_rect (P := P) (w := w) (base := base) Ff_answer_rect T c_check_range x_NotThere c_rectangle_cost c_rectangle_put) gf_answer_rect kf_answer_rect bf_answer_rect
  have c_answer_best := cal_mk (ok_answer_best (P := P) (w := w) (base := base) Ff_answer_best T c_check_range c_greatest_rectangle c_rectangle_cost c_rectangle_put) gf_answer_best kf_answer_best bf_answer_best
  have c_answer_least := cal_mk (ok_answer_least (P := P) (w := w) (base := base) Ff_answer_least T c_check_range c_cheapest_rectangle c_rectangle_cost c_rectangle_put) gf_answer_least kf_answer_least bf_answer_least
  have c_answer_rounded := cal_mk (ok_answer_rounded (P := P) (w := w) (base := base) Ff_answer_rounded T c_check_cells c_rounded_size c_rectangle_cost) gf_answer_rounded kf_answer_rounded bf_answer_rounded
  have c_pass_day := cal_mk (ok_pass_day (P := P) (w := w) (base := base) Ff_pass_day T m_Reader_refuse m_Reader_pass_word m_Reader_pass_number) gf_pass_day kf_pass_day bf_pass_day
  have k_Table := calC_mk (ok_Table_init (P := P) (w := w) (base := base) Fi_Table T c_all_places c_carried m_Table_line_of) Mi_Table gi_Table bi_Table
  have c_answer_curve := cal_mk (ok_answer_curve (P := P) (w := w) (base := base) Ff_answer_curve T c_most_cells) gf_answer_curve kf_answer_curve bf_answer_curve
  have c_answer_plan := cal_mk (ok_answer_plan (P := P) (w := w) (base := base) Ff_answer_plan T c_all_places c_carried_each) gf_answer_plan kf_answer_plan bf_answer_plan
  have c_answer_order := cal_mk (ok_answer_order (P := P) (w := w) (base := base) Ff_answer_order T c_check_order c_all_places c_carried_each) gf_answer_order kf_answer_order bf_answer_order
  have c_answer_between := cal_mk (ok_answer_between (P := P) (w := w) (base := base) Ff_answer_between T c_check_day c_day_places c_carried) gf_answer_between kf_answer_between bf_answer_between
  have c_read_day := cal_mk (ok_read_day (P := P) (w := w) (base := base) Ff_read_day T k_Reader c_pass_day m_Reader_pass_end) gf_read_day kf_read_day bf_read_day
  have c_read_field := cal_mk (ok_read_field (P := P) (w := w) (base := base) Ff_read_field T k_Reader k_Field c_pass_day m_Reader_pass_word m_Reader_pass_number m_Reader_sees m_Reader_at_end) gf_read_field kf_read_field bf_read_field
  have c_answer_field := cal_mk (ok_answer_field (P := P) (w := w) (base := base) Ff_answer_field T c_check_bytes c_read_field m_Field_become) gf_answer_field kf_answer_field bf_answer_field
  have c_answer_look := cal_mk (ok_answer_look (P := P) (w := w) (base := base) Ff_answer_look T c_check_bytes c_read_field) gf_answer_look kf_answer_look bf_answer_look
  have c_answer_day := cal_mk (ok_answer_day (P := P) (w := w) (base := base) Ff_answer_day T c_check_bytes c_read_day) gf_answer_day kf_answer_day bf_answer_day
  have c_answer_fewest := cal_mk (ok_answer_fewest (P := P) (w := w) (base := base) Ff_answer_fewest T c_check_days_in_table k_Table m_Table_fewest) gf_answer_fewest kf_answer_fewest bf_answer_fewest
  have c_answer_bestorder := cal_mk (ok_answer_bestorder (P := P) (w := w) (base := base) Ff_answer_bestorder T c_check_days_in_table k_Table m_Table_best_order) gf_answer_bestorder kf_answer_bestorder bf_answer_bestorder
  have c_answer_labels := cal_mk (ok_answer_labels (P := P) (w := w) (base := base) Ff_answer_labels T c_check_days_in_table k_Table) gf_answer_labels kf_answer_labels bf_answer_labels
  have hAns : ∀ (i : Nat) c, HFM.cTab[i]? = some c → ∃ f, intAt K A.aAns (i : Int) = some (.ref f) ∧ Ansr P w K mg base A f c := by
    intro i c hc
    rw [cTab_is] at hc
    match i, hc with
    | 0, hc =>
      cases hc
      obtain ⟨f, h1, h2⟩ := hA 0 _ rfl
      rw [gf_answer_clear] at h2
      cases h2
      exact ⟨_, h1, _, (okX (ok_answer_clear (P := P) (w := w) (base := base) Ff_answer_clear T k_Field m_Field_become)).mono (by decide), kf_answer_clear, bf_answer_clear⟩
    | 1, hc =>
      cases hc
      obtain ⟨f, h1, h2⟩ := hA 1 _ rfl
      rw [gf_answer_field] at h2
      cases h2
      exact ⟨_, h1, _, (ok_answer_field (P := P) (w := w) (base := base) Ff_answer_field T c_check_bytes c_read_field m_Field_become).mono (by decide), kf_answer_field, bf_answer_field⟩
    | 2, hc =>
      cases hc
      obtain ⟨f, h1, h2⟩ := hA 2 _ rfl
      rw [gf_answer_look] at h2
      cases h2
      exact ⟨_, h1, _, (ok_answer_look (P := P) (w := w) (base := base) Ff_answer_look T c_check_bytes c_read_field).mono (by decide), kf_answer_look, bf_answer_look⟩
    | 3, hc =>
      cases hc
      obtain ⟨f, h1, h2⟩ := hA 3 _ rfl
      rw [gf_answer_text] at h2
      cases h2
      exact ⟨_, h1, _, (okX (ok_answer_text (P := P) (w := w) (base := base) Ff_answer_text T c_field_written)).mono (by decide), kf_answer_text, bf_answer_text⟩
    | 4, hc =>
      cases hc
      obtain ⟨f, h1, h2⟩ := hA 4 _ rfl
      rw [gf_answer_day] at h2
      cases h2
      exact ⟨_, h1, _, (ok_answer_day (P := P) (w := w) (base := base) Ff_answer_day T c_check_bytes c_read_day).mono (by decide), kf_answer_day, bf_answer_day⟩
    | 5, hc =>
      cases hc
      obtain ⟨f, h1, h2⟩ := hA 5 _ rfl
      rw [gf_answer_undo] at h2
      cases h2
      exact ⟨_, h1, _, (ok_answer_undo (P := P) (w := w) (base := base) Ff_answer_undo T c_check_range x_NotThere).mono (by decide), kf_answer_undo, bf_answer_undo⟩
    | 6, hc =>
      cases hc
      obtain ⟨f, h1, h2⟩ := hA 6 _ rfl
      rw [gf_answer_told] at h2
      cases h2
      exact ⟨_, h1, _, (okX (ok_answer_told (P := P) (w := w) (base := base) Ff_answer_told T)).mono (by decide), kf_answer_told, bf_answer_told⟩
    | 7, hc =>
      cases hc
      obtain ⟨f, h1, h2⟩ := hA 7 _ rfl
      rw [gf_answer_cost] at h2
      cases h2
      exact ⟨_, h1, _, (ok_answer_cost (P := P) (w := w) (base := base) Ff_answer_cost T c_check_cells c_hurdles c_parts).mono (by decide), kf_answer_cost, bf_answer_cost⟩
    | 8, hc =>
      cases hc
      obtain ⟨f, h1, h2⟩ := hA 8 _ rfl
      rw [gf_answer_sides] at h2
      cases h2
      exact ⟨_, h1, _, (ok_answer_sides (P := P) (w := w) (base := base) Ff_answer_sides T c_check_cells c_hurdles).mono (by decide), kf_answer_sides, bf_answer_sides⟩
    | 9, hc =>
      cases hc
      obtain ⟨f, h1, h2⟩ := hA 9 _ rfl
      rw [gf_answer_rect] at h2
      cases h2
      exact ⟨_, h1, _, (ok_answer_rect (P := P) (w := w) (base := base) Ff_answer_rect T c_check_range x_NotThere c_rectangle_cost c_rectangle_put).mono (by decide), kf_answer_rect, bf_answer_rect⟩
    | 10, hc =>
      cases hc
      obtain ⟨f, h1, h2⟩ := hA 10 _ rfl
      rw [gf_answer_best] at h2
      cases h2
      exact ⟨_, h1, _, (ok_answer_best (P := P) (w := w) (base := base) Ff_answer_best T c_check_range c_greatest_rectangle c_rectangle_cost c_rectangle_put).mono (by decide), kf_answer_best, bf_answer_best⟩
    | 11, hc =>
      cases hc
      obtain ⟨f, h1, h2⟩ := hA 11 _ rfl
      rw [gf_answer_least] at h2
      cases h2
      exact ⟨_, h1, _, (ok_answer_least (P := P) (w := w) (base := base) Ff_answer_least T c_check_range c_cheapest_rectangle c_rectangle_cost c_rectangle_put).mono (by decide), kf_answer_least, bf_answer_least⟩
    | 12, hc =>
      cases hc
      obtain ⟨f, h1, h2⟩ := hA 12 _ rfl
      rw [gf_answer_curve] at h2
      cases h2
      exact ⟨_, h1, _, (okX (ok_answer_curve (P := P) (w := w) (base := base) Ff_answer_curve T c_most_cells)).mono (by decide), kf_answer_curve, bf_answer_curve⟩
    | 13, hc =>
      cases hc
      obtain ⟨f, h1, h2⟩ := hA 13 _ rfl
      rw [gf_answer_rounded] at h2
      cases h2
      exact ⟨_, h1, _, (ok_answer_rounded (P := P) (w := w) (base := base) Ff_answer_rounded T c_check_cells c_rounded_size c_rectangle_cost).mono (by decide), kf_answer_rounded, bf_answer_rounded⟩
    | 14, hc =>
      cases hc
      obtain ⟨f, h1, h2⟩ := hA 14 _ rfl
      rw [gf_answer_plan] at h2
      cases h2
      exact ⟨_, h1, _, (okX (ok_answer_plan (P := P) (w := w) (base := base) Ff_answer_plan T c_all_places c_carried_each)).mono (by decide), kf_answer_plan, bf_answer_plan⟩
    | 15, hc =>
      cases hc
      obtain ⟨f, h1, h2⟩ := hA 15 _ rfl
      rw [gf_answer_covered] at h2
      cases h2
      exact ⟨_, h1, _, (okX (ok_answer_covered (P := P) (w := w) (base := base) Ff_answer_covered T c_times_folded)).mono (by decide), kf_answer_covered, bf_answer_covered⟩
    | 16, hc =>
      cases hc
      obtain ⟨f, h1, h2⟩ := hA 16 _ rfl
      rw [gf_answer_order] at h2
      cases h2
      exact ⟨_, h1, _, (ok_answer_order (P := P) (w := w) (base := base) Ff_answer_order T c_check_order c_all_places c_carried_each).mono (by decide), kf_answer_order, bf_answer_order⟩
    | 17, hc =>
      cases hc
      obtain ⟨f, h1, h2⟩ := hA 17 _ rfl
      rw [gf_answer_fewest] at h2
      cases h2
      exact ⟨_, h1, _, (ok_answer_fewest (P := P) (w := w) (base := base) Ff_answer_fewest T c_check_days_in_table k_Table m_Table_fewest).mono (by decide), kf_answer_fewest, bf_answer_fewest⟩
    | 18, hc =>
      cases hc
      obtain ⟨f, h1, h2⟩ := hA 18 _ rfl
      rw [gf_answer_bestorder] at h2
      cases h2
      exact ⟨_, h1, _, (ok_answer_bestorder (P := P) (w := w) (base := base) Ff_answer_bestorder T c_check_days_in_table k_Table m_Table_best_order).mono (by decide), kf_answer_bestorder, bf_answer_bestorder⟩
    | 19, hc =>
      cases hc
      obtain ⟨f, h1, h2⟩ := hA 19 _ rfl
      rw [gf_answer_labels] at h2
      cases h2
      exact ⟨_, h1, _, (ok_answer_labels (P := P) (w := w) (base := base) Ff_answer_labels T c_check_days_in_table k_Table).mono (by decide), kf_answer_labels, bf_answer_labels⟩
    | 20, hc =>
      cases hc
      obtain ⟨f, h1, h2⟩ := hA 20 _ rfl
      rw [gf_answer_between] at h2
      cases h2
      exact ⟨_, h1, _, (ok_answer_between (P := P) (w := w) (base := base) Ff_answer_between T c_check_day c_day_places c_carried).mono (by decide), kf_answer_between, bf_answer_between⟩
    | n + 21, hc => simp at hc
  have c_answer_call := cal_mk (ok_answer_call (P := P) (w := w) (base := base) Ff_answer_call T gA hAns) gf_answer_call kf_answer_call bf_answer_call
  exact ok_answers Ff_answers T gL hL gW hW k_Field c_answer_call
/-- what is asked of an error's class -/
def ErrOk (K : PySem.W.Frag) (R C : Addr) : Prop := XC K C ∧ XfC K C ∧ PySem.W.findIn K (.ref C) "answer" = some none ∧ PySem.W.findIn K (.ref C) "place" = some none ∧ PySem.W.exmOne K (.ref C) (.ref R) = some true
theorem errOk_mk {K : PySem.W.Frag} {R C : Addr} (x : XC K C) (f1 : PySem.W.findIn K (.ref C) "__getattribute__" = some (some (.builtin "BaseException.__getattribute__"))) (f2 : PySem.W.findIn K (.ref C) "__getattr__" = some none) (f4 : PySem.W.hasDictIn K C = true) (n1 : PySem.W.findIn K (.ref C) "answer" = some none) (n2 : PySem.W.findIn K (.ref C) "place" = some none) (h1 : PySem.W.subIn K (.ref R) (.type "BaseException") = some true) (h2 : PySem.W.isClsIn K R = true) (h3 : PySem.W.typeIn K (.ref R) = some (.type "type")) (h4 : PySem.W.subIn K (.ref C) (.ref R) = some true) : ErrOk K R C := ⟨x, ⟨f1, f2, x.exC, f4⟩, n1, n2, exm_mk h1 h2 h3 h4⟩
theorem all6 {p : Addr → Prop} {a b c d g i : Addr} (h1 : p a) (h2 : p b) (h3 : p c) (h4 : p d) (h5 : p g) (h6 : p i) : ∀ C, C ∈ [a, b, c, d, g, i] → p C := fun C hC => by
  simp only [List.mem_cons, List.not_mem_nil, or_false] at hC
  rcases hC with rfl | rfl | rfl | rfl | rfl | rfl <;> assumption
theorem txt_mk {K : PySem.W.Frag} {h : Heap} {mg : Str → Option Value} {A : Ad} {t0 t1 t2 t3 t4 t5 t6 t7 t8 t9 t10 t11 : Tok} (X : K.In h) (G : h.Ns mainGlobals mg)
    (p0 : PySem.W.plainGet K A.cField Str.empty = true)
    (p1 : PySem.W.hasDictIn K A.cField = true)
    (p2 : PySem.W.plainOver K A.cField = true)
    (p3 : PySem.W.findIn K (.ref A.cField) "__setattr__" = some (some (.builtin "object.__setattr__")))
    (p4 : PySem.W.findIn K (.ref A.cField) "rows" = some none)
    (p5 : PySem.W.findIn K (.ref A.cField) "columns" = some none)
    (p6 : PySem.W.findIn K (.ref A.cField) "walls" = some none)
    (p7 : PySem.W.findIn K (.ref A.cField) "days" = some none)
    (p8 : PySem.W.plainGet K A.cReader Str.empty = true)
    (p9 : PySem.W.hasDictIn K A.cReader = true)
    (p10 : PySem.W.plainOver K A.cReader = true)
    (p11 : PySem.W.findIn K (.ref A.cReader) "__setattr__" = some (some (.builtin "object.__setattr__")))
    (p12 : PySem.W.findIn K (.ref A.cReader) "length" = some none)
    (p13 : PySem.W.findIn K (.ref A.cReader) "words" = some none)
    (p14 : PySem.W.findIn K (.ref A.cReader) "reached" = some none)
    (p15 : PySem.W.plainGet K A.cTable Str.empty = true)
    (p16 : PySem.W.hasDictIn K A.cTable = true)
    (p17 : PySem.W.plainOver K A.cTable = true)
    (p18 : PySem.W.findIn K (.ref A.cTable) "__setattr__" = some (some (.builtin "object.__setattr__")))
    (p19 : PySem.W.findIn K (.ref A.cTable) "first" = some none)
    (p20 : PySem.W.findIn K (.ref A.cTable) "steps" = some none)
    (p21 : PySem.W.findIn K (.ref A.cTable) "bits" = some none)
    (p22 : PySem.W.findIn K (.ref A.cTable) "sets" = some none)
    (p23 : PySem.W.findIn K (.ref A.cTable) "lines" = some none)
    (p24 : PySem.W.nsIn K mainGlobals "ABOVE" = some (some (.int 0 t0)))
    (p25 : PySem.W.nsIn K mainGlobals "RIGHT" = some (some (.int 1 t1)))
    (p26 : PySem.W.nsIn K mainGlobals "BELOW" = some (some (.int 2 t2)))
    (p27 : PySem.W.nsIn K mainGlobals "LEFT" = some (some (.int 3 t3)))
    (p28 : PySem.W.nsIn K mainGlobals "SIDE_WORDS" = some (some (.ref A.aSides)))
    (p29 : PySem.W.nsIn K mainGlobals "MOST_LINES" = some (some (.int 8 t4)))
    (p30 : PySem.W.nsIn K mainGlobals "MOST_DAYS" = some (some (.int 20 t5)))
    (p31 : PySem.W.nsIn K mainGlobals "BLANK" = some (some (.int 32 t6)))
    (p32 : PySem.W.nsIn K mainGlobals "LINE_END" = some (some (.int 10 t7)))
    (p33 : PySem.W.nsIn K mainGlobals "DIGIT_ZERO" = some (some (.int 48 t8)))
    (p34 : PySem.W.nsIn K mainGlobals "MOST_HURDLES" = some (some (.int 100 t9)))
    (p35 : PySem.W.nsIn K mainGlobals "MOST_CELLS" = some (some (.int 64 t10)))
    (p36 : PySem.W.nsIn K mainGlobals "MOST_DAYS_IN_TABLE" = some (some (.int 7 t11)))
    (p37 : PySem.W.nsIn K mainGlobals "Refusal" = some (some (.ref A.cRefusal)))
    (p38 : PySem.W.nsIn K mainGlobals "TextFault" = some (some (.ref A.cTextFault)))
    (p39 : PySem.W.nsIn K mainGlobals "len" = some none)
    (p40 : PySem.W.nsIn K mainGlobals "range" = some none)
    (p41 : PySem.W.nsIn K mainGlobals "list" = some none)
    (p42 : PySem.W.nsIn K mainGlobals "ord" = some none)
    (p43 : PySem.W.nsIn K mainGlobals "enumerate" = some none)
    (p44 : PySem.W.nsIn K mainGlobals "min" = some none)
    (p45 : PySem.W.nsIn K mainGlobals "max" = some none)
    (p46 : PySem.W.nsIn K mainGlobals "sum" = some none)
    (p47 : PySem.W.nsIn K mainGlobals "sorted" = some none)
    (p48 : PySem.W.nsIn K mainGlobals "reversed" = some none)
    (sd : ∀ H, SqT K H A.aSides [.str "above", .str "right", .str "below", .str "left"]) (er : ∀ C, C ∈ [A.cNotBytes, A.cOutOfRange, A.cWrongList, A.cNotThere, A.cTooManyDays, A.cTextFault] → ErrOk K A.cRefusal C) (tf : PySem.W.exmOne K (.ref A.cTextFault) (.ref A.cTextFault) = some true) : Txt K mg A :=
  { clField := ⟨p0, p1, p2, p3⟩,
    nRows := p4,
    nColumns := p5,
    nWalls := p6,
    nDays := p7,
    clReader := ⟨p8, p9, p10, p11⟩,
    nLength := p12,
    nWords := p13,
    nReached := p14,
    clTable := ⟨p15, p16, p17, p18⟩,
    nFirst := p19,
    nSteps := p20,
    nBits := p21,
    nSets := p22,
    nLines := p23,
    ABOVE := gi_mk X G p24,
    RIGHT := gi_mk X G p25,
    BELOW := gi_mk X G p26,
    LEFT := gi_mk X G p27,
    SIDE_WORDS := PySem.W.mg_of X G p28,
    sides := sd,
    MOST_LINES := gi_mk X G p29,
    MOST_DAYS := gi_mk X G p30,
    BLANK := gi_mk X G p31,
    LINE_END := gi_mk X G p32,
    DIGIT_ZERO := gi_mk X G p33,
    MOST_HURDLES := gi_mk X G p34,
    MOST_CELLS := gi_mk X G p35,
    MOST_DAYS_IN_TABLE := gi_mk X G p36,
    errs := er,
    tf := tf,
    gRefusal := PySem.W.mg_of X G p37,
    gTextFault := PySem.W.mg_of X G p38,
    len := PySem.W.mg_none_of X G p39,
    range := PySem.W.mg_none_of X G p40,
    list := PySem.W.mg_none_of X G p41,
    ord := PySem.W.mg_none_of X G p42,
    enumerate := PySem.W.mg_none_of X G p43,
    min := PySem.W.mg_none_of X G p44,
    max := PySem.W.mg_none_of X G p45,
    sum := PySem.W.mg_none_of X G p46,
    sorted := PySem.W.mg_none_of X G p47,
    reversed := PySem.W.mg_none_of X G p48 }
theorem fin {P : Program} {w : World} {K : PySem.W.Frag} {h : Heap} {mg : Str → Option Value} {fa fb : Addr} {cField cReader cRefusal cNotBytes cOutOfRange cWrongList cNotThere cTooManyDays cTextFault cTable aSides aLists aWhole aAns : Addr} {oc : Value} {od an : Option Addr} {osl : Array (Option Value)} {kV doc pm cdv ct : Value} (X : K.In h) (G : h.Ns mainGlobals mg) (hfa : mg "answers" = some (.ref fa))
    (g_cField : PySem.W.nsIn K mainGlobals "Field" = some (some (.ref cField)))
    (g_cReader : PySem.W.nsIn K mainGlobals "Reader" = some (some (.ref cReader)))
    (g_cRefusal : PySem.W.nsIn K mainGlobals "Refusal" = some (some (.ref cRefusal)))
    (g_cNotBytes : PySem.W.nsIn K mainGlobals "NotBytes" = some (some (.ref cNotBytes)))
    (g_cOutOfRange : PySem.W.nsIn K mainGlobals "OutOfRange" = some (some (.ref cOutOfRange)))
    (g_cWrongList : PySem.W.nsIn K mainGlobals "WrongList" = some (some (.ref cWrongList)))
    (g_cNotThere : PySem.W.nsIn K mainGlobals "NotThere" = some (some (.ref cNotThere)))
    (g_cTooManyDays : PySem.W.nsIn K mainGlobals "TooManyDays" = some (some (.ref cTooManyDays)))
    (g_cTextFault : PySem.W.nsIn K mainGlobals "TextFault" = some (some (.ref cTextFault)))
    (g_cTable : PySem.W.nsIn K mainGlobals "Table" = some (some (.ref cTable)))
    (g_aSides : PySem.W.nsIn K mainGlobals "SIDE_WORDS" = some (some (.ref aSides)))
    (g_aLists : PySem.W.nsIn K mainGlobals "CALLS_WITH_A_LIST" = some (some (.ref aLists)))
    (g_aWhole : PySem.W.nsIn K mainGlobals "WHOLE_NUMBERS" = some (some (.ref aWhole)))
    (g_aAns : PySem.W.nsIn K mainGlobals "ANSWERING" = some (some (.ref aAns)))
    (T : Txt K mg ⟨cField, cReader, cRefusal, cNotBytes, cOutOfRange, cWrongList, cNotThere, cTooManyDays, cTextFault, cTable, aSides, aLists, aWhole, aAns⟩) (Al : All K mg ⟨cField, cReader, cRefusal, cNotBytes, cOutOfRange, cWrongList, cNotThere, cTooManyDays, cTextFault, cTable, aSides, aLists, aWhole, aAns⟩) (hA : ∀ (i : Nat) (x : Str), ansNames[i]? = some x → ∃ f, intAt K aAns (i : Int) = some (.ref f) ∧ PySem.W.nsIn K mainGlobals x = some (some (.ref f))) (hL : ∀ H, SqT K H aLists listsV) (hW : ∀ i : Nat, i < 21 → HFM.isL i = false → ∃ t, intAt K aWhole (i : Int) = some (.int (HFM.wnum i : Nat) t))
    (a : PySem.W.nsIn K mainGlobals "answers" = some (some (.ref fb))) (l : K.lookup fb = some ⟨oc, od, .func (PySem.W.fnOf "answers" "answers" (defArgs s_answers) (defBody s_answers) (defScope s_answers) .none kV doc pm an cdv ct), osl⟩) (c : PySem.W.codeIn K cdv "answers" = true) (k : PySem.W.keepIn K (.ref fb) = true) :
    ∃ fd : FuncData, (∀ (s : Shared) (us : List Value), us.length = (["calls"] : List Str).length → BindsTo s fd ⟨us, []⟩ ((["calls"] : List Str).zip us)) ∧ ∀ base : Heap, K.In base → base.Ns mainGlobals mg → FnOk P w K mg base CX0 10 fa fd ["calls"] (sp_answers K) := by
  have e := hfa.symm.trans (PySem.W.mg_of X G a)
  cases e
  exact ⟨_, fun s us hu => match us, hu with | [_], _ => .of_eq rfl, fun base _ _ => chain T Al (PySem.W.mg_of X G g_aAns) (fun i x hx => let ⟨f, h1, h2⟩ := hA i x hx; ⟨f, h1, PySem.W.mg_of X G h2⟩) (PySem.W.mg_of X G g_aLists) hL (PySem.W.mg_of X G g_aWhole) hW (fun_mk l c k) base⟩
end HF
open PySem PySem.W PyProof.Rows
theorem PySem.Challenge.cw_hurdlefolds_s01_answers_holds : PySem.Challenge.rw_hurdlefolds_s01_answers.Holds := by
  w_on; k_headS; (case hw => exact ⟨[.list [.int 0]], by decide +kernel, by decide +kernel⟩)
  k_fillS
  refine L2.walk_specK (r := PySem.Challenge.rw_hurdlefolds_s01_answers) (k := 10) (CX := L2.CX0) (ps := ["calls"]) (sp := HF.sp_answers) (by decide +kernel) rfl rfl ⟨rfl, by decide, by decide⟩ (fun w h Y => PySem.W.kIn_of Y) ?F ?S (fun _ _ _ _ z => z)
  case F =>
    intro w mg fa h Y KX G hmg
    refine' HF.fin KX G hmg ?g_cField ?g_cReader ?g_cRefusal ?g_cNotBytes ?g_cOutOfRange ?g_cWrongList ?g_cNotThere ?g_cTooManyDays ?g_cTextFault ?g_cTable ?g_aSides ?g_aLists ?g_aWhole ?g_aAns ?T ?Al ?hA ?hL ?hW ?a_hf ?l_hf ?c_hf ?k_hf
    (case g_cField => k_is)
    (case g_cReader => k_is)
    (case g_cRefusal => k_is)
    (case g_cNotBytes => k_is)
    (case g_cOutOfRange => k_is)
    (case g_cWrongList => k_is)
    (case g_cNotThere => k_is)
    (case g_cTooManyDays => k_is)
    (case g_cTextFault => k_is)
    (case g_cTable => k_is)
    (case g_aSides => k_is)
    (case g_aLists => k_is)
    (case g_aWhole => k_is)
    (case g_aAns => k_is)
    (case a_hf => k_is); (case l_hf => k_is); (case c_hf => k_is); (case k_hf => k_is)
    case T =>
      refine' HF.txt_mk KX G ?q0_hf ?q1_hf ?q2_hf ?q3_hf ?q4_hf ?q5_hf ?q6_hf ?q7_hf ?q8_hf ?q9_hf ?q10_hf ?q11_hf ?q12_hf ?q13_hf ?q14_hf ?q15_hf ?q16_hf ?q17_hf ?q18_hf ?q19_hf ?q20_hf ?q21_hf ?q22_hf ?q23_hf ?q24_hf ?q25_hf ?q26_hf ?q27_hf ?q28_hf ?q29_hf ?q30_hf ?q31_hf ?q32_hf ?q33_hf ?q34_hf ?q35_hf ?q36_hf ?q37_hf ?q38_hf ?q39_hf ?q40_hf ?q41_hf ?q42_hf ?q43_hf ?q44_hf ?q45_hf ?q46_hf ?q47_hf ?q48_hf ?sd_hf ?er_hf ?tf_hf
      (case q0_hf => k_is)
      (case q1_hf => k_is)
      (case q2_hf => k_is)
      (case q3_hf => k_is)
      (case q4_hf => k_is)
      (case q5_hf => k_is)
      (case q6_hf => k_is)
      (case q7_hf => k_is)
      (case q8_hf => k_is)
      (case q9_hf => k_is)
      (case q10_hf => k_is)
      (case q11_hf => k_is)
      (case q12_hf => k_is)
      (case q13_hf => k_is)
      (case q14_hf => k_is)
      (case q15_hf => k_is)
      (case q16_hf => k_is)
      (case q17_hf => k_is)
      (case q18_hf => k_is)
      (case q19_hf => k_is)
      (case q20_hf => k_is)
      (case q21_hf => k_is)
      (case q22_hf => k_is)
      (case q23_hf => k_is)
      (case q24_hf => k_is)
      (case q25_hf => k_is)
      (case q26_hf => k_is)
      (case q27_hf => k_is)
      (case q28_hf => k_is)
      (case q29_hf => k_is)
      (case q30_hf => k_is)
      (case q31_hf => k_is)
      (case q32_hf => k_is)
      (case q33_hf => k_is)
      (case q34_hf => k_is)
      (case q35_hf => k_is)
      (case q36_hf => k_is)
      (case q37_hf => k_is)
      (case q38_hf => k_is)
      (case q39_hf => k_is)
      (case q40_hf => k_is)
      (case q41_hf => k_is)
      (case q42_hf => k_is)
      (case q43_hf => k_is)
      (case q44_hf => k_is)
      (case q45_hf => k_is)
      (case q46_hf => k_is)
      (case q47_hf => k_is)
      (case q48_hf => k_is)
      case sd_hf =>
        refine' HF.sqT_mk ?l_hf ?z_hf ?v_hf
        (case l_hf => k_is); (case z_hf => decide +kernel)
        (case v_hf => exact .cons ⟨_, rfl⟩ (.cons ⟨_, rfl⟩ (.cons ⟨_, rfl⟩ (.cons ⟨_, rfl⟩ .nil))))
      case er_hf =>
        refine' HF.all6 ?e0_hf ?e1_hf ?e2_hf ?e3_hf ?e4_hf ?e5_hf
        case e0_hf =>
          refine' HF.errOk_mk (HF.xc_mk ?l_hf ?r_hf ?sa_hf ?e_hf ?t_hf ?k_hf) ?f1_hf ?f2_hf ?f4_hf ?n1_hf ?n2_hf ?h1_hf ?h2_hf ?h3_hf ?h4_hf
          (case l_hf => k_is); (case r_hf => decide +kernel)
          (case sa_hf => k_is)
          (case e_hf => k_is)
          (case t_hf => k_is)
          (case k_hf => k_is)
          (case f1_hf => k_is)
          (case f2_hf => k_is)
          (case f4_hf => k_is)
          (case n1_hf => k_is)
          (case n2_hf => k_is)
          (case h1_hf => k_is)
          (case h2_hf => k_is)
          (case h3_hf => k_is)
          (case h4_hf => k_is)
        case e1_hf =>
          refine' HF.errOk_mk (HF.xc_mk ?l_hf ?r_hf ?sa_hf ?e_hf ?t_hf ?k_hf) ?f1_hf ?f2_hf ?f4_hf ?n1_hf ?n2_hf ?h1_hf ?h2_hf ?h3_hf ?h4_hf
          (case l_hf => k_is); (case r_hf => decide +kernel)
          (case sa_hf => k_is)
          (case e_hf => k_is)
          (case t_hf => k_is)
          (case k_hf => k_is)
          (case f1_hf => k_is)
          (case f2_hf => k_is)
          (case f4_hf => k_is)
          (case n1_hf => k_is)
          (case n2_hf => k_is)
          (case h1_hf => k_is)
          (case h2_hf => k_is)
          (case h3_hf => k_is)
          (case h4_hf => k_is)
        case e2_hf =>
          refine' HF.errOk_mk (HF.xc_mk ?l_hf ?r_hf ?sa_hf ?e_hf ?t_hf ?k_hf) ?f1_hf ?f2_hf ?f4_hf ?n1_hf ?n2_hf ?h1_hf ?h2_hf ?h3_hf ?h4_hf
          (case l_hf => k_is); (case r_hf => decide +kernel)
          (case sa_hf => k_is)
          (case e_hf => k_is)
          (case t_hf => k_is)
          (case k_hf => k_is)
          (case f1_hf => k_is)
          (case f2_hf => k_is)
          (case f4_hf => k_is)
          (case n1_hf => k_is)
          (case n2_hf => k_is)
          (case h1_hf => k_is)
          (case h2_hf => k_is)
          (case h3_hf => k_is)
          (case h4_hf => k_is)
        case e3_hf =>
          refine' HF.errOk_mk (HF.xc_mk ?l_hf ?r_hf ?sa_hf ?e_hf ?t_hf ?k_hf) ?f1_hf ?f2_hf ?f4_hf ?n1_hf ?n2_hf ?h1_hf ?h2_hf ?h3_hf ?h4_hf
          (case l_hf => k_is); (case r_hf => decide +kernel)
          (case sa_hf => k_is)
          (case e_hf => k_is)
          (case t_hf => k_is)
          (case k_hf => k_is)
          (case f1_hf => k_is)
          (case f2_hf => k_is)
          (case f4_hf => k_is)
          (case n1_hf => k_is)
          (case n2_hf => k_is)
          (case h1_hf => k_is)
          (case h2_hf => k_is)
          (case h3_hf => k_is)
          (case h4_hf => k_is)
        case e4_hf =>
          refine' HF.errOk_mk (HF.xc_mk ?l_hf ?r_hf ?sa_hf ?e_hf ?t_hf ?k_hf) ?f1_hf ?f2_hf ?f4_hf ?n1_hf ?n2_hf ?h1_hf ?h2_hf ?h3_hf ?h4_hf
          (case l_hf => k_is); (case r_hf => decide +kernel)
          (case sa_hf => k_is)
          (case e_hf => k_is)
          (case t_hf => k_is)
          (case k_hf => k_is)
          (case f1_hf => k_is)
          (case f2_hf => k_is)
          (case f4_hf => k_is)
          (case n1_hf => k_is)
          (case n2_hf => k_is)
          (case h1_hf => k_is)
          (case h2_hf => k_is)
          (case h3_hf => k_is)
          (case h4_hf => k_is)
        case e5_hf =>
          refine' HF.errOk_mk (HF.xc_mk ?l_hf ?r_hf ?sa_hf ?e_hf ?t_hf ?k_hf) ?f1_hf ?f2_hf ?f4_hf ?n1_hf ?n2_hf ?h1_hf ?h2_hf ?h3_hf ?h4_hf
          (case l_hf => k_is); (case r_hf => decide +kernel)
          (case sa_hf => k_is)
          (case e_hf => k_is)
          (case t_hf => k_is)
          (case k_hf => k_is)
          (case f1_hf => k_is)
          (case f2_hf => k_is)
          (case f4_hf => k_is)
          (case n1_hf => k_is)
          (case n2_hf => k_is)
          (case h1_hf => k_is)
          (case h2_hf => k_is)
          (case h3_hf => k_is)
          (case h4_hf => k_is)
      case tf_hf =>
        refine' HF.exm_mk ?h1_hf ?h2_hf ?h3_hf ?h4_hf
        (case h1_hf => first | k_is | rfl)
        (case h2_hf => first | k_is | rfl)
        (case h3_hf => first | k_is | rfl)
        (case h4_hf => first | k_is | rfl)
    case Al =>
      refine' ⟨?z0_hf, ?z1_hf, ?z2_hf, ?z3_hf, ?z4_hf, ?z5_hf, ?z6_hf, ?z7_hf, ?z8_hf, ?z9_hf, ?z10_hf, ?z11_hf, ?z12_hf, ?z13_hf, ?z14_hf, ?z15_hf, ?z16_hf, ?z17_hf, ?z18_hf, ?z19_hf, ?z20_hf, ?z21_hf, ?z22_hf, ?z23_hf, ?z24_hf, ?z25_hf, ?z26_hf, ?z27_hf, ?z28_hf, ?z29_hf, ?z30_hf, ?z31_hf, ?z32_hf, ?z33_hf, ?z34_hf, ?z35_hf, ?z36_hf, ?z37_hf, ?z38_hf, ?z39_hf, ?z40_hf, ?z41_hf, ?z42_hf, ?z43_hf, ?z44_hf, ?z45_hf, ?z46_hf, ?z47_hf, ?z48_hf, ?z49_hf, ?z50_hf, ?z51_hf, ?z52_hf, ?z53_hf, ?z54_hf, ?z55_hf, ?z56_hf, ?z57_hf, ?z58_hf, ?z59_hf, ?z60_hf, ?z61_hf, ?z62_hf, ?z63_hf, ?z64_hf, ?z65_hf, ?z66_hf, ?z67_hf, ?z68_hf, ?z69_hf, ?z70_hf, ?z71_hf, ?z72_hf, ?z73_hf, ?z74_hf, ?z75_hf, ?z76_hf, ?z77_hf, ?z78_hf, ?z79_hf⟩
      case z0_hf =>
        refine' HF.inAt_mk KX G (fun _ _ _ _ _ _ us hl => match us, hl with | [_], _ => rfl) ?g_hf ?a_hf ?l_hf ?c_hf ?k_hf ?n_hf ?m_hf ?o_hf
        (case g_hf => k_is); (case a_hf => k_is); (case l_hf => k_is); (case c_hf => k_is); (case k_hf => k_is); (case n_hf => k_is); (case m_hf => k_is); (case o_hf => k_is)
      case z1_hf =>
        refine' HF.mtAt_mk (fun _ _ _ _ _ _ us hl => match us, hl with | [_, _], _ => rfl) ?a_hf ?l_hf ?c_hf ?k_hf ?n_hf
        (case a_hf => k_is); (case l_hf => k_is); (case c_hf => k_is); (case k_hf => k_is); (case n_hf => k_is)
      case z2_hf =>
        refine' HF.fnAt_mk KX G (fun _ _ _ _ _ _ us hl => match us, hl with | [_, _, _], _ => rfl) ?a_hf ?l_hf ?c_hf ?k_hf
        (case a_hf => k_is); (case l_hf => k_is); (case c_hf => k_is); (case k_hf => k_is)
      case z3_hf =>
        refine' HF.fnAt_mk KX G (fun _ _ _ _ _ _ us hl => match us, hl with | [_, _, _, _], _ => rfl) ?a_hf ?l_hf ?c_hf ?k_hf
        (case a_hf => k_is); (case l_hf => k_is); (case c_hf => k_is); (case k_hf => k_is)
      case z4_hf =>
        refine' HF.fnAt_mk KX G (fun _ _ _ _ _ _ us hl => match us, hl with | [_], _ => rfl) ?a_hf ?l_hf ?c_hf ?k_hf
        (case a_hf => k_is); (case l_hf => k_is); (case c_hf => k_is); (case k_hf => k_is)
      case z5_hf =>
        refine' HF.fnAt_mk KX G (fun _ _ _ _ _ _ us hl => match us, hl with | [_, _], _ => rfl) ?a_hf ?l_hf ?c_hf ?k_hf
        (case a_hf => k_is); (case l_hf => k_is); (case c_hf => k_is); (case k_hf => k_is)
      case z6_hf =>
        refine' HF.fnAt_mk KX G (fun _ _ _ _ _ _ us hl => match us, hl with | [_, _, _], _ => rfl) ?a_hf ?l_hf ?c_hf ?k_hf
        (case a_hf => k_is); (case l_hf => k_is); (case c_hf => k_is); (case k_hf => k_is)
      case z7_hf =>
        refine' HF.fnAt_mk KX G (fun _ _ _ _ _ _ us hl => match us, hl with | [_, _], _ => rfl) ?a_hf ?l_hf ?c_hf ?k_hf
        (case a_hf => k_is); (case l_hf => k_is); (case c_hf => k_is); (case k_hf => k_is)
      case z8_hf =>
        refine' HF.fnAt_mk KX G (fun _ _ _ _ _ _ us hl => match us, hl with | [_, _], _ => rfl) ?a_hf ?l_hf ?c_hf ?k_hf
        (case a_hf => k_is); (case l_hf => k_is); (case c_hf => k_is); (case k_hf => k_is)
      case z9_hf =>
        refine' HF.fnAt_mk KX G (fun _ _ _ _ _ _ us hl => match us, hl with | [_, _, _], _ => rfl) ?a_hf ?l_hf ?c_hf ?k_hf
        (case a_hf => k_is); (case l_hf => k_is); (case c_hf => k_is); (case k_hf => k_is)
      case z10_hf =>
        refine' HF.fnAt_mk KX G (fun _ _ _ _ _ _ us hl => match us, hl with | [_, _], _ => rfl) ?a_hf ?l_hf ?c_hf ?k_hf
        (case a_hf => k_is); (case l_hf => k_is); (case c_hf => k_is); (case k_hf => k_is)
      case z11_hf =>
        refine' HF.fnAt_mk KX G (fun _ _ _ _ _ _ us hl => match us, hl with | [_], _ => rfl) ?a_hf ?l_hf ?c_hf ?k_hf
        (case a_hf => k_is); (case l_hf => k_is); (case c_hf => k_is); (case k_hf => k_is)
      case z12_hf =>
        refine' HF.fnAt_mk KX G (fun _ _ _ _ _ _ us hl => match us, hl with | [_, _], _ => rfl) ?a_hf ?l_hf ?c_hf ?k_hf
        (case a_hf => k_is); (case l_hf => k_is); (case c_hf => k_is); (case k_hf => k_is)
      case z13_hf =>
        refine' HF.fnAt_mk KX G (fun _ _ _ _ _ _ us hl => match us, hl with | [_], _ => rfl) ?a_hf ?l_hf ?c_hf ?k_hf
        (case a_hf => k_is); (case l_hf => k_is); (case c_hf => k_is); (case k_hf => k_is)
      case z14_hf =>
        refine' HF.fnAt_mk KX G (fun _ _ _ _ _ _ us hl => match us, hl with | [_], _ => rfl) ?a_hf ?l_hf ?c_hf ?k_hf
        (case a_hf => k_is); (case l_hf => k_is); (case c_hf => k_is); (case k_hf => k_is)
      case z15_hf =>
        refine' HF.biAt_mk KX G (fun _ _ _ _ _ _ us hl => match us, hl with | [_, _], _ => rfl) ?g_hf ?a_hf ?l_hf ?c_hf ?k_hf ?r_hf ?s_hf
        (case g_hf => k_is); (case a_hf => k_is); (case l_hf => k_is); (case c_hf => k_is); (case k_hf => k_is); (case r_hf => k_is); (case s_hf => k_is)
      case z16_hf =>
        refine' HF.xiAt_mk KX G (HF.xc_mk ?p_hf ?r_hf ?s_hf ?e_hf ?u_hf ?v_hf) (fun _ _ _ _ _ _ us hl => match us, hl with | [_], _ => rfl) ?g_hf ?a_hf ?l_hf ?c_hf ?k_hf ?t_hf
        (case p_hf => k_is); (case r_hf => decide +kernel); (case s_hf => k_is); (case e_hf => k_is); (case u_hf => k_is); (case v_hf => k_is); (case g_hf => k_is); (case a_hf => k_is); (case l_hf => k_is); (case c_hf => k_is); (case k_hf => k_is); (case t_hf => k_is)
      case z17_hf =>
        refine' HF.xiAt_mk KX G (HF.xc_mk ?p_hf ?r_hf ?s_hf ?e_hf ?u_hf ?v_hf) (fun _ _ _ _ _ _ us hl => match us, hl with | [_], _ => rfl) ?g_hf ?a_hf ?l_hf ?c_hf ?k_hf ?t_hf
        (case p_hf => k_is); (case r_hf => decide +kernel); (case s_hf => k_is); (case e_hf => k_is); (case u_hf => k_is); (case v_hf => k_is); (case g_hf => k_is); (case a_hf => k_is); (case l_hf => k_is); (case c_hf => k_is); (case k_hf => k_is); (case t_hf => k_is)
      case z18_hf =>
        refine' HF.xiAt_mk KX G (HF.xc_mk ?p_hf ?r_hf ?s_hf ?e_hf ?u_hf ?v_hf) (fun _ _ _ _ _ _ us hl => match us, hl with | [_], _ => rfl) ?g_hf ?a_hf ?l_hf ?c_hf ?k_hf ?t_hf
        (case p_hf => k_is); (case r_hf => decide +kernel); (case s_hf => k_is); (case e_hf => k_is); (case u_hf => k_is); (case v_hf => k_is); (case g_hf => k_is); (case a_hf => k_is); (case l_hf => k_is); (case c_hf => k_is); (case k_hf => k_is); (case t_hf => k_is)
      case z19_hf =>
        refine' HF.xiAt_mk KX G (HF.xc_mk ?p_hf ?r_hf ?s_hf ?e_hf ?u_hf ?v_hf) (fun _ _ _ _ _ _ us hl => match us, hl with | [_], _ => rfl) ?g_hf ?a_hf ?l_hf ?c_hf ?k_hf ?t_hf
        (case p_hf => k_is); (case r_hf => decide +kernel); (case s_hf => k_is); (case e_hf => k_is); (case u_hf => k_is); (case v_hf => k_is); (case g_hf => k_is); (case a_hf => k_is); (case l_hf => k_is); (case c_hf => k_is); (case k_hf => k_is); (case t_hf => k_is)
      case z20_hf =>
        refine' HF.xiAt_mk KX G (HF.xc_mk ?p_hf ?r_hf ?s_hf ?e_hf ?u_hf ?v_hf) (fun _ _ _ _ _ _ us hl => match us, hl with | [_], _ => rfl) ?g_hf ?a_hf ?l_hf ?c_hf ?k_hf ?t_hf
        (case p_hf => k_is); (case r_hf => decide +kernel); (case s_hf => k_is); (case e_hf => k_is); (case u_hf => k_is); (case v_hf => k_is); (case g_hf => k_is); (case a_hf => k_is); (case l_hf => k_is); (case c_hf => k_is); (case k_hf => k_is); (case t_hf => k_is)
      case z21_hf =>
        refine' HF.xiAt_mk KX G (HF.xc_mk ?p_hf ?r_hf ?s_hf ?e_hf ?u_hf ?v_hf) (fun _ _ _ _ _ _ us hl => match us, hl with | [_, _], _ => rfl) ?g_hf ?a_hf ?l_hf ?c_hf ?k_hf ?t_hf
        (case p_hf => k_is); (case r_hf => decide +kernel); (case s_hf => k_is); (case e_hf => k_is); (case u_hf => k_is); (case v_hf => k_is); (case g_hf => k_is); (case a_hf => k_is); (case l_hf => k_is); (case c_hf => k_is); (case k_hf => k_is); (case t_hf => k_is)
      case z22_hf =>
        refine' HF.fnAt_mk KX G (fun _ _ _ _ _ _ us hl => match us, hl with | [_], _ => rfl) ?a_hf ?l_hf ?c_hf ?k_hf
        (case a_hf => k_is); (case l_hf => k_is); (case c_hf => k_is); (case k_hf => k_is)
      case z23_hf =>
        refine' HF.fnAt_mk KX G (fun _ _ _ _ _ _ us hl => match us, hl with | [_], _ => rfl) ?a_hf ?l_hf ?c_hf ?k_hf
        (case a_hf => k_is); (case l_hf => k_is); (case c_hf => k_is); (case k_hf => k_is)
      case z24_hf =>
        refine' HF.inAt_mk KX G (fun _ _ _ _ _ _ us hl => match us, hl with | [_, _], _ => rfl) ?g_hf ?a_hf ?l_hf ?c_hf ?k_hf ?n_hf ?m_hf ?o_hf
        (case g_hf => k_is); (case a_hf => k_is); (case l_hf => k_is); (case c_hf => k_is); (case k_hf => k_is); (case n_hf => k_is); (case m_hf => k_is); (case o_hf => k_is)
      case z25_hf =>
        refine' HF.mtAt_mk (fun _ _ _ _ _ _ us hl => match us, hl with | [_], _ => rfl) ?a_hf ?l_hf ?c_hf ?k_hf ?n_hf
        (case a_hf => k_is); (case l_hf => k_is); (case c_hf => k_is); (case k_hf => k_is); (case n_hf => k_is)
      case z26_hf =>
        refine' HF.mtAt_mk (fun _ _ _ _ _ _ us hl => match us, hl with | [_], _ => rfl) ?a_hf ?l_hf ?c_hf ?k_hf ?n_hf
        (case a_hf => k_is); (case l_hf => k_is); (case c_hf => k_is); (case k_hf => k_is); (case n_hf => k_is)
      case z27_hf =>
        refine' HF.mtAt_mk (fun _ _ _ _ _ _ us hl => match us, hl with | [_, _], _ => rfl) ?a_hf ?l_hf ?c_hf ?k_hf ?n_hf
        (case a_hf => k_is); (case l_hf => k_is); (case c_hf => k_is); (case k_hf => k_is); (case n_hf => k_is)
      case z28_hf =>
        refine' HF.mtAt_mk (fun _ _ _ _ _ _ us hl => match us, hl with | [_, _], _ => rfl) ?a_hf ?l_hf ?c_hf ?k_hf ?n_hf
        (case a_hf => k_is); (case l_hf => k_is); (case c_hf => k_is); (case k_hf => k_is); (case n_hf => k_is)
      case z29_hf =>
        refine' HF.mtAt_mk (fun _ _ _ _ _ _ us hl => match us, hl with | [_, _, _], _ => rfl) ?a_hf ?l_hf ?c_hf ?k_hf ?n_hf
        (case a_hf => k_is); (case l_hf => k_is); (case c_hf => k_is); (case k_hf => k_is); (case n_hf => k_is)
      case z30_hf =>
        refine' HF.mtAt_mk (fun _ _ _ _ _ _ us hl => match us, hl with | [_], _ => rfl) ?a_hf ?l_hf ?c_hf ?k_hf ?n_hf
        (case a_hf => k_is); (case l_hf => k_is); (case c_hf => k_is); (case k_hf => k_is); (case n_hf => k_is)
      case z31_hf =>
        refine' HF.fnAt_mk KX G (fun _ _ _ _ _ _ us hl => match us, hl with | [_, _], _ => rfl) ?a_hf ?l_hf ?c_hf ?k_hf
        (case a_hf => k_is); (case l_hf => k_is); (case c_hf => k_is); (case k_hf => k_is)
      case z32_hf =>
        refine' HF.fnAt_mk KX G (fun _ _ _ _ _ _ us hl => match us, hl with | [_, _], _ => rfl) ?a_hf ?l_hf ?c_hf ?k_hf
        (case a_hf => k_is); (case l_hf => k_is); (case c_hf => k_is); (case k_hf => k_is)
      case z33_hf =>
        refine' HF.fnAt_mk KX G (fun _ _ _ _ _ _ us hl => match us, hl with | [_], _ => rfl) ?a_hf ?l_hf ?c_hf ?k_hf
        (case a_hf => k_is); (case l_hf => k_is); (case c_hf => k_is); (case k_hf => k_is)
      case z34_hf =>
        refine' HF.fnAt_mk KX G (fun _ _ _ _ _ _ us hl => match us, hl with | [_], _ => rfl) ?a_hf ?l_hf ?c_hf ?k_hf
        (case a_hf => k_is); (case l_hf => k_is); (case c_hf => k_is); (case k_hf => k_is)
      case z35_hf =>
        refine' HF.fnAt_mk KX G (fun _ _ _ _ _ _ us hl => match us, hl with | [_], _ => rfl) ?a_hf ?l_hf ?c_hf ?k_hf
        (case a_hf => k_is); (case l_hf => k_is); (case c_hf => k_is); (case k_hf => k_is)
      case z36_hf =>
        refine' HF.inAt_mk KX G (fun _ _ _ _ _ _ us hl => match us, hl with | [_, _], _ => rfl) ?g_hf ?a_hf ?l_hf ?c_hf ?k_hf ?n_hf ?m_hf ?o_hf
        (case g_hf => k_is); (case a_hf => k_is); (case l_hf => k_is); (case c_hf => k_is); (case k_hf => k_is); (case n_hf => k_is); (case m_hf => k_is); (case o_hf => k_is)
      case z37_hf =>
        refine' HF.mtAt_mk (fun _ _ _ _ _ _ us hl => match us, hl with | [_, _], _ => rfl) ?a_hf ?l_hf ?c_hf ?k_hf ?n_hf
        (case a_hf => k_is); (case l_hf => k_is); (case c_hf => k_is); (case k_hf => k_is); (case n_hf => k_is)
      case z38_hf =>
        refine' HF.mtAt_mk (fun _ _ _ _ _ _ us hl => match us, hl with | [_, _, _], _ => rfl) ?a_hf ?l_hf ?c_hf ?k_hf ?n_hf
        (case a_hf => k_is); (case l_hf => k_is); (case c_hf => k_is); (case k_hf => k_is); (case n_hf => k_is)
      case z39_hf =>
        refine' HF.mtAt_mk (fun _ _ _ _ _ _ us hl => match us, hl with | [_, _, _], _ => rfl) ?a_hf ?l_hf ?c_hf ?k_hf ?n_hf
        (case a_hf => k_is); (case l_hf => k_is); (case c_hf => k_is); (case k_hf => k_is); (case n_hf => k_is)
      case z40_hf =>
        refine' HF.mtAt_mk (fun _ _ _ _ _ _ us hl => match us, hl with | [_], _ => rfl) ?a_hf ?l_hf ?c_hf ?k_hf ?n_hf
        (case a_hf => k_is); (case l_hf => k_is); (case c_hf => k_is); (case k_hf => k_is); (case n_hf => k_is)
      case z41_hf =>
        refine' HF.mtAt_mk (fun _ _ _ _ _ _ us hl => match us, hl with | [_], _ => rfl) ?a_hf ?l_hf ?c_hf ?k_hf ?n_hf
        (case a_hf => k_is); (case l_hf => k_is); (case c_hf => k_is); (case k_hf => k_is); (case n_hf => k_is)
      case z42_hf =>
        refine' HF.fnAt_mk KX G (fun _ _ _ _ _ _ us hl => match us, hl with | [_, _], _ => rfl) ?a_hf ?l_hf ?c_hf ?k_hf
        (case a_hf => k_is); (case l_hf => k_is); (case c_hf => k_is); (case k_hf => k_is)
      case z43_hf =>
        refine' HF.fnAt_mk KX G (fun _ _ _ _ _ _ us hl => match us, hl with | [_, _, _], _ => rfl) ?a_hf ?l_hf ?c_hf ?k_hf
        (case a_hf => k_is); (case l_hf => k_is); (case c_hf => k_is); (case k_hf => k_is)
      case z44_hf =>
        refine' HF.fnAt_mk KX G (fun _ _ _ _ _ _ us hl => match us, hl with | [_, _, _], _ => rfl) ?a_hf ?l_hf ?c_hf ?k_hf
        (case a_hf => k_is); (case l_hf => k_is); (case c_hf => k_is); (case k_hf => k_is)
      case z45_hf =>
        refine' HF.fnAt_mk KX G (fun _ _ _ _ _ _ us hl => match us, hl with | [_, _, _], _ => rfl) ?a_hf ?l_hf ?c_hf ?k_hf
        (case a_hf => k_is); (case l_hf => k_is); (case c_hf => k_is); (case k_hf => k_is)
      case z46_hf =>
        refine' HF.fnAt_mk KX G (fun _ _ _ _ _ _ us hl => match us, hl with | [_], _ => rfl) ?a_hf ?l_hf ?c_hf ?k_hf
        (case a_hf => k_is); (case l_hf => k_is); (case c_hf => k_is); (case k_hf => k_is)
      case z47_hf =>
        refine' HF.fnAt_mk KX G (fun _ _ _ _ _ _ us hl => match us, hl with | [_], _ => rfl) ?a_hf ?l_hf ?c_hf ?k_hf
        (case a_hf => k_is); (case l_hf => k_is); (case c_hf => k_is); (case k_hf => k_is)
      case z48_hf =>
        refine' HF.fnAt_mk KX G (fun _ _ _ _ _ _ us hl => match us, hl with | [_, _], _ => rfl) ?a_hf ?l_hf ?c_hf ?k_hf
        (case a_hf => k_is); (case l_hf => k_is); (case c_hf => k_is); (case k_hf => k_is)
      case z49_hf =>
        refine' HF.fnAt_mk KX G (fun _ _ _ _ _ _ us hl => match us, hl with | [_, _], _ => rfl) ?a_hf ?l_hf ?c_hf ?k_hf
        (case a_hf => k_is); (case l_hf => k_is); (case c_hf => k_is); (case k_hf => k_is)
      case z50_hf =>
        refine' HF.fnAt_mk KX G (fun _ _ _ _ _ _ us hl => match us, hl with | [_, _], _ => rfl) ?a_hf ?l_hf ?c_hf ?k_hf
        (case a_hf => k_is); (case l_hf => k_is); (case c_hf => k_is); (case k_hf => k_is)
      case z51_hf =>
        refine' HF.fnAt_mk KX G (fun _ _ _ _ _ _ us hl => match us, hl with | [_, _], _ => rfl) ?a_hf ?l_hf ?c_hf ?k_hf
        (case a_hf => k_is); (case l_hf => k_is); (case c_hf => k_is); (case k_hf => k_is)
      case z52_hf =>
        refine' HF.fnAt_mk KX G (fun _ _ _ _ _ _ us hl => match us, hl with | [_, _, _], _ => rfl) ?a_hf ?l_hf ?c_hf ?k_hf
        (case a_hf => k_is); (case l_hf => k_is); (case c_hf => k_is); (case k_hf => k_is)
      case z53_hf =>
        refine' HF.fnAt_mk KX G (fun _ _ _ _ _ _ us hl => match us, hl with | [_], _ => rfl) ?a_hf ?l_hf ?c_hf ?k_hf
        (case a_hf => k_is); (case l_hf => k_is); (case c_hf => k_is); (case k_hf => k_is)
      case z54_hf =>
        refine' HF.fnAt_mk KX G (fun _ _ _ _ _ _ us hl => match us, hl with | [_, _], _ => rfl) ?a_hf ?l_hf ?c_hf ?k_hf
        (case a_hf => k_is); (case l_hf => k_is); (case c_hf => k_is); (case k_hf => k_is)
      case z55_hf =>
        refine' HF.fnAt_mk KX G (fun _ _ _ _ _ _ us hl => match us, hl with | [_, _], _ => rfl) ?a_hf ?l_hf ?c_hf ?k_hf
        (case a_hf => k_is); (case l_hf => k_is); (case c_hf => k_is); (case k_hf => k_is)
      case z56_hf =>
        refine' HF.fnAt_mk KX G (fun _ _ _ _ _ _ us hl => match us, hl with | [_, _], _ => rfl) ?a_hf ?l_hf ?c_hf ?k_hf
        (case a_hf => k_is); (case l_hf => k_is); (case c_hf => k_is); (case k_hf => k_is)
      case z57_hf =>
        refine' HF.fnAt_mk KX G (fun _ _ _ _ _ _ us hl => match us, hl with | [_], _ => rfl) ?a_hf ?l_hf ?c_hf ?k_hf
        (case a_hf => k_is); (case l_hf => k_is); (case c_hf => k_is); (case k_hf => k_is)
      case z58_hf =>
        refine' HF.fnAt_mk KX G (fun _ _ _ _ _ _ us hl => match us, hl with | [_, _], _ => rfl) ?a_hf ?l_hf ?c_hf ?k_hf
        (case a_hf => k_is); (case l_hf => k_is); (case c_hf => k_is); (case k_hf => k_is)
      case z59_hf =>
        refine' HF.fnAt_mk KX G (fun _ _ _ _ _ _ us hl => match us, hl with | [_, _], _ => rfl) ?a_hf ?l_hf ?c_hf ?k_hf
        (case a_hf => k_is); (case l_hf => k_is); (case c_hf => k_is); (case k_hf => k_is)
      case z60_hf =>
        refine' HF.fnAt_mk KX G (fun _ _ _ _ _ _ us hl => match us, hl with | [_, _], _ => rfl) ?a_hf ?l_hf ?c_hf ?k_hf
        (case a_hf => k_is); (case l_hf => k_is); (case c_hf => k_is); (case k_hf => k_is)
      case z61_hf =>
        refine' HF.fnAt_mk KX G (fun _ _ _ _ _ _ us hl => match us, hl with | [_, _], _ => rfl) ?a_hf ?l_hf ?c_hf ?k_hf
        (case a_hf => k_is); (case l_hf => k_is); (case c_hf => k_is); (case k_hf => k_is)
      case z62_hf =>
        refine' HF.fnAt_mk KX G (fun _ _ _ _ _ _ us hl => match us, hl with | [_, _], _ => rfl) ?a_hf ?l_hf ?c_hf ?k_hf
        (case a_hf => k_is); (case l_hf => k_is); (case c_hf => k_is); (case k_hf => k_is)
      case z63_hf =>
        refine' HF.fnAt_mk KX G (fun _ _ _ _ _ _ us hl => match us, hl with | [_, _], _ => rfl) ?a_hf ?l_hf ?c_hf ?k_hf
        (case a_hf => k_is); (case l_hf => k_is); (case c_hf => k_is); (case k_hf => k_is)
      case z64_hf =>
        refine' HF.fnAt_mk KX G (fun _ _ _ _ _ _ us hl => match us, hl with | [_, _], _ => rfl) ?a_hf ?l_hf ?c_hf ?k_hf
        (case a_hf => k_is); (case l_hf => k_is); (case c_hf => k_is); (case k_hf => k_is)
      case z65_hf =>
        refine' HF.fnAt_mk KX G (fun _ _ _ _ _ _ us hl => match us, hl with | [_, _], _ => rfl) ?a_hf ?l_hf ?c_hf ?k_hf
        (case a_hf => k_is); (case l_hf => k_is); (case c_hf => k_is); (case k_hf => k_is)
      case z66_hf =>
        refine' HF.fnAt_mk KX G (fun _ _ _ _ _ _ us hl => match us, hl with | [_, _], _ => rfl) ?a_hf ?l_hf ?c_hf ?k_hf
        (case a_hf => k_is); (case l_hf => k_is); (case c_hf => k_is); (case k_hf => k_is)
      case z67_hf =>
        refine' HF.fnAt_mk KX G (fun _ _ _ _ _ _ us hl => match us, hl with | [_, _], _ => rfl) ?a_hf ?l_hf ?c_hf ?k_hf
        (case a_hf => k_is); (case l_hf => k_is); (case c_hf => k_is); (case k_hf => k_is)
      case z68_hf =>
        refine' HF.fnAt_mk KX G (fun _ _ _ _ _ _ us hl => match us, hl with | [_, _], _ => rfl) ?a_hf ?l_hf ?c_hf ?k_hf
        (case a_hf => k_is); (case l_hf => k_is); (case c_hf => k_is); (case k_hf => k_is)
      case z69_hf =>
        refine' HF.fnAt_mk KX G (fun _ _ _ _ _ _ us hl => match us, hl with | [_, _], _ => rfl) ?a_hf ?l_hf ?c_hf ?k_hf
        (case a_hf => k_is); (case l_hf => k_is); (case c_hf => k_is); (case k_hf => k_is)
      case z70_hf =>
        refine' HF.fnAt_mk KX G (fun _ _ _ _ _ _ us hl => match us, hl with | [_, _], _ => rfl) ?a_hf ?l_hf ?c_hf ?k_hf
        (case a_hf => k_is); (case l_hf => k_is); (case c_hf => k_is); (case k_hf => k_is)
      case z71_hf =>
        refine' HF.fnAt_mk KX G (fun _ _ _ _ _ _ us hl => match us, hl with | [_, _], _ => rfl) ?a_hf ?l_hf ?c_hf ?k_hf
        (case a_hf => k_is); (case l_hf => k_is); (case c_hf => k_is); (case k_hf => k_is)
      case z72_hf =>
        refine' HF.fnAt_mk KX G (fun _ _ _ _ _ _ us hl => match us, hl with | [_, _], _ => rfl) ?a_hf ?l_hf ?c_hf ?k_hf
        (case a_hf => k_is); (case l_hf => k_is); (case c_hf => k_is); (case k_hf => k_is)
      case z73_hf =>
        refine' HF.fnAt_mk KX G (fun _ _ _ _ _ _ us hl => match us, hl with | [_, _], _ => rfl) ?a_hf ?l_hf ?c_hf ?k_hf
        (case a_hf => k_is); (case l_hf => k_is); (case c_hf => k_is); (case k_hf => k_is)
      case z74_hf =>
        refine' HF.fnAt_mk KX G (fun _ _ _ _ _ _ us hl => match us, hl with | [_, _], _ => rfl) ?a_hf ?l_hf ?c_hf ?k_hf
        (case a_hf => k_is); (case l_hf => k_is); (case c_hf => k_is); (case k_hf => k_is)
      case z75_hf =>
        refine' HF.fnAt_mk KX G (fun _ _ _ _ _ _ us hl => match us, hl with | [_, _], _ => rfl) ?a_hf ?l_hf ?c_hf ?k_hf
        (case a_hf => k_is); (case l_hf => k_is); (case c_hf => k_is); (case k_hf => k_is)
      case z76_hf =>
        refine' HF.fnAt_mk KX G (fun _ _ _ _ _ _ us hl => match us, hl with | [_, _], _ => rfl) ?a_hf ?l_hf ?c_hf ?k_hf
        (case a_hf => k_is); (case l_hf => k_is); (case c_hf => k_is); (case k_hf => k_is)
      case z77_hf =>
        refine' HF.fnAt_mk KX G (fun _ _ _ _ _ _ us hl => match us, hl with | [_, _], _ => rfl) ?a_hf ?l_hf ?c_hf ?k_hf
        (case a_hf => k_is); (case l_hf => k_is); (case c_hf => k_is); (case k_hf => k_is)
      case z78_hf =>
        refine' HF.fnAt_mk KX G (fun _ _ _ _ _ _ us hl => match us, hl with | [_, _], _ => rfl) ?a_hf ?l_hf ?c_hf ?k_hf
        (case a_hf => k_is); (case l_hf => k_is); (case c_hf => k_is); (case k_hf => k_is)
      case z79_hf =>
        refine' HF.fnAt_mk KX G (fun _ _ _ _ _ _ us hl => match us, hl with | [_, _, _], _ => rfl) ?a_hf ?l_hf ?c_hf ?k_hf
        (case a_hf => k_is); (case l_hf => k_is); (case c_hf => k_is); (case k_hf => k_is)
    case hA =>
      intro i x hx
      match i, hx with
      | 0, hx => (cases hx; refine' HF.ans_mk ?n_hf ?l_hf ?h_hf ?f_hf; (case n_hf => k_is); (case l_hf => k_is); (case h_hf => decide +kernel); (case f_hf => rfl))
      | 1, hx => (cases hx; refine' HF.ans_mk ?n_hf ?l_hf ?h_hf ?f_hf; (case n_hf => k_is); (case l_hf => k_is); (case h_hf => decide +kernel); (case f_hf => rfl))
      | 2, hx => (cases hx; refine' HF.ans_mk ?n_hf ?l_hf ?h_hf ?f_hf; (case n_hf => k_is); (case l_hf => k_is); (case h_hf => decide +kernel); (case f_hf => rfl))
      | 3, hx => (cases hx; refine' HF.ans_mk ?n_hf ?l_hf ?h_hf ?f_hf; (case n_hf => k_is); (case l_hf => k_is); (case h_hf => decide +kernel); (case f_hf => rfl))
      | 4, hx => (cases hx; refine' HF.ans_mk ?n_hf ?l_hf ?h_hf ?f_hf; (case n_hf => k_is); (case l_hf => k_is); (case h_hf => decide +kernel); (case f_hf => rfl))
      | 5, hx => (cases hx; refine' HF.ans_mk ?n_hf ?l_hf ?h_hf ?f_hf; (case n_hf => k_is); (case l_hf => k_is); (case h_hf => decide +kernel); (case f_hf => rfl))
      | 6, hx => (cases hx; refine' HF.ans_mk ?n_hf ?l_hf ?h_hf ?f_hf; (case n_hf => k_is); (case l_hf => k_is); (case h_hf => decide +kernel); (case f_hf => rfl))
      | 7, hx => (cases hx; refine' HF.ans_mk ?n_hf ?l_hf ?h_hf ?f_hf; (case n_hf => k_is); (case l_hf => k_is); (case h_hf => decide +kernel); (case f_hf => rfl))
      | 8, hx => (cases hx; refine' HF.ans_mk ?n_hf ?l_hf ?h_hf ?f_hf; (case n_hf => k_is); (case l_hf => k_is); (case h_hf => decide +kernel); (case f_hf => rfl))
      | 9, hx => (cases hx; refine' HF.ans_mk ?n_hf ?l_hf ?h_hf ?f_hf; (case n_hf => k_is); (case l_hf => k_is); (case h_hf => decide +kernel); (case f_hf => rfl))
      | 10, hx => (cases hx; refine' HF.ans_mk ?n_hf ?l_hf ?h_hf ?f_hf; (case n_hf => k_is); (case l_hf => k_is); (case h_hf => decide +kernel); (case f_hf => rfl))
      | 11, hx => (cases hx; refine' HF.ans_mk ?n_hf ?l_hf ?h_hf ?f_hf; (case n_hf => k_is); (case l_hf => k_is); (case h_hf => decide +kernel); (case f_hf => rfl))
      | 12, hx => (cases hx; refine' HF.ans_mk ?n_hf ?l_hf ?h_hf ?f_hf; (case n_hf => k_is); (case l_hf => k_is); (case h_hf => decide +kernel); (case f_hf => rfl))
      | 13, hx => (cases hx; refine' HF.ans_mk ?n_hf ?l_hf ?h_hf ?f_hf; (case n_hf => k_is); (case l_hf => k_is); (case h_hf => decide +kernel); (case f_hf => rfl))
      | 14, hx => (cases hx; refine' HF.ans_mk ?n_hf ?l_hf ?h_hf ?f_hf; (case n_hf => k_is); (case l_hf => k_is); (case h_hf => decide +kernel); (case f_hf => rfl))
      | 15, hx => (cases hx; refine' HF.ans_mk ?n_hf ?l_hf ?h_hf ?f_hf; (case n_hf => k_is); (case l_hf => k_is); (case h_hf => decide +kernel); (case f_hf => rfl))
      | 16, hx => (cases hx; refine' HF.ans_mk ?n_hf ?l_hf ?h_hf ?f_hf; (case n_hf => k_is); (case l_hf => k_is); (case h_hf => decide +kernel); (case f_hf => rfl))
      | 17, hx => (cases hx; refine' HF.ans_mk ?n_hf ?l_hf ?h_hf ?f_hf; (case n_hf => k_is); (case l_hf => k_is); (case h_hf => decide +kernel); (case f_hf => rfl))
      | 18, hx => (cases hx; refine' HF.ans_mk ?n_hf ?l_hf ?h_hf ?f_hf; (case n_hf => k_is); (case l_hf => k_is); (case h_hf => decide +kernel); (case f_hf => rfl))
      | 19, hx => (cases hx; refine' HF.ans_mk ?n_hf ?l_hf ?h_hf ?f_hf; (case n_hf => k_is); (case l_hf => k_is); (case h_hf => decide +kernel); (case f_hf => rfl))
      | 20, hx => (cases hx; refine' HF.ans_mk ?n_hf ?l_hf ?h_hf ?f_hf; (case n_hf => k_is); (case l_hf => k_is); (case h_hf => decide +kernel); (case f_hf => rfl))
      | n + 21, hx => exact absurd hx (by simp [HF.ansNames])
    case hL =>
      refine' HF.sqT_mk ?l_hf ?z_hf ?v_hf
      (case l_hf => k_is); (case z_hf => decide +kernel)
      (case v_hf => exact .cons ⟨_, rfl⟩ (.cons ⟨_, rfl⟩ (.cons ⟨_, rfl⟩ (.cons ⟨_, rfl⟩ (.cons ⟨_, rfl⟩ (.cons ⟨_, rfl⟩ (.cons ⟨_, rfl⟩ .nil)))))))
    case hW =>
      intro i hi hLi
      match i, hi, hLi with
      | 0, _, _ => (refine' ⟨_, HF.intAt_mk ?l_hf ?h_hf ?f_hf⟩; (case l_hf => k_is); (case h_hf => decide +kernel); (case f_hf => rfl))
      | 3, _, _ => (refine' ⟨_, HF.intAt_mk ?l_hf ?h_hf ?f_hf⟩; (case l_hf => k_is); (case h_hf => decide +kernel); (case f_hf => rfl))
      | 5, _, _ => (refine' ⟨_, HF.intAt_mk ?l_hf ?h_hf ?f_hf⟩; (case l_hf => k_is); (case h_hf => decide +kernel); (case f_hf => rfl))
      | 6, _, _ => (refine' ⟨_, HF.intAt_mk ?l_hf ?h_hf ?f_hf⟩; (case l_hf => k_is); (case h_hf => decide +kernel); (case f_hf => rfl))
      | 9, _, _ => (refine' ⟨_, HF.intAt_mk ?l_hf ?h_hf ?f_hf⟩; (case l_hf => k_is); (case h_hf => decide +kernel); (case f_hf => rfl))
      | 10, _, _ => (refine' ⟨_, HF.intAt_mk ?l_hf ?h_hf ?f_hf⟩; (case l_hf => k_is); (case h_hf => decide +kernel); (case f_hf => rfl))
      | 11, _, _ => (refine' ⟨_, HF.intAt_mk ?l_hf ?h_hf ?f_hf⟩; (case l_hf => k_is); (case h_hf => decide +kernel); (case f_hf => rfl))
      | 12, _, _ => (refine' ⟨_, HF.intAt_mk ?l_hf ?h_hf ?f_hf⟩; (case l_hf => k_is); (case h_hf => decide +kernel); (case f_hf => rfl))
      | 14, _, _ => (refine' ⟨_, HF.intAt_mk ?l_hf ?h_hf ?f_hf⟩; (case l_hf => k_is); (case h_hf => decide +kernel); (case f_hf => rfl))
      | 15, _, _ => (refine' ⟨_, HF.intAt_mk ?l_hf ?h_hf ?f_hf⟩; (case l_hf => k_is); (case h_hf => decide +kernel); (case f_hf => rfl))
      | 17, _, _ => (refine' ⟨_, HF.intAt_mk ?l_hf ?h_hf ?f_hf⟩; (case l_hf => k_is); (case h_hf => decide +kernel); (case f_hf => rfl))
      | 18, _, _ => (refine' ⟨_, HF.intAt_mk ?l_hf ?h_hf ?f_hf⟩; (case l_hf => k_is); (case h_hf => decide +kernel); (case f_hf => rfl))
      | 19, _, _ => (refine' ⟨_, HF.intAt_mk ?l_hf ?h_hf ?f_hf⟩; (case l_hf => k_is); (case h_hf => decide +kernel); (case f_hf => rfl))
      | 20, _, _ => (refine' ⟨_, HF.intAt_mk ?l_hf ?h_hf ?f_hf⟩; (case l_hf => k_is); (case h_hf => decide +kernel); (case f_hf => rfl))
      | n + 21, hi, _ => exact absurd hi (by omega)
  case S =>
    intro K H vs req hO hIn hAsk hDw
    cases hDw with
    | cons hd1 hd2 =>
      cases hd2
      cases hd1 with
      | lst hsq hit =>
        have eq1 := L2.ints_dw req.1 _ hit
        subst eq1
        exact ⟨_, req.1, rfl, hsq, hAsk, fun H' r hr => .lst (L2.SqL.of hr) (L2.dw_ints _)⟩
#print axioms PySem.Challenge.cw_hurdlefolds_s01_answers_holds
